/- Layer 9, the reference: contract of Name. -/
import Derived.Test.YtondnbnaoacanaaGreatDoorSegE
import Derived.Test.YtondnbnaoacanaaGreatDoorCb
namespace Go.Proofs.YtondnbnaoacanaaGreatDoor
open Go.ChangeShapes Go.WideShapes Go.ChangeAt Go.RowKit Fb Go.Maps

def shr (m : Nat) : Nat → Nat
  | 0 => m
  | j + 1 => shr m j / 10
def dgi (m : Nat) : Nat → List Int
  | 0 => []
  | j + 1 => (48 + ((shr m j % 10 : Nat) : Int)) :: dgi m j
theorem str_cons (d : Int) (L : List Int) : strOfNums [d] ++ strOfNums L = strOfNums (d :: L) := by
  apply ByteArray.ext
  simp [strOfNums, ByteArray.data_append]
theorem dgi_len (m : Nat) : ∀ j, (dgi m j).length = j
  | 0 => rfl
  | j + 1 => by simp only [dgi, List.length_cons, dgi_len m j]
theorem dd_big {u : Nat} (h : ¬ u < 10) : Lib.decDigits u = Lib.decDigits (u / 10) ++ [UInt8.ofNat (48 + u % 10)] := by rw [Lib.decDigits, dif_neg h]
theorem dig_is {m : Nat} (h : m ≤ 99999999) : dig8 m = (dgi m 8).map (fun n => UInt8.ofNat n.toNat) := by
  unfold dig8
  rw [dd_big (by omega), dd_big (by omega), dd_big (by omega), dd_big (by omega), dd_big (by omega), dd_big (by omega), dd_big (by omega), dd_big (by omega), Lib.decDigits_one (by omega)]
  simp only [List.cons_append, List.nil_append, List.drop_succ_cons, List.drop_zero, dgi, shr, List.map_cons, List.map_nil, List.cons.injEq, and_true]
  refine ⟨?_, ?_, ?_, ?_, ?_, ?_, ?_, ?_⟩ <;> (congr 1; omega)
theorem nm_is {m : Nat} (h1 : 1 ≤ m) (h : m ≤ 99999999) : (⟨#[115, 101, 103, 46]⟩ : ByteArray) ++ strOfNums (dgi m 8) = nmS (m : Int) := by
  unfold nmS
  rw [if_pos (mayB_iff.2 ⟨by omega, by omega⟩), Int.toNat_natCast, dig_is h]
  apply ByteArray.ext
  simp [strOfNums, ByteArray.data_append]

set_option maxRecDepth 100000 in
set_option maxHeartbeats 4000000 in
theorem RName_any {m : Nat} (h1 : 1 ≤ m) (h2 : m ≤ 99999999) (w : World) :
    Calls Tryz.prog 8 #[.int .i64 (m : Int)] w fun e w' => e = .returned (.string (nmS (m : Int))) ∧ Below w.heap.size w w' := by
  have HN := hid (nm_is h1 h2)
  go_enter Tryz.func8, Tryz.ntmps8
  go_wp2
  go_loopw [0, 3, 4] (fun x s i wr => ∃ j : Nat, j ≤ 8 ∧ i = .int .i64 j ∧ x = .int .i64 (shr m j : Nat) ∧ s = .string (strOfNums (dgi m j)) ∧ Hid (shr m j ≤ 99999999) ∧ Below w.heap.size w wr) (fun _ _ i _ => 8 - (intOf i).toNat)
  case atStart => exact ⟨0, by omega, rfl, rfl, rfl, hid h2, Below.refl _ _⟩
  case round =>
    obtain ⟨j, hj, rfl, rfl, rfl, hs, hb⟩ := hrel
    by_cases hlt : j < 8
    · have hs1 := hs.out
      obtain ⟨r, hr⟩ : ∃ r, shr m j % 10 = r := ⟨_, rfl⟩
      obtain ⟨d, hd⟩ : ∃ d, shr m j / 10 = d := ⟨_, rfl⟩
      have HG := hid (show dgi m (j + 1) = (48 + (r : Int)) :: dgi m j by rw [← hr]; rfl)
      have HSH := hid (show shr m (j + 1) = d by rw [← hd]; rfl)
      have HSL := hid (show shr m (j + 1) ≤ 99999999 by show shr m j / 10 ≤ 99999999; omega)
      generalize shr m j = x at *
      have ht : Int.tmod (x : Int) 10 = (r : Int) := by rw [← hr]; rfl
      have hq : Int.tdiv (x : Int) 10 = (d : Int) := by rw [← hd]; rfl
      have hw0 : IntKind.i64.wrap (d : Int) = (d : Int) := by rw [i64_in (by omega) (by omega)]
      have hw1 : IntKind.u8.wrap (r : Int) = (r : Int) := IntWalk.u8_in _ (by omega)
      have hw2 : IntKind.u8.wrap (48 + (r : Int)) = 48 + (r : Int) := IntWalk.u8_in _ (by omega)
      have kc := conv8 (w := wr.alloc (.cells #[.int .u8 (48 + (r : Int))] 5)) (A := some ⟨wr.heap.size, 0, none⟩) (n := 1) (zs := [48 + (r : Int)]) 1 (Sl.freshAt (B := wr.heap.size + 1) wr #[.int .u8 (48 + (r : Int))] _ rfl (by omega) rfl rfl)
      go_wp2
      go_wp2
      · rename_i h9
        rw [str_size, str_size, dgi_len, List.length_singleton] at h9
        omega
      · exact ⟨⟨j + 1, by omega, by go_num, by rw [HSH.out], by rw [HG.out, str_cons], HSL, hb.alloc hb.size _⟩, by simp [intOf]; omega⟩
    · obtain rfl : j = 8 := by omega
      go_wp2
      all_goals first
        | (go_ret
           refine ⟨?_, hb⟩
           show Ending.returned (.string ((⟨#[115, 101, 103, 46]⟩ : ByteArray) ++ strOfNums (dgi m 8))) = _
           rw [HN.out])
        | (rename_i h9
           rw [str_size, dgi_len] at h9
           omega)
end Go.Proofs.YtondnbnaoacanaaGreatDoor
