/- Layer 9: what Head, Seal, Add and Make answer, plain; contracts of numbered, spell, Head, Seal. -/
import Derived.Test.YtondnbnaoacanaaGreatDoorSa
import Derived.Test.YtondnbnaoacanaaGreatDoorFa
import Derived.Test.YtondnbnaoacanaaGreatDoorCc
import Derived.Laws.IdiomStrings
namespace Go.Proofs.YtondnbnaoacanaaGreatDoor
open Go.ChangeShapes Go.WideShapes Go.ChangeAt Go.RowKit Fb Go.Maps

def mayB (n : Int) : Bool := decide (1 ≤ n ∧ n ≤ 99999999)
theorem mayB_iff {n : Int} : mayB n = true ↔ mayN n := decide_eq_true_iff
def hqOk (n : Int) (c : Ahd) : Bool := mayB n && (c.rc && c.l.isEmpty)
def hqE (n : Int) (c : Ahd) : Int := if hqOk n c = true then 0 else 1
def hqB (n : Int) (c : Ahd) : List Int := if hqOk n c = true then sgH n c else []
def zqOk (m : Int) (c : Ahd) : Bool := decide (0 ≤ m) && c.rc
def zqE (m : Int) (c : Ahd) : Int := if zqOk m c = true then 0 else 1
def zqB (m : Int) (c : Ahd) : List Int := if zqOk m c = true then sgZ m.toNat c else []
theorem hq_yes {n : Int} {c : Ahd} (h : hqOk n c = true) : hqE n c = 0 ∧ hqB n c = sgH n c := ⟨if_pos h, if_pos h⟩
theorem hq_no {n : Int} {c : Ahd} (h : hqOk n c = false) : hqE n c = 1 ∧ hqB n c = [] := by unfold hqE hqB; rw [h]; exact ⟨rfl, rfl⟩
theorem zq_yes {n : Int} {c : Ahd} (h : zqOk n c = true) : zqE n c = 0 ∧ zqB n c = sgZ n.toNat c := ⟨if_pos h, if_pos h⟩
theorem zq_no {n : Int} {c : Ahd} (h : zqOk n c = false) : zqE n c = 1 ∧ zqB n c = [] := by unfold zqE zqB; rw [h]; exact ⟨rfl, rfl⟩
theorem hq_iff {n : Int} {c : Ahd} : hqOk n c = true ↔ mayN n ∧ c.rc = true ∧ c.l = [] := by
  unfold hqOk
  rw [Bool.and_eq_true, Bool.and_eq_true, mayB_iff, List.isEmpty_iff]
theorem lebs_ten : ∀ (l : List Int), (∀ n ∈ l, n < 18446744073709551616) → (lebs l).length ≤ 10 * l.length
  | [], _ => by simp [lebs]
  | x :: l, h => by
    have h1 := lebs_ten l fun n hn => h n (List.mem_cons_of_mem _ hn)
    have h2 := leb_ten (n := x.toNat) (by have := h x (List.mem_cons_self ..); omega)
    have e : lebs (x :: l) = leb x.toNat ++ lebs l := by simp [lebs]
    rw [e, List.length_append, List.length_cons]
    omega
theorem hp_lebs (n : Int) (c : Ahd) : [102, 98, 120, 49] ++ lebs [n, c.q, c.t] = hpB n c := by simp [lebs, hpB]
theorem zp_lebs (m : Nat) (c : Ahd) : [] ++ lebs [(m : Int), c.q, c.t] = zpB m c := by simp [lebs, zpB]

theorem numbered_any (n : Int) (w : World) :
    Calls Tryz.prog 25 #[.int .i64 n] w fun e w' => e = .returned (.bool (mayB n)) ∧ w = w' := by
  by_cases h1 : 1 ≤ n <;> by_cases h2 : n < 100000000
  all_goals
    go_enter Tryz.func25, Tryz.ntmps25
    go_wp2
    go_ret
    exact ⟨ret_bool (by unfold mayB; first | (exact (decide_eq_true (by omega)).symm) | (exact (decide_eq_false (by omega)).symm)), rfl⟩

/-- '[]byte(s)' -/
theorem bytes_rw (w : World) {s : ByteArray} (hs : s.size ≤ maxLen) :
    Rw ((w.alloc (.cells (bytesRow s (grownCap w s.size 0 5)) 5 ((bytesRow s (grownCap w s.size 0 5)).size, (bytesRow s (grownCap w s.size 0 5)).size + 1))).drew) (some ⟨w.heap.size, 0, none⟩) s.size (grownCap w s.size 0 5) (sI s) := by
  have hge := grownCap_ge w s.size 0 5
  have hle := grownCap_le_maxLen w s.size 0 5 hs
  obtain ⟨cap, hcap⟩ : ∃ c, grownCap w s.size 0 5 = c := ⟨_, rfl⟩
  rw [hcap] at hge hle ⊢
  refine ⟨?_, hge, hle, fun h => by cases h⟩
  have h1 := Sl.marked w (bytesRow s cap) 5 ((bytesRow s cap).size, (bytesRow s cap).size + 1) (B := w.heap.size + 1) rfl (by omega) rfl rfl
  have hsz : (bytesRow s cap).size = cap := by
    unfold bytesRow
    rw [Array.size_append, Array.size_map, Array.size_replicate]
    have : s.data.size = s.size := rfl
    omega
  have h2 := h1.take (k := s.size) (by omega)
  have he : (bytesRow s cap).toList.take s.size = by8 (sI s) := by
    unfold bytesRow
    have hl : (s.data.map (fun b => Value.int .u8 b.toNat)).toList.length = s.size := by rw [Array.length_toList, Array.size_map]; rfl
    rw [Array.toList_append, ← hl, List.take_left]
    simp [by8, sI]
  rw [he] at h2
  refine Sl.up ⟨h2.1, h2.2⟩ ?_
  simp

set_option maxRecDepth 100000 in
set_option maxHeartbeats 4000000 in
theorem gspell_any (s : ByteArray) (hs : s.size ≤ 1000) {A : Option Addr} {n c : Nat} {L : List Int} {w : World} (hS : Sl w w.heap.size A n (ints L)) (hn : n ≤ 100) (hL : ∀ x ∈ L, 0 ≤ x ∧ x < 9223372036854775808) :
    Calls Tryz.prog 28 #[.string s, .slice A n c] w (Put8 w (sI s ++ lebs L)) := by
  have hlen : L.length = n := by have := hS.len; unfold ints at this; rw [List.length_map] at this; exact this
  have kc := fun (w : World) => run_bytes_of_string (P := Tryz.prog) w 9 26 5 s Tryz.underlying9 Tryz.underlying26 Tryz.underlying5
  have HRX := hid (bytes_rw w (s := s) (by unfold maxLen; omega))
  have hbx : Below w.heap.size w ((w.alloc (.cells (bytesRow s (grownCap w s.size 0 5)) 5 ((bytesRow s (grownCap w s.size 0 5)).size, (bytesRow s (grownCap w s.size 0 5)).size + 1))).drew) := ((Below.refl _ _).alloc (Nat.le_refl _) _).drew
  have HSN := hid hS
  have HSI := hid (show (sI s).length = s.size by unfold sI; rw [List.length_map, Array.length_toList]; rfl)
  have HL := hid hL
  have HLEN := hid hlen
  clear hS hL hlen
  obtain ⟨H, hH⟩ : ∃ H, sI s = H := ⟨_, rfl⟩
  rw [hH] at HRX HSI ⊢
  clear hH
  go_enter Tryz.func28, Tryz.ntmps28
  go_wp2
  go_loopw [5, 12] (fun v i wr => ∃ (j : Nat) (A9 : Option Addr) (n9 c9 : Nat), j ≤ n ∧ i = .int .i64 j ∧ v = .slice A9 n9 c9 ∧ Hid (Rw wr A9 n9 c9 (H ++ lebs (L.take j))) ∧ Below w.heap.size w wr)
    (fun _ i _ => n - (intOf i).toNat)
  case atStart => exact ⟨0, _, _, _, by omega, rfl, rfl, hid (by rw [List.take_zero, lebs_nil, List.append_nil]; exact HRX.out), hbx⟩
  case round =>
    obtain ⟨j, A9, n9, c9, hj, rfl, rfl, hRj, hbr⟩ := hrel
    by_cases hlt : j < n
    · obtain ⟨bb, oo, uu, rfl, hB9, hu9, hc9⟩ := (HSN.out.below hbr).get (k := j) hlt
      have hjl : j < L.length := by have := HLEN.out; omega
      obtain rfl : uu = .int .i64 (L[j]'hjl) := by
        simp only [ints, List.getElem?_map, List.getElem?_eq_getElem hjl, Option.map_some, Option.some.injEq] at hu9
        exact hu9.symm
      have hv := HL.out _ (List.getElem_mem hjl)
      have hnx := lebs_next (List.getElem?_eq_getElem hjl) H
      generalize L[j]'hjl = v9 at *
      obtain ⟨V, hV⟩ : ∃ V : Nat, v9.toNat = V := ⟨_, rfl⟩
      rw [hV] at hnx
      have hvw : IntKind.u64.wrap v9 = (V : Int) := by rw [u64_in _ (by omega) (by omega)]; omega
      have HNX := hid hnx
      have HV2 := hid (show V < 18446744073709551616 by omega)
      have HLN := hid (show (H ++ lebs (L.take j)).length ≤ 100000 by
        have h1 := lebs_ten (L.take j) (fun x hx => by have := HL.out x (List.mem_of_mem_take hx); omega)
        have h2 := HSI.out
        rw [List.length_take] at h1
        rw [List.length_append]; omega)
      clear hnx hu9 hV hjl hB9 hv
      go_wp2_with fail
      refine (PutU (m := V) hRj.out HLN.out HV2.out).mono ?_
      rintro e wz ⟨⟨AZ, nZ, cZ, rfl, hRZ⟩, hbZ⟩
      rw [HNX.out] at hRZ
      have HRZ := hid hRZ
      clear hRZ
      go_wp2_with fail
      go_roundw
      case rel => exact ⟨j + 1, _, _, _, by omega, by go_num, rfl, HRZ, hbr.trans (hbZ.mono hbr.size)⟩
      case measure => simp [intOf]; omega
    · obtain rfl : n = j := by omega
      go_wp2
      go_ret
      refine ⟨⟨_, _, _, rfl, ?_⟩, hbr⟩
      have h9 := hRj.out
      rw [List.take_of_length_le (by have := HLEN.out; omega)] at h9
      exact h9
end Go.Proofs.YtondnbnaoacanaaGreatDoor
