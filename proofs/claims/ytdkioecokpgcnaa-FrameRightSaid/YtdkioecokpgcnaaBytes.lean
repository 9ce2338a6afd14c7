/- Bytes as cells: slices of bytes, their copies, their texts. Words for all layers that speak of bytes. -/
import Derived.Test.YtdkioecokpgcnaaRows
import Derived.Test.YtdkioecokpgcnaaLib
import Derived.Test.YtdkioecokpgcnaaReads
import Derived.WalkKit
import Derived.ProofKit
import Derived.WalkLawsBesides
import Derived.Lib.Hide
import Derived.Lib.SliceRun
import Derived.RegionTactic
import Derived.OwnWalk
import Derived.Lib.Bytes
import Derived.Lib.SlBytesConst
namespace Go.Proofs.Ytdkioecokpgcnaa
open Go.ChangeShapes Go.WideShapes Go.ChangeAt Go.RowKit Fb

theorem u8_info : (Try.prog.info? 5).map (fun i => (i.zero, i.size, i.bytes)) = some (some (.int .u8 0), 1, 1) := by kernel_rfl
/-- bytes as cells -/
def by8 (l : List Int) : List Value := l.map (Value.int .u8)
theorem by8_len (l : List Int) : (by8 l).length = l.length := by simp [by8]
theorem by8_one (l : List Int) : ∀ u ∈ by8 l, u.oneCell' = true := by
  intro u hu
  obtain ⟨x, -, rfl⟩ := List.mem_map.1 hu
  rfl
theorem below_cells {W w1 : World} (hb : Below W.heap.size W w1) : (∀ b o, b < W.heap.size → w1.cell? ⟨b, o, none⟩ = W.cell? ⟨b, o, none⟩) ∧ (∀ b o, b < W.heap.size → w1.frozen? ⟨b, o, none⟩ = W.frozen? ⟨b, o, none⟩) :=
  ⟨fun b o h => hb.cell (p := ⟨b, o, none⟩) h, fun b o h => hb.frozen (p := ⟨b, o, none⟩) h⟩
theorem ret_int8 {k : IntKind} {a b : Int} (h : a = b) : Ending.returned (.int k a) = .returned (.int k b) := by rw [h]
/-- a store far from a slice -/
theorem Sl.far {w : World} {B n : Nat} {A : Option Addr} {xs : List Value} (h : Sl w B A n xs) {p : Addr} (hp : ∀ a, A = some a → a.block ≠ p.block) (u : Value) : Sl (w.setCell p u) B A n xs :=
  ⟨h.1, fun hn => by
    obtain ⟨b, o, hA, hb, hc⟩ := h.2 hn
    exact ⟨b, o, hA, hb, fun j x hx => (World.cell?_setCell_other _ _ _ _ (fun e => hp _ hA (by rw [e]))).trans (hc j x hx)⟩⟩

theorem by8_append (a b : List Int) : by8 (a ++ b) = by8 a ++ by8 b := by simp [by8]
/-- a slice that reads as these bytes, with room as slices have it -/
def Rw (w : World) (A : Option Addr) (n c : Nat) (zs : List Int) : Prop := Sl w w.heap.size A n (by8 zs) ∧ n ≤ c ∧ c ≤ maxLen ∧ (A = none → c = 0)
theorem Rw.below {w w' : World} {A : Option Addr} {n c : Nat} {zs : List Int} (h : Rw w A n c zs) (hb : Below w.heap.size w w') : Rw w' A n c zs := ⟨(h.1.below hb).up hb.size, h.2⟩
theorem own_rw {w : World} {base n : Nat} {v : Value} {zs : List Int} (h : w.ownsRow base 5 1 v n (by8 zs)) : ∃ A c, v = .slice A n c ∧ Rw w A n c zs ∧ (∀ a, A = some a → base ≤ a.block) := by
  obtain ⟨A, c, hv, h1, h2, h3, h4, h5⟩ := own_reads h (Nat.le_refl _)
  exact ⟨A, c, hv, ⟨h4, h1, h2, h3⟩, h5⟩
/-- 'string(b)' -/
theorem conv8 {w : World} {B n : Nat} {A : Option Addr} {zs : List Int} (c : Nat) (hS : Sl w B A n (by8 zs)) :
    (convert 22 9 (.slice A n c)).run Try.prog w = .ok (.string (strOfNums zs)) w := by
  have hl : n = zs.length := by have := hS.len; rw [by8_len] at this; exact this.symm
  rcases Nat.eq_zero_or_pos n with h0 | h0
  · obtain rfl : zs = [] := List.eq_nil_of_length_eq_zero (by omega)
    subst h0
    rcases A with _ | ad
    · exact run_convert_bytes_nil w 22 5 Try.underlying22 Try.underlying5 0 c 9 Try.underlying9
    · exact run_convert_bytes_back w 22 9 5 ad c [] Try.underlying22 Try.underlying5 Try.underlying9 (fun j hj => absurd hj (by simp))
  · obtain ⟨b, o, rfl, -, hc⟩ := hS.2 h0
    exact run_convert_bytes_arg w 22 5 Try.underlying22 Try.underlying5 b o n c zs hl.symm (fun i hi => hc i _ (by
      rw [by8, List.getElem?_map, List.getElem?_eq_getElem (by omega), List.getD_eq_getElem?_getD, List.getElem?_eq_getElem (by omega)]; rfl)) 9 Try.underlying9

theorem conv8d {w : World} {B n : Nat} {A : Option Addr} {zs : List Int} (c : Nat) (hS : Sl w B A n (by8 zs)) :
    (convert 22 9 (.slice A n c)).run Try.prog w.drew = .ok (.string (strOfNums zs)) w.drew := conv8 (w := w.drew) (B := B) c ⟨hS.1, hS.2⟩

/-- '[]byte("..")' of a text as it is typed: its row is marked -/
theorem lit8 (w : World) (C : Array Value) (n c b : Nat) (hb : w.heap.size = b) :
    (convert 22 22 (.slice (some ⟨b, 0, none⟩) n c)).run Try.prog (w.alloc (.cells C 5)) = .ok (.slice (some ⟨b, 0, none⟩) n c) (w.alloc (.cells C 5 (C.size, C.size + 1))) := by
  subst hb
  exact Go.Lib.run_convert_bytes_const w 22 5 C n c Try.underlying22 Try.underlying5
theorem str_inj {a b : List Int} (ha : Bytes a) (hb : Bytes b) (h : Go.Lib.bytesOf a = Go.Lib.bytesOf b) : a = b := by
  unfold Go.Lib.bytesOf at h
  have hl : a.length = b.length := by have := congrArg List.length h; simpa using this
  refine List.ext_getElem hl fun i h2 h3 => ?_
  have h4 : (a.map fun n => UInt8.ofNat n.toNat)[i]'(by simpa using h2) = (b.map fun n => UInt8.ofNat n.toNat)[i]'(by simpa using h3) := by simp only [h]
  simp only [List.getElem_map] at h4
  have h5 := congrArg UInt8.toNat h4
  have ba := ha _ (List.getElem_mem h2)
  have bb := hb _ (List.getElem_mem h3)
  rw [UInt8.toNat_ofNat_of_lt' (by simp [UInt8.size]; omega), UInt8.toNat_ofNat_of_lt' (by simp [UInt8.size]; omega)] at h5
  omega
/-- texts of bytes are the same just where the bytes are: as the walk asks it -/
theorem str_eq {a b : List Int} (ha : Bytes a) (hb : Bytes b) : ((strOfNums a).toList == (strOfNums b).toList) = decide (a = b) := by
  rw [Go.Lib.strOfNums_toList, Go.Lib.strOfNums_toList]
  by_cases h : a = b
  · subst h; simp
  · rw [decide_eq_false h]
    simpa using fun e => h (str_inj ha hb e)
set_option maxHeartbeats 1000000 in
theorem Clone_any {A : Option Addr} {n c B : Nat} {zs : List Int} {w : World} (hS : Sl w B A n (by8 zs)) (hB : B ≤ w.heap.size) (hnil : A = none → c = 0) (hn : zs.length ≤ 1000000) :
    Calls Try.prog 14 #[.slice A n c] w fun e w' => (∃ v, e = .returned v ∧ w'.ownsRow w.heap.size 5 1 v n (by8 zs)) ∧ Below w.heap.size w w' := by
  have kn := fun (w : World) (a : Option Addr) (n c : Nat) => Go.Lib.run_eql_slice_nil (P := Try.prog) w 22 5 a n c 0 0 Try.underlying22
  have hl : n = zs.length := by have := hS.len; rw [by8_len] at this; exact this.symm
  rcases A with _ | ad
  · obtain rfl := hnil rfl
    obtain rfl : n = 0 := by
      rcases Nat.eq_zero_or_pos n with h0 | h0
      · exact h0
      · obtain ⟨_, _, hA, _⟩ := hS.2 h0; cases hA
    obtain rfl : zs = [] := List.eq_nil_of_length_eq_zero hl.symm
    clear hnil hS hl
    go_enter Try.func14, Try.ntmps14
    go_wp2
    go_ret
    exact ⟨⟨_, rfl, by simp [by8], .inl ⟨rfl, rfl⟩⟩, Below.refl _ _⟩
  · obtain ⟨i0, hi0, hz0, hz1, hz2⟩ := info_parts u8_info
    have hnil' := hid hnil
    have hl' := hid hl
    clear hnil hl
    have hn0 : n ≤ 1000000 := by have := hl'.out; omega
    go_enter Try.func14, Try.ntmps14
    go_wp2_with (at_builtin; refine wpList_pushAll (B := B) rfl (.tmp 5) (.tmp 6) _ rfl Try.underlying22 hi0 hz0 hz1 hz2 rfl rfl (own_fresh w #[] 5 (base := w.heap.size) (n := 0) (xs := []) rfl (Nat.le_refl _) rfl rfl (Nat.zero_le _)) rfl (by simp) (m := n) (news := by8 zs) ?SL (fun v' w' hown hbel => ?_) (by8_one zs) (by simp only [maxLen]; omega) (by omega) (by simp))
    case SL => exact hS.below ((Below.refl _ _).alloc hB _)
    go_wp2
    go_ret
    exact ⟨⟨_, rfl, by simpa using hown⟩, ((Below.refl _ _).alloc (Nat.le_refl _) _).trans hbel⟩


end Go.Proofs.Ytdkioecokpgcnaa
