/- Texts laid together: NamesM, Names1, Names2, Names3, Names4. -/
import Derived.Test.YtondnbnaoacanaaGreatDoorEa
import Derived.Maps.OwnSet
import Derived.Maps.OwnIn
import Derived.Laws.Strings
import Derived.Test.YtondnbnaoacanaaGreatDoorRows
import Derived.Test.YtondnbnaoacanaaGreatDoorBase
import Derived.RangeFuncNested
import Derived.RangeFuncBound
import Derived.RangeFuncCalls
import Derived.RangeFuncLeaves
import Derived.RangeFuncBox
import Derived.Shelf.Abstract
import Derived.Shelf.RegionOpen
import Derived.WalkKit
import Derived.OwnWalkIn
import Derived.TacticsInMore
import Derived.LoopNIn
import Derived.LoopIn
import Derived.WalkLawsBesides
import Derived.Maps.OwnOps
import Derived.Lib.SliceRun
import Derived.OwnWalk
/- Names by their places: plain words, and what a map of places reads as. -/
namespace Go.Proofs.YtondnbnaoacanaaGreatDoor
open Go.Maps Fb

theorem txt_eq (a b : ByteArray) : (a.toList == b.toList) = decide (a = b) := by
  rw [ByteArray.toList_eq, ByteArray.toList_eq]
  by_cases h : a = b
  · subst h; simp
  · rw [decide_eq_false h]
    simp only [beq_eq_false_iff_ne, ne_eq]
    intro e
    apply h
    obtain ⟨⟨x⟩⟩ := a
    obtain ⟨⟨y⟩⟩ := b
    simpa using e

/-- the place of a name: the first one, from 1 on; 0: none -/
def plc (s : ByteArray) : List ByteArray → Nat
  | [] => 0
  | x :: r => if x = s then 1 else if plc s r = 0 then 0 else plc s r + 1
theorem plc_nil (s : ByteArray) : plc s [] = 0 := rfl
theorem plc_cons (s x : ByteArray) (r : List ByteArray) : plc s (x :: r) = if x = s then 1 else if plc s r = 0 then 0 else plc s r + 1 := rfl
theorem plc_le (s : ByteArray) : ∀ l : List ByteArray, plc s l ≤ l.length
  | [] => Nat.le_refl _
  | x :: r => by
    have := plc_le s r
    rw [plc_cons]
    simp only [List.length_cons]
    split
    · omega
    · split <;> omega
theorem plc_zero (s : ByteArray) : ∀ l : List ByteArray, plc s l = 0 ↔ s ∉ l
  | [] => by simp [plc]
  | x :: r => by
    have := plc_zero s r
    rw [plc_cons]
    by_cases h : x = s
    · subst h; simp
    · rw [if_neg h]
      by_cases h0 : plc s r = 0
      · rw [if_pos h0]
        simp only [true_iff, List.mem_cons, not_or]
        exact ⟨fun e => h e.symm, this.1 h0⟩
      · rw [if_neg h0]
        refine ⟨fun e => by omega, fun e => ?_⟩
        exact absurd (this.2 (fun hm => e (List.mem_cons_of_mem _ hm))) h0
/-- at its place stands the name -/
theorem plc_at (s : ByteArray) : ∀ l : List ByteArray, 0 < plc s l → l[plc s l - 1]? = some s
  | [], h => by simp [plc] at h
  | x :: r, h => by
    have ih := plc_at s r
    rw [plc_cons] at h ⊢
    by_cases hx : x = s
    · subst hx; simp
    · rw [if_neg hx] at h ⊢
      by_cases h0 : plc s r = 0
      · rw [if_pos h0] at h; omega
      · rw [if_neg h0]
        have e : plc s r + 1 - 1 = (plc s r - 1) + 1 := by omega
        rw [e, List.getElem?_cons_succ]
        exact ih (by omega)
/-- nothing ahead of its place is it -/
theorem plc_first (s : ByteArray) : ∀ (l : List ByteArray) (k : Nat), (∀ j, j < k → l[j]? ≠ some s) → l[k]? = some s → plc s l = k + 1
  | [], k, _, h => by simp at h
  | x :: r, 0, _, h => by
    simp only [List.getElem?_cons_zero, Option.some.injEq] at h
    rw [plc_cons, if_pos h]
  | x :: r, k + 1, h0, h => by
    have hx : x ≠ s := fun e => h0 0 (by omega) (by simp [e])
    have ih := plc_first s r k (fun j hj => by have := h0 (j + 1) (by omega); simpa using this) (by simpa using h)
    rw [plc_cons, if_neg hx, ih, if_neg (by omega)]
theorem plc_none (s : ByteArray) (l : List ByteArray) (h : ∀ j, j < l.length → l[j]? ≠ some s) : plc s l = 0 := by
  rw [plc_zero]
  intro hm
  obtain ⟨i, hi, e⟩ := List.mem_iff_getElem.1 hm
  exact h i hi (by rw [List.getElem?_eq_getElem hi, e])
/-- a name behind the others -/
theorem plc_append (s x : ByteArray) : ∀ l : List ByteArray, plc s (l ++ [x]) = if plc s l = 0 then (if x = s then l.length + 1 else 0) else plc s l
  | [] => by
    rw [List.nil_append, plc_cons, plc_nil]
    simp
  | y :: r => by
    have ih := plc_append s x r
    rw [List.cons_append, plc_cons, plc_cons, ih]
    by_cases h : y = s
    · simp [h]
    · rw [if_neg h, if_neg h]
      by_cases h0 : plc s r = 0
      · rw [if_pos h0, if_pos h0, if_pos rfl]
        by_cases hx : x = s
        · rw [if_pos hx, if_pos hx, if_neg (by omega)]; simp
        · rw [if_neg hx, if_pos rfl, if_neg hx]
      · simp only [if_neg h0]
        rw [if_neg (by omega)]
/-- no two alike: each name's place is where it stands -/
theorem plc_nodup : ∀ l : List ByteArray, (∀ k (h : k < l.length), plc l[k] l = k + 1) ↔ l.Nodup
  | [] => by simp
  | x :: r => by
    have ih := plc_nodup r
    rw [List.nodup_cons, ← ih]
    constructor
    · intro h
      have hx : x ∉ r := by
        intro hm
        obtain ⟨i, hi, e⟩ := List.mem_iff_getElem.1 hm
        have := h (i + 1) (by simp; omega)
        rw [List.getElem_cons_succ, e, plc_cons, if_pos rfl] at this
        omega
      refine ⟨hx, fun k hk => ?_⟩
      have := h (k + 1) (by simp; omega)
      rw [List.getElem_cons_succ, plc_cons, if_neg (fun e => hx (by rw [e]; exact List.getElem_mem hk))] at this
      split at this <;> omega
    · rintro ⟨hx, h⟩ k hk
      rcases k with _ | k
      · rw [List.getElem_cons_zero, plc_cons, if_pos rfl]
      · have hk' : k < r.length := by simp at hk; omega
        rw [List.getElem_cons_succ, plc_cons, if_neg (fun e => hx (by rw [e]; exact List.getElem_mem hk')), h k hk', if_neg (by omega)]

/-- a list of names that is right -/
def rgB (l : List ByteArray) : Bool := decide (l.length ≤ 32) && (l.all nmB && decide l.Nodup)
theorem rgB_iff (l : List ByteArray) : rgB l = true ↔ l.length ≤ 32 ∧ (∀ s ∈ l, nmB s = true) ∧ l.Nodup := by
  unfold rgB
  simp
/-- why a name isn't put -/
def puE (l : List ByteArray) (s : ByteArray) : Int := if rgB l = false then 1 else if nmB s = false then 3 else if 0 < plc s l then 7 else if 32 ≤ l.length then 9 else 0
def puL (l : List ByteArray) (s : ByteArray) : List ByteArray := if puE l s = 0 then l ++ [s] else l
theorem puE_cases (l : List ByteArray) (s : ByteArray) : puE l s = 0 ∨ puE l s = 1 ∨ puE l s = 3 ∨ puE l s = 7 ∨ puE l s = 9 := by
  unfold puE
  repeat' split
  all_goals simp
theorem puE_zero {l : List ByteArray} {s : ByteArray} (h : puE l s = 0) : rgB l = true ∧ nmB s = true ∧ plc s l = 0 ∧ l.length < 32 := by
  unfold puE at h
  by_cases h1 : rgB l = false
  · rw [if_pos h1] at h; omega
  · rw [if_neg h1] at h
    by_cases h2 : nmB s = false
    · rw [if_pos h2] at h; omega
    · rw [if_neg h2] at h
      by_cases h3 : 0 < plc s l
      · rw [if_pos h3] at h; omega
      · rw [if_neg h3] at h
        by_cases h4 : 32 ≤ l.length
        · rw [if_pos h4] at h; omega
        · exact ⟨by simpa using h1, by simpa using h2, by omega, by omega⟩
/-- a right list that takes a name is right -/
theorem puL_right {l : List ByteArray} {s : ByteArray} (h : rgB l = true) : rgB (puL l s) = true := by
  unfold puL
  by_cases h0 : puE l s = 0
  · rw [if_pos h0]
    obtain ⟨h1, h2, h3, h4⟩ := puE_zero h0
    rw [rgB_iff] at h1 ⊢
    refine ⟨by simp; omega, ?_, ?_⟩
    · intro x hx
      rcases List.mem_append.1 hx with hx | hx
      · exact h1.2.1 x hx
      · simp at hx; subst hx; exact h2
    · rw [List.nodup_append]
      refine ⟨h1.2.2, by simp, ?_⟩
      intro a ha b hb e
      simp at hb
      subst hb e
      exact (plc_zero _ _).1 h3 ha
  · rw [if_neg h0]; exact h
theorem puL_prefix (l : List ByteArray) (s : ByteArray) : (puL l s).take l.length = l := by
  unfold puL
  split
  · simp
  · simp

/-! what the program's map reads as -/
section
variable {H : Type}
/-- the map behind some rounds: places and names, the last one first -/
def mpD (pre : List (Nat × ByteArray)) : DataW H := pre.foldl (fun D x => D.put (.string x.2.data.toList) (.lit (.int .i64 ((x.1 : Int) + 1)))) (.map [])
theorem mpD_nil : mpD (H := H) [] = .map [] := rfl
theorem mpD_snoc (pre : List (Nat × ByteArray)) (x : Nat × ByteArray) : mpD (H := H) (pre ++ [x]) = (mpD pre).put (.string x.2.data.toList) (.lit (.int .i64 ((x.1 : Int) + 1))) := by simp [mpD]
/-- what has come when k rounds are over: the last k names, the last one first -/
def dnS (l : List ByteArray) (k : Nat) : List (Nat × ByteArray) := (List.range k).map fun j => (l.length - 1 - j, l[l.length - 1 - j]?.getD default)
theorem dnS_zero (l : List ByteArray) : dnS l 0 = [] := rfl
theorem dnS_succ (l : List ByteArray) (k : Nat) : dnS l (k + 1) = dnS l k ++ [(l.length - 1 - k, l[l.length - 1 - k]?.getD default)] := by simp [dnS, List.range_succ]
theorem dnS_length (l : List ByteArray) (k : Nat) : (dnS l k).length = k := by simp [dnS]

theorem key_ne {a b : ByteArray} (h : a ≠ b) : Lit.string a.data.toList ≠ Lit.string b.data.toList := by
  intro e
  apply h
  obtain ⟨⟨x⟩⟩ := a
  obtain ⟨⟨y⟩⟩ := b
  simpa using e
theorem key_ok (s : ByteArray) : WideAt.IsKeyLit (.string s.data.toList) := trivial
theorem fold_tidy : ∀ (pre : List (Nat × ByteArray)) (D : DataW H), Tidy D → Tidy (pre.foldl (fun D x => D.put (.string x.2.data.toList) (.lit (.int .i64 ((x.1 : Int) + 1)))) D)
  | [], _, h => h
  | x :: r, _, h => fold_tidy r _ (h.put (key_ok x.2) _)
theorem mpD_tidy (pre : List (Nat × ByteArray)) : Tidy (mpD (H := H) pre) := fold_tidy pre _ tidy_empty
/-- what the map has behind k rounds: the last k names' places -/
theorem mpD_dn (l : List ByteArray) : ∀ k, k ≤ l.length →
    (∀ s, (mpD (H := H) (dnS l k)).atKey (.string s.data.toList) (.lit (.int .i64 0)) = .lit (.int .i64 (if plc s (l.drop (l.length - k)) = 0 then 0 else ((l.length - k + plc s (l.drop (l.length - k)) : Nat) : Int)))) ∧
    (∀ s, has (mpD (H := H) (dnS l k)) (.string s.data.toList) = decide (0 < plc s (l.drop (l.length - k)))) ∧
    (size (mpD (H := H) (dnS l k)) ≤ k) ∧ (size (mpD (H := H) (dnS l k)) = k ↔ (l.drop (l.length - k)).Nodup)
  | 0, _ => by
    rw [dnS_zero, mpD_nil, Nat.sub_zero, List.drop_length]
    refine ⟨fun s => rfl, fun s => ?_, Nat.le_refl _, ?_⟩
    · simp [has, plc]
    · simp [size]
  | k + 1, hk => by
    obtain ⟨ih1, ih2, ih3, ih4⟩ := mpD_dn l k (by omega)
    have hi : l.length - (k + 1) < l.length := by omega
    have e2 : l.length - 1 - k = l.length - (k + 1) := by omega
    have e1 : l.length - k = (l.length - (k + 1)) + 1 := by omega
    have e3 : l.drop (l.length - (k + 1)) = l[l.length - (k + 1)] :: l.drop (l.length - k) := by rw [e1]; exact List.drop_eq_getElem_cons hi
    have ht := mpD_tidy (H := H) (dnS l k)
    rw [dnS_succ, mpD_snoc, e2, List.getElem?_eq_getElem hi, Option.getD_some, e3]
    generalize l[l.length - (k + 1)] = x at *
    generalize l.drop (l.length - k) = r at *
    refine ⟨fun s => ?_, fun s => ?_, ?_, ?_⟩
    · by_cases h : x = s
      · subst h
        rw [atKey_put_same ht.isMap (key_ok _), plc_cons, if_pos rfl]
        simp
      · rw [atKey_put_other (key_ne (fun e => h e.symm)), ih1 s, plc_cons, if_neg h]
        by_cases h0 : plc s r = 0
        · rw [if_pos h0, if_pos h0, if_pos rfl]
        · rw [if_neg h0, if_neg h0, if_neg (by omega)]
          have e : l.length - k + plc s r = l.length - (k + 1) + (plc s r + 1) := by omega
          rw [e]
    · by_cases h : x = s
      · subst h
        rw [has_put_same ht.isMap (key_ok _), plc_cons, if_pos rfl]
        rfl
      · rw [has_put_other (key_ne (fun e => h e.symm)), ih2 s, plc_cons, if_neg h]
        by_cases h0 : plc s r = 0
        · rw [if_pos h0, h0]
        · rw [if_neg h0, decide_eq_true (by omega), decide_eq_true (by omega)]
    · rw [size_put ht]
      split <;> omega
    · rw [size_put ht, ih2 x, List.nodup_cons, ← ih4, ← plc_zero]
      by_cases h : plc x r = 0
      · rw [h, decide_eq_false (by omega), if_neg (by simp)]
        omega
      · rw [decide_eq_true (by omega), if_pos rfl]
        omega
/-- the whole map -/
theorem mpD_at (l : List ByteArray) (s : ByteArray) : (mpD (H := H) (dnS l l.length)).atKey (.string s.data.toList) (.lit (.int .i64 0)) = .lit (.int .i64 (plc s l)) := by
  rw [(mpD_dn l l.length (Nat.le_refl _)).1 s, Nat.sub_self, List.drop_zero]
  by_cases h : plc s l = 0
  · rw [if_pos h, h]; rfl
  · rw [if_neg h]; simp
theorem mpD_size (l : List ByteArray) : size (mpD (H := H) (dnS l l.length)) ≤ l.length ∧ (size (mpD (H := H) (dnS l l.length)) = l.length ↔ l.Nodup) := by
  obtain ⟨_, _, h3, h4⟩ := mpD_dn (H := H) l l.length (Nat.le_refl _)
  rw [Nat.sub_self, List.drop_zero] at h4
  exact ⟨h3, h4⟩
end
end Go.Proofs.YtondnbnaoacanaaGreatDoor
/- Layer 6: a map of places: a range over a function, from the last name on. -/
namespace Go.Proofs.YtondnbnaoacanaaGreatDoor
open Go.RowKit Go.Shelf Fb Go.Maps
attribute [local go_sem] Oper.semAt_some

/-- names as cells -/
def st9 (l : List ByteArray) : List Value := l.map Value.string
theorem st9_len (l : List ByteArray) : (st9 l).length = l.length := by simp [st9]
theorem st9_one (l : List ByteArray) : ∀ u ∈ st9 l, u.oneCell' = true := by
  intro u hu
  obtain ⟨x, -, rfl⟩ := List.mem_map.1 hu
  rfl
theorem st9_append (a b : List ByteArray) : st9 (a ++ b) = st9 a ++ st9 b := by simp [st9]
theorem st9_at {l : List ByteArray} {k : Nat} {u : Value} (h : (st9 l)[k]? = some u) : u = .string (l[k]?.getD default) := by
  unfold st9 at h
  rw [List.getElem?_map] at h
  cases e : l[k]? with
  | none => rw [e] at h; cases h
  | some x => rw [e] at h; simp at h; simp [h]

/-- names that are no longer than texts may be, and not too many -/
def Ok9 (l : List ByteArray) : Prop := l.length ≤ 1000000 ∧ ∀ s ∈ l, s.size ≤ maxLen
/-- a place and its name -/
abbrev N9 := { x : Nat × ByteArray // x.1 ≤ 1000000 ∧ x.2.size ≤ maxLen }
def at9 {l : List ByteArray} (h : Ok9 l) (j : Nat) (hj : j ≤ l.length) : N9 := ⟨(j, l[j]?.getD default), by
  refine ⟨Nat.le_trans hj h.1, ?_⟩
  rcases Nat.lt_or_ge j l.length with hj | hj
  · rw [List.getElem?_eq_getElem hj]; exact h.2 _ (List.getElem_mem hj)
  · rw [List.getElem?_eq_none hj]; exact Nat.zero_le _⟩
def dn9 {l : List ByteArray} (h : Ok9 l) (k : Nat) : List N9 := (List.range k).map fun j => at9 h (l.length - 1 - j) (by omega)
theorem dn9_succ {l : List ByteArray} (h : Ok9 l) (k : Nat) : dn9 h (k + 1) = dn9 h k ++ [at9 h (l.length - 1 - k) (by omega)] := by simp [dn9, List.range_succ]
theorem dn9_length {l : List ByteArray} (h : Ok9 l) (k : Nat) : (dn9 h k).length = k := by simp [dn9]
theorem dn9_val {l : List ByteArray} (h : Ok9 l) (k : Nat) : (dn9 h k).map (·.1) = dnS l k := by simp [dn9, dnS, at9]

/-- what a round keeps: what lay below n₀, and the cell of the slice that is gone through -/
def KS (n₀ Bs : Nat) (A B : World) : Prop := Below n₀ A B ∧ B.cell? ⟨Bs, 0, none⟩ = A.cell? ⟨Bs, 0, none⟩
theorem KS.trans {n₀ Bs : Nat} {A B C : World} (h : KS n₀ Bs A B) (k : KS n₀ Bs B C) : KS n₀ Bs A C := ⟨h.1.trans k.1, k.2.trans h.2⟩
theorem KS.refl (n₀ Bs : Nat) (A : World) : KS n₀ Bs A A := ⟨Below.refl _ _, rfl⟩
theorem KS.put {n₀ Bs : Nat} {w : World} (hn : n₀ ≤ w.heap.size) (hB : Bs < w.heap.size) (W : World) (l : Nat) (o o' : Obj) (hl : w.heap.size ≤ l) (h : W.heap[l]? = some o) (ho : o.isCells = false) (hw : o.isWalk = false) : KS n₀ Bs W (W.putObj l o') :=
  ⟨belowK_b hn W l o o' hl h ho hw, World.cell?_of_block ((grownBy_putObj' W l o').block Bs (by have := (Array.getElem?_eq_some_iff.1 h).1; omega) (fun e => by cases e; omega))⟩

set_option maxRecDepth 100000 in
set_option maxHeartbeats 2000000 in
theorem backS1_in (F : Fence) (n : Nat) (hf : F.fn 106) (hro : F.round = none) (hn : 1 ≤ n) (l Bs n₀ cap : Nat) (A : Option Addr) (ss : List ByteArray) (hz : Ok9 ss) (J Jx : List N9 → World → Prop)
    (hY : ∀ pre x W, J pre W → pre.length < ss.length → YieldAt F (n - 1) Tryz.prog l #[.int .i64 (x.1.1 : Int), .string x.1.2] W fun e W' =>
      (e = .returned (.bool true) ∧ J (pre ++ [x]) W' ∧ KS n₀ Bs W W') ∨ (e = .returned (.bool false) ∧ Jx (pre ++ [x]) W'))
    (W : World) (hBs : W.cell? ⟨Bs, 0, none⟩ = some (.slice A ss.length cap)) (hS : Sl W n₀ A ss.length (st9 ss)) (h0 : J [] W) :
    CallsIn F n Tryz.prog 106 #[.func (.yield l) #[] #[], .pointer (some ⟨Bs, 0, none⟩)] W fun e W' => (∃ v, e = .returned v) ∧
      ((∃ ys, ys = dn9 hz ss.length ∧ J ys W') ∨ (∃ pre, (∃ k, k ≤ ss.length ∧ pre = dn9 hz k) ∧ Jx pre W')) := by
  refine callsIn_of_wp Tryz.func106 rfl hf ?_ hro
  simp only [Tryz.ntmps106, List.size_toArray, List.length_cons, List.length_nil, Nat.reduceAdd, Nat.reduceSub, Array.replicate_succ, Array.replicate_zero, List.push_toArray, List.append_toArray, List.nil_append, List.cons_append]
  have hlen0 : ss.length ≤ 1000000 := hz.1
  gi_wp2
  gi_loopw [3] (fun i wr => ∃ (q : Int) (k : Nat), Hid (q = (k : Int) - 1) ∧ k ≤ ss.length ∧ i = .int .i64 q ∧ J (dn9 hz (ss.length - k)) wr ∧ KS n₀ Bs W wr)
    (fun i _ => (intOf i + 1).toNat)
  case atStart => exact ⟨_, ss.length, rfl, Nat.le_refl _, rfl, by simpa [dn9] using h0, KS.refl _ _ _⟩
  case round =>
    obtain ⟨q, k, hq, hk, rfl, hJs, hnx⟩ := hrel
    have hs : wr.cell? ⟨Bs, 0, none⟩ = some (.slice A ss.length cap) := hnx.2.trans hBs
    rcases k with _ | i
    · obtain rfl : q = -1 := by have := hq.out; simpa using this
      clear hq
      gi_wp2
      go_end0
      exact ⟨⟨_, rfl⟩, .inl ⟨_, rfl, by simpa using hJs⟩⟩
    · obtain rfl : q = (i : Int) := by have := hq.out; omega
      clear hq
      obtain ⟨b, off, u, rfl, hb, hu, hcx⟩ := (hS.below hnx.1).get (k := i) (by omega)
      rw [st9_at hu] at hcx
      clear hu
      obtain ⟨fn, tmps, assign, body, hy, hR⟩ := hY _ (at9 hz i (by omega)) wr hJs (by rw [dn9_length]; omega)
      have hd : dn9 hz (ss.length - i) = dn9 hz (ss.length - (i + 1)) ++ [at9 hz i (by omega)] := by
        have e1 : ss.length - i = (ss.length - (i + 1)) + 1 := by omega
        have e2 : ss.length - 1 - (ss.length - (i + 1)) = i := by omega
        rw [e1, dn9_succ]
        congr 3
      have HD := hid hd
      clear hd
      have hlen : ss.length ≤ 1000000 := hz.1
      have eX : (at9 hz i (by omega)).1 = (i, ss[i]?.getD default) := rfl
      generalize (at9 hz i (by omega)) = X at *
      obtain ⟨⟨x1, x⟩, hx1, hx2⟩ := X
      simp only [Prod.mk.injEq] at eX
      obtain ⟨rfl, eX⟩ := eX
      rw [← eX] at hcx
      clear eX
      dsimp only at hy hx1 hx2
      gi_wp2
      refine hR.mono ?_
      rintro e W3 (⟨rfl, hJ3, hk3⟩ | ⟨rfl, hJx3⟩)
      · gi_wp2
        go_roundw
        case rel => exact ⟨_, x1, rfl, by omega, rfl, by rw [HD.out]; exact hJ3, hnx.trans hk3⟩
        case measure => simp [intOf]
      · gi_wp2
        refine bodyPost_ret (results_none rfl _ _ _) rfl ?_
        exact ⟨⟨_, rfl⟩, .inr ⟨_, ⟨ss.length - x1, by omega, HD.out.symm⟩, hJx3⟩⟩

set_option maxHeartbeats 1000000 in
theorem backS_in (F : Fence) (n : Nat) (hf : F.fn 88) (hro : F.round = none) (a : Option Addr) (len cap : Nat) (w : World) :
    CallsIn F n Tryz.prog 88 #[.slice a len cap] w fun e w' => e = .returned (.func (.func 106) #[] #[.pointer (some ⟨w.heap.size, 0, none⟩)]) ∧ w' = w.alloc (.cells #[.slice a len cap] 22) := by
  refine callsIn_of_wp Tryz.func88 rfl hf ?_ hro
  simp only [Tryz.ntmps88, List.size_toArray, List.length_cons, List.length_nil, Nat.reduceAdd, Nat.reduceSub, Array.replicate_succ, Array.replicate_zero, List.push_toArray, List.append_toArray, List.nil_append, List.cons_append]
  gi_wp2
  go_ret
  exact ⟨rfl, rfl⟩

theorem backS_stops (F : Fence) (n : Nat) (hf : F.fn 106) (hro : F.round = none) (hn : 1 ≤ n) (Bs n₀ cap : Nat) (A : Option Addr) (ss : List ByteArray) (hz : Ok9 ss) (w : World) (hBs : Bs < w.heap.size) (hn₀ : n₀ ≤ w.heap.size)
    (hcs : w.cell? ⟨Bs, 0, none⟩ = some (.slice A ss.length cap)) (hS : Sl w n₀ A ss.length (st9 ss)) :
    SeqStopsK F n Tryz.prog 106 #[.pointer (some ⟨Bs, 0, none⟩)] (fun x : N9 => #[Value.int .i64 (x.1.1 : Int), Value.string x.1.2]) (KS n₀ Bs) (fun ys => ys = dn9 hz ss.length)
      (fun pre => ∃ k, k ≤ ss.length ∧ pre = dn9 hz k) ss.length w := fun l J Jx W hW _ _ hY h0 =>
  backS1_in F n hf hro hn l Bs n₀ cap A ss hz J Jx hY W ((hW.cell (p := ⟨Bs, 0, none⟩) hBs).trans hcs) (hS.below (hW.mono hn₀)) h0
end Go.Proofs.YtondnbnaoacanaaGreatDoor
/- Layer 6: the map of places. -/
namespace Go.Proofs.YtondnbnaoacanaaGreatDoor
open Go.RowKit Go.Shelf Fb Go.Maps
open Go.WideMaps (keyOf_string_mk)
attribute [local go_sem] Oper.semAt_some

theorem law9 : Keyed Tryz.prog 9 := string_keyed Tryz.underlying9
theorem zero3 (w : World) : (zeroValue 3).run Tryz.prog w = .ok (.int .i64 0) w := by kernel_rfl
theorem wf_place (k : Nat) (h : k ≤ 1000000) : (Lit.int .i64 ((k : Int) + 1)).wf = true := WalkArith.wf_i64 (by omega)

/-- the map that the rounds write, in a box of its own -/
def PM (w : World) (B : Nat) (pre : List N9) (W : World) : Prop :=
  (Boxed W (B + 1) 103 (.map (some B)) ∧ W.ownsMap Tryz.prog 9 (plainElem (H := Unit) Tryz.prog 3) B pre.length (mpD (pre.map (·.1)))) ∧ Below w.heap.size w W ∧ B + 3 ≤ W.heap.size
theorem PM.own {w : World} {B C : Nat} (hB : w.heap.size = B) (hC : B + 2 ≤ C) : OwnFrom C (PM w B) := by
  rintro s X Y row ⟨⟨h1, h2⟩, h3, h4⟩ hg hr
  have hn : ∀ j, row = some j → C ≤ j := fun j e => (hr j e).1
  refine ⟨⟨h1.kept hg (fun e => ?_), h2.kept hg (fun e => ?_)⟩, h3.grown hg (Nat.le_trans h3.size (Nat.le_refl _)) (fun j e => ?_), Nat.le_trans h4 hg.size⟩
  · have := hn _ e.symm; omega
  · have := hn _ e.symm; omega
  · have := hn _ e; omega

set_option maxRecDepth 100000 in
set_option maxHeartbeats 2000000 in
theorem places_in (F : Fence) (n : Nat) (h3 : F.fn 62) (h5 : F.fn 88) (h7 : F.fn 106) (hro : F.round = none) (hn : 3 ≤ n) (A : Option Addr) (cap : Nat) (ss : List ByteArray) (hz : Ok9 ss)
    (w : World) (hS : Sl w w.heap.size A ss.length (st9 ss)) :
    CallsIn F n Tryz.prog 62 #[.slice A ss.length cap] w fun e W' => (∃ b, e = .returned (.map (some b)) ∧ W'.ownsMap Tryz.prog 9 (plainElem (H := Unit) Tryz.prog 3) b ss.length (mpD (dnS ss ss.length))) ∧ Below w.heap.size w W' := by
  have h1 : 1 ≤ n := by omega
  have hmm := @run_makeMap Tryz.prog
  refine callsIn_of_wp_marks Tryz.func62 rfl h3 ?_ hro
  simp only [Tryz.ntmps62, List.size_toArray, List.length_cons, List.length_nil, Nat.reduceAdd, Nat.reduceSub, Array.replicate_succ, Array.replicate_zero, List.push_toArray, List.append_toArray, List.nil_append, List.cons_append]
  gi_wp2_with (gi_at_call 88; refine (backS_in F (n - 1) h5 hro _ _ _ _).mono ?_; rintro e w' ⟨rfl, rfl⟩)
  have bM := (World.ownsMap_made (H := Unit) w Tryz.prog 9 (plainElem Tryz.prog 3))
  have bS := Boxed.new (w.alloc (.map #[] 0)) 103 (.map (some w.heap.size))
  have bN := Boxed.new ((w.alloc (.map #[] 0)).alloc (.cells #[.map (some w.heap.size)] 103)) 22 (.slice A ss.length cap)
  rw [World.size_alloc] at bS
  rw [World.size_alloc, World.size_alloc] at bN
  have hB0 : Below w.heap.size w (((w.alloc (.map #[] 0)).alloc (.cells #[.map (some w.heap.size)] 103)).alloc (.cells #[.slice A ss.length cap] 22)) := (((Below.refl _ w).alloc (Nat.le_refl _) _).alloc (by simp) _).alloc (by simp; omega) _
  refine wpIn_rangeFunc_ownG hro h1 (gf := 106) (lb := #[.pointer (some ⟨w.heap.size + 1 + 1, 0, none⟩)]) rfl h7 (enters_of Tryz.func106 (by kernel_rfl) rfl)
    (backS_stops F (n - 1) h7 hro (by omega) (w.heap.size + 1 + 1) w.heap.size cap A ss hz _ (by simp) (by simp; omega) bN.cell (hS.below hB0)) KS.trans (KS.put (by simp; omega) (by simp)) (Below.refl _ _) (fun _ => rfl)
    (PM w w.heap.size)
    (fun _ _ _ => False)
    (PM.own rfl (by simp))
    (fun _ _ _ _ _ hs _ _ => hs)
    ⟨⟨bS.alloc _, (bM.alloc _).alloc _⟩, hB0, by simp⟩
    (fun x => { tmps := #[.slice A ss.length cap, undef, .map none, .pointer (some ⟨w.heap.size + 1, 0, none⟩), .int .i64 (x.1.1 : Int), .string x.1.2, .map (some w.heap.size), .slice A ss.length cap, .func (.func 106) #[] #[.pointer (some ⟨w.heap.size + 1 + 1, 0, none⟩)], .int .i64 (x.1.1 : Int), .string x.1.2, undef, undef, undef, undef, undef], defers := [] }) ?assign ?body ?done ?stop
  case assign =>
    intro l x W K hK
    gi_wp2
    exact hK
  case body =>
    rintro l pre ⟨⟨x1, x2⟩, hx1, hx2⟩ W ⟨⟨hc, hown⟩, hB, hz3⟩ hpre
    have c0 := hc.cell
    have hx1' : x1 ≤ 1000000 := hx1
    have hx2' : x2.size ≤ maxLen := hx2
    have hl := hz.1
    gi_wp2_with (gi_at_mapUpdate; (refine wpListIn_mapUpdate_own _ rfl _ _ _ 103 rfl 9 3 law9 Tryz.underlying103 _ w.heap.size pre.length _ rfl hown (by unfold maxLen; omega) _ _ (.string x2.data.toList) rfl rfl (keyOf_string_mk Tryz.underlying9 hx2') _ [] (plainElem_int Tryz.underlying3 (wf_place x1 hx1')) ?_); intro W1 hown1 hg1)
    have hB1 : Below w.heap.size W W1 := (Below.refl _ W).grown hg1 hB.size (fun j e => by cases e; exact Nat.le_refl _)
    refine ⟨KeepsFrom.of_grownBy hg1 (fun j e => by cases e; simp; omega), ⟨hB1, World.cell?_of_block (hg1.block (w.heap.size + 1 + 1) (by omega) (fun e => by have := Option.some.inj e; omega))⟩, ⟨hc.kept hg1 (fun e => by have := Option.some.inj e; omega), ?_⟩, hB.trans hB1, Nat.le_trans hz3 hg1.size⟩
    rw [List.map_append, List.map_singleton, mpD_snoc, List.length_append]
    exact hown1
  case done =>
    rintro D ys W hD rfl ⟨⟨hc, hown⟩, hB, hz3⟩ hK
    have c0 := hc.cell
    gi_wp2
    refine ⟨by simp, .inl ⟨_, _, rfl, run_takeDeferred hK, ?_⟩⟩
    exact ⟨_, results_tmp rfl _ _ _, ⟨_, rfl, by
      have := hown.kept (grownBy_putObj' W D (.deferred none)) (by simp at hD ⊢; omega)
      rwa [dn9_length, dn9_val] at this⟩, hB.trans (belowK_b (w := w) (Nat.le_refl _) W D _ _ (by simp at hD; omega) hK rfl rfl)⟩
  case stop =>
    rintro D c pre W _ _ h _
    exact h.elim

theorem places_any {A : Option Addr} {cap n B : Nat} {ss : List ByteArray} (hz : Ok9 ss) {w : World} (hS : Sl w B A n (st9 ss)) (hB : B ≤ w.heap.size) :
    Calls Tryz.prog 62 #[.slice A n cap] w fun e W' => (∃ b, e = .returned (.map (some b)) ∧ W'.ownsMap Tryz.prog 9 (plainElem (H := Unit) Tryz.prog 3) b ss.length (mpD (dnS ss ss.length))) ∧ Below w.heap.size w W' := by
  have hl : n = ss.length := by have := hS.len; rw [st9_len] at this; exact this.symm
  subst hl
  exact callsIn_wide.1 (places_in Fence.wide 3 trivial trivial trivial rfl (Nat.le_refl _) A cap ss hz w (hS.up hB))
end Go.Proofs.YtondnbnaoacanaaGreatDoor
/- Layer 6: contracts of names: Place, Right, At. -/
namespace Go.Proofs.YtondnbnaoacanaaGreatDoor
open Go.ChangeShapes Go.WideShapes Go.ChangeAt Go.RowKit Fb Go.Maps
open Go.WideMaps (keyOf_string_mk)

theorem ok_int (k : Int) (h : -9223372036854775808 ≤ k ∧ k ≤ 9223372036854775807) : (Lit.int .i64 k).wf = true := WalkArith.wf_i64 h

set_option maxHeartbeats 1000000 in
theorem Place_any {A : Option Addr} {cap n B : Nat} {ss : List ByteArray} (hz : Ok9 ss) {s : ByteArray} (hs : s.size ≤ maxLen) {w : World} (hS : Sl w B A n (st9 ss)) (hB : B ≤ w.heap.size) :
    Calls Tryz.prog 69 #[.slice A n cap, .string s] w fun e w' => e = .returned (.int .i64 (plc s ss)) ∧ Below w.heap.size w w' := by
  have PP := hid (fun cap => places_any (cap := cap) hz hS hB)
  have hat := mpD_at (H := Unit) ss s
  clear hz hS
  go_enter Tryz.func69, Tryz.ntmps69
  go_wp2_with fail
  refine (PP.out _).mono ?_
  rintro e w1 ⟨⟨b, rfl, hown⟩, hb⟩
  go_wp2_with (at_lookup; refine wpList_lookup_own_int _ rfl _ _ 103 rfl 9 3 .i64 law9 Tryz.underlying103 Tryz.underlying3 (zero3 _) b ss.length _ rfl hown _ _ rfl (keyOf_string_mk Tryz.underlying9 hs) ?_; intro c hc hwc)
  go_ret
  rw [hat] at hc
  cases hc
  exact ⟨rfl, hb⟩

theorem wrong_any (s : ByteArray) (w : World) :
    Calls Tryz.prog 61 #[.string s] w fun e w' => e = .returned (.bool (!nmB s)) ∧ w = w' := by
  go_enter Tryz.func61, Tryz.ntmps61
  go_wp2_with fail
  refine (Named_any s _).mono ?_
  rintro e w1 ⟨rfl, rfl⟩
  go_wp2
  go_ret
  exact ⟨rfl, rfl⟩

/-- the first name that is wrong -/
def fw : List ByteArray → Nat
  | [] => 0
  | x :: r => if nmB x then fw r + 1 else 0
theorem fw_le : ∀ l, fw l ≤ l.length
  | [] => Nat.le_refl _
  | x :: r => by have := fw_le r; simp only [fw, List.length_cons]; split <;> omega
theorem fw_all : ∀ l : List ByteArray, fw l = l.length ↔ l.all nmB = true
  | [] => by simp [fw]
  | x :: r => by
    have := fw_all r
    simp only [fw, List.length_cons, List.all_cons, Bool.and_eq_true]
    split
    · rename_i h; simp [h, ← this]
    · rename_i h; simp [h]
theorem fw_here : ∀ (l : List ByteArray) (k : Nat) (h : k < l.length), k ≤ fw l → nmB l[k] = false → fw l = k
  | [], k, h, _, _ => by simp at h
  | x :: r, 0, _, _, h => by simp at h; simp [fw, h]
  | x :: r, k + 1, h, hk, hn => by
    simp only [fw] at hk ⊢
    split at hk
    · rename_i hx
      rw [if_pos hx, fw_here r k (by simpa using h) (by omega) (by simpa using hn)]
    · omega
theorem fw_next : ∀ (l : List ByteArray) (k : Nat) (h : k < l.length), k ≤ fw l → nmB l[k] = true → k + 1 ≤ fw l
  | [], k, h, _, _ => by simp at h
  | x :: r, 0, _, _, h => by simp at h; simp [fw, h]
  | x :: r, k + 1, h, hk, hn => by
    simp only [fw] at hk ⊢
    split at hk
    · rename_i hx
      have := fw_next r k (by simpa using h) (by omega) (by simpa using hn)
      rw [if_pos hx]; omega
    · omega

def fwI (l : List ByteArray) : Int := if fw l = l.length then -1 else (fw l : Int)
set_option maxHeartbeats 2000000 in
theorem IndexFunc_any {A : Option Addr} {n c B : Nat} {ss : List ByteArray} {w : World} (hS : Sl w B A n (st9 ss)) (hn : ss.length ≤ 1000000) :
    Calls Tryz.prog 86 #[.slice A n c, .func (.func 61) #[] #[]] w fun e w' => e = .returned (.int .i64 (fwI ss)) ∧ w = w' := by
  have hl : n = ss.length := by have := hS.len; rw [st9_len] at this; exact this.symm
  subst hl
  go_enter Tryz.func86, Tryz.ntmps86
  go_wp2
  go_loop [8] (fun i => ∃ k : Nat, k ≤ ss.length ∧ k ≤ fw ss ∧ i = .int .i64 k) (fun i => ss.length - (intOf i).toNat)
  case atStart => exact ⟨0, Nat.zero_le _, Nat.zero_le _, rfl⟩
  case round =>
    obtain ⟨k, hk, hf, rfl⟩ := hrel
    by_cases hlt : k < ss.length
    · obtain ⟨b, o, u, rfl, hb, hu, hc⟩ := hS.get (k := k) hlt
      obtain rfl : u = .string ss[k] := by
        rw [st9_at hu, List.getElem?_eq_getElem hlt]; rfl
      have hnx := fun h => fw_next ss k hlt hf h
      have hre := fun h => fw_here ss k hlt hf h
      generalize ss[k] = x at *
      have NX := hid hnx
      have RE := hid hre
      clear hnx hre hu
      go_wp2_with fail
      refine (wrong_any x _).mono ?_
      rintro e w1 ⟨rfl, rfl⟩
      cases hx : nmB x with
      | false =>
        have := RE.out hx
        go_wp2
        go_ret
        exact ⟨ret_int (by rw [fwI, if_neg (by omega)]; omega), rfl⟩
      | true =>
        have := NX.out hx
        go_wp2
        go_round
        case rel => exact ⟨k + 1, by omega, NX.out hx, by go_num⟩
        case measure => simp [intOf]; omega
    · go_wp2
      go_ret
      have := fw_le ss
      exact ⟨ret_int (by rw [fwI, if_pos (by omega)]), rfl⟩

theorem Contains_any {A : Option Addr} {n c B : Nat} {ss : List ByteArray} {w : World} (hS : Sl w B A n (st9 ss)) (hn : ss.length ≤ 1000000) :
    Calls Tryz.prog 60 #[.slice A n c, .func (.func 61) #[] #[]] w fun e w' => e = .returned (.bool (!ss.all nmB)) ∧ w = w' := by
  have P := hid (IndexFunc_any (c := c) hS hn)
  have hA := fw_all ss
  cases hh : ss.all nmB with
  | true =>
    have e : fwI ss = -1 := by rw [fwI, if_pos (hA.2 hh)]
    rw [e] at P
    go_enter Tryz.func60, Tryz.ntmps60
    go_wp2_with fail
    refine P.out.mono ?_
    rintro e w1 ⟨rfl, rfl⟩
    go_wp2_with fail
    go_ret
    exact ⟨rfl, rfl⟩
  | false =>
    have e : 0 ≤ fwI ss := by rw [fwI, if_neg (fun h => by rw [hA.1 h] at hh; cases hh)]; omega
    go_enter Tryz.func60, Tryz.ntmps60
    go_wp2_with fail
    refine P.out.mono ?_
    rintro e w1 ⟨rfl, rfl⟩
    go_wp2_with fail
    go_ret
    exact ⟨rfl, rfl⟩

set_option maxHeartbeats 2000000 in
theorem Right_any {A : Option Addr} {cap n B : Nat} {ss : List ByteArray} (hz : Ok9 ss) {w : World} (hS : Sl w B A n (st9 ss)) (hB : B ≤ w.heap.size) :
    Calls Tryz.prog 43 #[.slice A n cap] w fun e w' => e = .returned (.bool (rgB ss)) ∧ Below w.heap.size w w' := by
  have hl : n = ss.length := by have := hS.len; rw [st9_len] at this; exact this.symm
  subst hl
  have PP := hid (fun cap => places_any (cap := cap) hz hS hB)
  have PC := hid (fun c => Contains_any (c := c) hS hz.1)
  have hsz := mpD_size (H := Unit) ss
  have hz1 := hz.1
  clear hz hS
  by_cases h1 : ss.length ≤ 32
  · cases h2 : ss.all nmB with
    | false =>
      rw [h2] at PC
      have e : rgB ss = false := by unfold rgB; rw [h2]; simp
      rw [e]
      go_enter Tryz.func43, Tryz.ntmps43
      go_wp2_with fail
      refine (PC.out _).mono ?_
      rintro e w1 ⟨rfl, rfl⟩
      go_wp2_with fail
      go_ret
      exact ⟨rfl, Below.refl _ _⟩
    | true =>
      rw [h2] at PC
      have e : rgB ss = decide ss.Nodup := by unfold rgB; rw [h2, decide_eq_true h1]; simp
      rw [e]
      go_enter Tryz.func43, Tryz.ntmps43
      go_wp2_with fail
      refine (PC.out _).mono ?_
      rintro e w1 ⟨rfl, rfl⟩
      go_wp2_with fail
      refine (PP.out _).mono ?_
      rintro e w1 ⟨⟨b, rfl, hown⟩, hb⟩
      have hlen := hown.len (t := 103) Tryz.underlying103
      go_wp2_with fail
      go_ret
      refine ⟨ret_bool ?_, hb⟩
      by_cases hd : ss.Nodup
      · rw [decide_eq_true hd, hsz.2.2 hd]; simp
      · rw [decide_eq_false hd]
        simp only [beq_eq_false_iff_ne, ne_eq]
        exact fun e => hd (hsz.2.1 (by omega))
  · have e : rgB ss = false := by unfold rgB; rw [decide_eq_false h1]; rfl
    rw [e]
    go_enter Tryz.func43, Tryz.ntmps43
    go_wp2_with fail
    go_ret
    exact ⟨rfl, Below.refl _ _⟩
end Go.Proofs.YtondnbnaoacanaaGreatDoor
/- Layer 6: contracts of names: At, refuse, Put. -/
namespace Go.Proofs.YtondnbnaoacanaaGreatDoor
open Go.ChangeShapes Go.WideShapes Go.ChangeAt Go.RowKit Fb Go.Maps

theorem s9_info : (Tryz.prog.info? 9).map (fun i => (i.zero, i.size, i.bytes)) = some (some (.string ByteArray.empty), 1, 16) := by kernel_rfl
/-- a slice that reads as these names, with room as slices have it -/
def Rs (w : World) (A : Option Addr) (n c : Nat) (ss : List ByteArray) : Prop := Sl w w.heap.size A n (st9 ss) ∧ n ≤ c ∧ c ≤ maxLen ∧ (A = none → c = 0)
theorem Rs.below {w w' : World} {A : Option Addr} {n c : Nat} {ss : List ByteArray} (h : Rs w A n c ss) (hb : Below w.heap.size w w') : Rs w' A n c ss := ⟨(h.1.below hb).up hb.size, h.2⟩
theorem Rs.len {w : World} {A : Option Addr} {n c : Nat} {ss : List ByteArray} (h : Rs w A n c ss) : n = ss.length := by have := h.1.len; rw [st9_len] at this; exact this.symm
theorem own_rs {w : World} {base n : Nat} {v : Value} {ss : List ByteArray} (h : w.ownsRow base 9 1 v n (st9 ss)) : ∃ A c, v = .slice A n c ∧ Rs w A n c ss ∧ (∀ a, A = some a → base ≤ a.block) := by
  obtain ⟨A, c, hv, h1, h2, h3, h4, h5⟩ := own_reads h (Nat.le_refl _)
  exact ⟨A, c, hv, ⟨h4, h1, h2, h3⟩, h5⟩

set_option maxHeartbeats 1000000 in
theorem At_yes {A : Option Addr} {cap n B : Nat} {ss : List ByteArray} {k : Nat} {s : ByteArray} {w : World} (hS : Sl w B A n (st9 ss)) (hk : ss[k]? = some s) (hn : n ≤ 1000000) :
    Calls Tryz.prog 125 #[.slice A n cap, .int .i64 ((k : Int) + 1)] w fun e w' => e = .returned (.tuple #[.string s, .int .i64 0]) ∧ w = w' := by
  have hl : n = ss.length := by have := hS.len; rw [st9_len] at this; exact this.symm
  have hkl : k < n := by
    rcases Nat.lt_or_ge k n with h | h
    · exact h
    · rw [List.getElem?_eq_none (by omega)] at hk; cases hk
  obtain ⟨b, o, u, rfl, hb, hu, hc⟩ := hS.get (k := k) hkl
  obtain rfl : u = .string s := by rw [st9_at hu, hk]; rfl
  have HL := hid hl
  clear hl hu hk
  go_enter Tryz.func125, Tryz.ntmps125
  go_wp2
  go_ret2
  exact ⟨rfl, rfl⟩
set_option maxHeartbeats 1000000 in
theorem At_no {A : Option Addr} {cap n : Nat} {p : Int} (w : World) (h : p < 1 ∨ (n : Int) < p) (_ : n ≤ 1000000) (hp : -9223372036854775808 ≤ p ∧ p ≤ 9223372036854775807) :
    Calls Tryz.prog 125 #[.slice A n cap, .int .i64 p] w fun e w' => e = .returned (.tuple #[.string ⟨#[]⟩, .int .i64 14]) ∧ w = w' := by
  by_cases h1 : p < 1
  · clear h
    go_enter Tryz.func125, Tryz.ntmps125
    go_wp2
    go_ret2
    exact ⟨rfl, rfl⟩
  · have h2 : (n : Int) < p := by omega
    clear h
    go_enter Tryz.func125, Tryz.ntmps125
    go_wp2
    go_ret2
    exact ⟨rfl, rfl⟩

set_option maxHeartbeats 1000000 in
theorem CloneS_any {A : Option Addr} {n c B : Nat} {ss : List ByteArray} {w : World} (hS : Sl w B A n (st9 ss)) (hB : B ≤ w.heap.size) (hnil : A = none → c = 0) (hn : n ≤ 1000000) :
    Calls Tryz.prog 48 #[.slice A n c] w fun e w' => (∃ v, e = .returned v ∧ w'.ownsRow w.heap.size 9 1 v n (st9 ss)) ∧ Below w.heap.size w w' := by
  have kn := fun (w : World) (a : Option Addr) (n c : Nat) => Go.Lib.run_eql_slice_nil (P := Tryz.prog) w 22 9 a n c 0 0 Tryz.underlying22
  have hl : n = ss.length := by have := hS.len; rw [st9_len] at this; exact this.symm
  rcases A with _ | ad
  · obtain rfl := hnil rfl
    obtain rfl : n = 0 := by
      rcases Nat.eq_zero_or_pos n with h0 | h0
      · exact h0
      · obtain ⟨_, _, hA, _⟩ := hS.2 h0; cases hA
    obtain rfl : ss = [] := List.eq_nil_of_length_eq_zero hl.symm
    clear hnil hS hl
    go_enter Tryz.func48, Tryz.ntmps48
    go_wp2
    go_ret
    exact ⟨⟨_, rfl, by simp [st9], .inl ⟨rfl, rfl⟩⟩, Below.refl _ _⟩
  · obtain ⟨i0, hi0, hz0, hz1, hz2⟩ := info_parts s9_info
    have hnil' := hid hnil
    have hl' := hid hl
    clear hnil hl
    go_enter Tryz.func48, Tryz.ntmps48
    go_wp2_with (at_builtin; refine wpList_pushAll (B := B) rfl (.tmp 5) (.tmp 6) _ rfl Tryz.underlying22 hi0 hz0 hz1 hz2 rfl rfl (own_fresh w #[] 9 (base := w.heap.size) (n := 0) (xs := []) rfl (Nat.le_refl _) rfl rfl (Nat.zero_le _)) rfl (by simp) (m := n) (news := st9 ss) ?SL (fun v' w' hown hbel => ?_) (st9_one ss) (by simp only [maxLen]; omega) (by omega) (by simp))
    case SL => exact hS.below ((Below.refl _ _).alloc hB _)
    go_wp2
    go_ret
    exact ⟨⟨_, rfl, by simpa using hown⟩, ((Below.refl _ _).alloc (Nat.le_refl _) _).trans hbel⟩

set_option maxHeartbeats 2000000 in
theorem refuse_any {A : Option Addr} {cap n B : Nat} {ss : List ByteArray} (hz : Ok9 ss) {s : ByteArray} (hs : s.size ≤ maxLen) {w : World} (hS : Sl w B A n (st9 ss)) (hB : B ≤ w.heap.size) :
    Calls Tryz.prog 93 #[.slice A n cap, .string s] w fun e w' => e = .returned (.int .i64 (puE ss s)) ∧ Below w.heap.size w w' := by
  have hl : n = ss.length := by have := hS.len; rw [st9_len] at this; exact this.symm
  subst hl
  have PR := hid (fun cap => Right_any (cap := cap) hz hS hB)
  have PP := hid (fun cap (w1 : World) (h : Below w.heap.size w w1) => Place_any (cap := cap) hz hs (hS.below (h.mono hB)) (Nat.le_trans hB h.size))
  have hz1 := hz.1
  clear hz hS hB
  cases h1 : rgB ss with
  | false =>
    rw [h1] at PR
    have e : puE ss s = 1 := by unfold puE; rw [if_pos h1]
    rw [e]
    clear e
    go_enter Tryz.func93, Tryz.ntmps93
    go_wp2_with fail
    refine (PR.out _).mono ?_
    rintro e w1 ⟨rfl, hb1⟩
    go_wp2_with fail
    go_ret
    exact ⟨rfl, hb1⟩
  | true =>
    rw [h1] at PR
    have hlen := ((rgB_iff ss).1 h1).1
    have PW := hid (wrong_any s)
    cases h2 : nmB s with
    | false =>
      rw [h2] at PW
      have e : puE ss s = 3 := by unfold puE; rw [if_neg (by simp [h1]), if_pos h2]
      rw [e]
      clear e
      go_enter Tryz.func93, Tryz.ntmps93
      go_wp2_with fail
      refine (PR.out _).mono ?_
      rintro e w1 ⟨rfl, hb1⟩
      go_wp2_with fail
      refine (PW.out _).mono ?_
      rintro e w2 ⟨rfl, rfl⟩
      go_wp2_with fail
      go_ret
      exact ⟨rfl, hb1⟩
    | true =>
      rw [h2] at PW
      have h12 : puE ss s = if 0 < plc s ss then 7 else if 32 ≤ ss.length then 9 else 0 := by unfold puE; rw [if_neg (by simp [h1]), if_neg (by simp [h2])]
      rw [h12]
      clear h12
      have h4 := plc_le s ss
      generalize plc s ss = q at *
      by_cases h3 : 0 < q
      · rw [if_pos h3]
        go_enter Tryz.func93, Tryz.ntmps93
        go_wp2_with fail
        refine (PR.out _).mono ?_
        rintro e w1 ⟨rfl, hb1⟩
        go_wp2_with fail
        refine (PW.out _).mono ?_
        rintro e w2 ⟨rfl, rfl⟩
        go_wp2_with fail
        refine (PP.out _ _ hb1).mono ?_
        rintro e w3 ⟨rfl, hb3⟩
        go_wp2_with fail
        go_ret
        exact ⟨rfl, hb1.trans (hb3.mono hb1.size)⟩
      · rw [if_neg h3]
        obtain rfl : q = 0 := by omega
        clear h3 h4
        by_cases h5 : 32 ≤ ss.length
        · rw [if_pos h5]
          have h6 : (ss.length : Int) = 32 := by omega
          clear h5 hlen hz1
          go_enter Tryz.func93, Tryz.ntmps93
          go_wp2_with fail
          refine (PR.out _).mono ?_
          rintro e w1 ⟨rfl, hb1⟩
          go_wp2_with fail
          refine (PW.out _).mono ?_
          rintro e w2 ⟨rfl, rfl⟩
          go_wp2_with fail
          refine (PP.out _ _ hb1).mono ?_
          rintro e w3 ⟨rfl, hb3⟩
          go_wp2_with fail
          go_ret
          exact ⟨rfl, hb1.trans (hb3.mono hb1.size)⟩
        · rw [if_neg h5]
          have h6 : ¬ (ss.length : Int) = 32 := by omega
          clear h5
          go_enter Tryz.func93, Tryz.ntmps93
          go_wp2_with fail
          refine (PR.out _).mono ?_
          rintro e w1 ⟨rfl, hb1⟩
          go_wp2_with fail
          refine (PW.out _).mono ?_
          rintro e w2 ⟨rfl, rfl⟩
          go_wp2_with fail
          refine (PP.out _ _ hb1).mono ?_
          rintro e w3 ⟨rfl, hb3⟩
          go_wp2_with fail
          go_ret
          exact ⟨rfl, hb1.trans (hb3.mono hb1.size)⟩
end Go.Proofs.YtondnbnaoacanaaGreatDoor
