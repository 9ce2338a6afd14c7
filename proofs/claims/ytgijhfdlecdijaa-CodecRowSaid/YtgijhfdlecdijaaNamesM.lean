/- Names by their places: plain words, and what a map of places reads as. -/
import Derived.Test.YtgijhfdlecdijaaEvent1
import Derived.Maps.OwnSet
import Derived.Maps.OwnIn
import Derived.Laws.Strings
namespace Go.Proofs.Ytgijhfdlecdijaa
open Go.Maps Fb

theorem txt_eq (a b : ByteArray) : (a.toList == b.toList) = decide (a = b) := by
  rw [ByteArray.toList_eq, ByteArray.toList_eq]
  by_cases h : a = b
  · subst h; simp
  · rw [decide_eq_false h]
    simp only [beq_eq_false_iff_ne, ne_eq]
    intro e
    apply h
    obtain ⟨⟨x⟩⟩ := a
    obtain ⟨⟨y⟩⟩ := b
    simpa using e

/-- the place of a name: the first one, from 1 on; 0: none -/
def plc (s : ByteArray) : List ByteArray → Nat
  | [] => 0
  | x :: r => if x = s then 1 else if plc s r = 0 then 0 else plc s r + 1
theorem plc_nil (s : ByteArray) : plc s [] = 0 := rfl
theorem plc_cons (s x : ByteArray) (r : List ByteArray) : plc s (x :: r) = if x = s then 1 else if plc s r = 0 then 0 else plc s r + 1 := rfl
theorem plc_le (s : ByteArray) : ∀ l : List ByteArray, plc s l ≤ l.length
  | [] => Nat.le_refl _
  | x :: r => by
    have := plc_le s r
    rw [plc_cons]
    simp only [List.length_cons]
    split
    · omega
    · split <;> omega
theorem plc_zero (s : ByteArray) : ∀ l : List ByteArray, plc s l = 0 ↔ s ∉ l
  | [] => by simp [plc]
  | x :: r => by
    have := plc_zero s r
    rw [plc_cons]
    by_cases h : x = s
    · subst h; simp
    · rw [if_neg h]
      by_cases h0 : plc s r = 0
      · rw [if_pos h0]
        simp only [true_iff, List.mem_cons, not_or]
        exact ⟨fun e => h e.symm, this.1 h0⟩
      · rw [if_neg h0]
        refine ⟨fun e => by omega, fun e => ?_⟩
        exact absurd (this.2 (fun hm => e (List.mem_cons_of_mem _ hm))) h0
/-- at its place stands the name -/
theorem plc_at (s : ByteArray) : ∀ l : List ByteArray, 0 < plc s l → l[plc s l - 1]? = some s
  | [], h => by simp [plc] at h
  | x :: r, h => by
    have ih := plc_at s r
    rw [plc_cons] at h ⊢
    by_cases hx : x = s
    · subst hx; simp
    · rw [if_neg hx] at h ⊢
      by_cases h0 : plc s r = 0
      · rw [if_pos h0] at h; omega
      · rw [if_neg h0]
        have e : plc s r + 1 - 1 = (plc s r - 1) + 1 := by omega
        rw [e, List.getElem?_cons_succ]
        exact ih (by omega)
/-- nothing ahead of its place is it -/
theorem plc_first (s : ByteArray) : ∀ (l : List ByteArray) (k : Nat), (∀ j, j < k → l[j]? ≠ some s) → l[k]? = some s → plc s l = k + 1
  | [], k, _, h => by simp at h
  | x :: r, 0, _, h => by
    simp only [List.getElem?_cons_zero, Option.some.injEq] at h
    rw [plc_cons, if_pos h]
  | x :: r, k + 1, h0, h => by
    have hx : x ≠ s := fun e => h0 0 (by omega) (by simp [e])
    have ih := plc_first s r k (fun j hj => by have := h0 (j + 1) (by omega); simpa using this) (by simpa using h)
    rw [plc_cons, if_neg hx, ih, if_neg (by omega)]
theorem plc_none (s : ByteArray) (l : List ByteArray) (h : ∀ j, j < l.length → l[j]? ≠ some s) : plc s l = 0 := by
  rw [plc_zero]
  intro hm
  obtain ⟨i, hi, e⟩ := List.mem_iff_getElem.1 hm
  exact h i hi (by rw [List.getElem?_eq_getElem hi, e])
/-- a name behind the others -/
theorem plc_append (s x : ByteArray) : ∀ l : List ByteArray, plc s (l ++ [x]) = if plc s l = 0 then (if x = s then l.length + 1 else 0) else plc s l
  | [] => by
    rw [List.nil_append, plc_cons, plc_nil]
    simp
  | y :: r => by
    have ih := plc_append s x r
    rw [List.cons_append, plc_cons, plc_cons, ih]
    by_cases h : y = s
    · simp [h]
    · rw [if_neg h, if_neg h]
      by_cases h0 : plc s r = 0
      · rw [if_pos h0, if_pos h0, if_pos rfl]
        by_cases hx : x = s
        · rw [if_pos hx, if_pos hx, if_neg (by omega)]; simp
        · rw [if_neg hx, if_pos rfl, if_neg hx]
      · simp only [if_neg h0]
        rw [if_neg (by omega)]
/-- no two alike: each name's place is where it stands -/
theorem plc_nodup : ∀ l : List ByteArray, (∀ k (h : k < l.length), plc l[k] l = k + 1) ↔ l.Nodup
  | [] => by simp
  | x :: r => by
    have ih := plc_nodup r
    rw [List.nodup_cons, ← ih]
    constructor
    · intro h
      have hx : x ∉ r := by
        intro hm
        obtain ⟨i, hi, e⟩ := List.mem_iff_getElem.1 hm
        have := h (i + 1) (by simp; omega)
        rw [List.getElem_cons_succ, e, plc_cons, if_pos rfl] at this
        omega
      refine ⟨hx, fun k hk => ?_⟩
      have := h (k + 1) (by simp; omega)
      rw [List.getElem_cons_succ, plc_cons, if_neg (fun e => hx (by rw [e]; exact List.getElem_mem hk))] at this
      split at this <;> omega
    · rintro ⟨hx, h⟩ k hk
      rcases k with _ | k
      · rw [List.getElem_cons_zero, plc_cons, if_pos rfl]
      · have hk' : k < r.length := by simp at hk; omega
        rw [List.getElem_cons_succ, plc_cons, if_neg (fun e => hx (by rw [e]; exact List.getElem_mem hk')), h k hk', if_neg (by omega)]

/-- a list of names that is right -/
def rgB (l : List ByteArray) : Bool := decide (l.length ≤ 32) && (l.all nmB && decide l.Nodup)
theorem rgB_iff (l : List ByteArray) : rgB l = true ↔ l.length ≤ 32 ∧ (∀ s ∈ l, nmB s = true) ∧ l.Nodup := by
  unfold rgB
  simp
/-- why a name isn't put -/
def puE (l : List ByteArray) (s : ByteArray) : Int := if rgB l = false then 1 else if nmB s = false then 3 else if 0 < plc s l then 7 else if 32 ≤ l.length then 9 else 0
def puL (l : List ByteArray) (s : ByteArray) : List ByteArray := if puE l s = 0 then l ++ [s] else l
theorem puE_cases (l : List ByteArray) (s : ByteArray) : puE l s = 0 ∨ puE l s = 1 ∨ puE l s = 3 ∨ puE l s = 7 ∨ puE l s = 9 := by
  unfold puE
  repeat' split
  all_goals simp
theorem puE_zero {l : List ByteArray} {s : ByteArray} (h : puE l s = 0) : rgB l = true ∧ nmB s = true ∧ plc s l = 0 ∧ l.length < 32 := by
  unfold puE at h
  by_cases h1 : rgB l = false
  · rw [if_pos h1] at h; omega
  · rw [if_neg h1] at h
    by_cases h2 : nmB s = false
    · rw [if_pos h2] at h; omega
    · rw [if_neg h2] at h
      by_cases h3 : 0 < plc s l
      · rw [if_pos h3] at h; omega
      · rw [if_neg h3] at h
        by_cases h4 : 32 ≤ l.length
        · rw [if_pos h4] at h; omega
        · exact ⟨by simpa using h1, by simpa using h2, by omega, by omega⟩
/-- a right list that takes a name is right -/
theorem puL_right {l : List ByteArray} {s : ByteArray} (h : rgB l = true) : rgB (puL l s) = true := by
  unfold puL
  by_cases h0 : puE l s = 0
  · rw [if_pos h0]
    obtain ⟨h1, h2, h3, h4⟩ := puE_zero h0
    rw [rgB_iff] at h1 ⊢
    refine ⟨by simp; omega, ?_, ?_⟩
    · intro x hx
      rcases List.mem_append.1 hx with hx | hx
      · exact h1.2.1 x hx
      · simp at hx; subst hx; exact h2
    · rw [List.nodup_append]
      refine ⟨h1.2.2, by simp, ?_⟩
      intro a ha b hb e
      simp at hb
      subst hb e
      exact (plc_zero _ _).1 h3 ha
  · rw [if_neg h0]; exact h
theorem puL_prefix (l : List ByteArray) (s : ByteArray) : (puL l s).take l.length = l := by
  unfold puL
  split
  · simp
  · simp

/-! what the program's map reads as -/
section
variable {H : Type}
/-- the map behind some rounds: places and names, the last one first -/
def mpD (pre : List (Nat × ByteArray)) : DataW H := pre.foldl (fun D x => D.put (.string x.2.data.toList) (.lit (.int .i64 ((x.1 : Int) + 1)))) (.map [])
theorem mpD_nil : mpD (H := H) [] = .map [] := rfl
theorem mpD_snoc (pre : List (Nat × ByteArray)) (x : Nat × ByteArray) : mpD (H := H) (pre ++ [x]) = (mpD pre).put (.string x.2.data.toList) (.lit (.int .i64 ((x.1 : Int) + 1))) := by simp [mpD]
/-- what has come when k rounds are over: the last k names, the last one first -/
def dnS (l : List ByteArray) (k : Nat) : List (Nat × ByteArray) := (List.range k).map fun j => (l.length - 1 - j, l[l.length - 1 - j]?.getD default)
theorem dnS_zero (l : List ByteArray) : dnS l 0 = [] := rfl
theorem dnS_succ (l : List ByteArray) (k : Nat) : dnS l (k + 1) = dnS l k ++ [(l.length - 1 - k, l[l.length - 1 - k]?.getD default)] := by simp [dnS, List.range_succ]
theorem dnS_length (l : List ByteArray) (k : Nat) : (dnS l k).length = k := by simp [dnS]

theorem key_ne {a b : ByteArray} (h : a ≠ b) : Lit.string a.data.toList ≠ Lit.string b.data.toList := by
  intro e
  apply h
  obtain ⟨⟨x⟩⟩ := a
  obtain ⟨⟨y⟩⟩ := b
  simpa using e
theorem key_ok (s : ByteArray) : WideAt.IsKeyLit (.string s.data.toList) := trivial
theorem fold_tidy : ∀ (pre : List (Nat × ByteArray)) (D : DataW H), Tidy D → Tidy (pre.foldl (fun D x => D.put (.string x.2.data.toList) (.lit (.int .i64 ((x.1 : Int) + 1)))) D)
  | [], _, h => h
  | x :: r, D, h => fold_tidy r _ (h.put (key_ok x.2) _)
theorem mpD_tidy (pre : List (Nat × ByteArray)) : Tidy (mpD (H := H) pre) := fold_tidy pre _ tidy_empty
/-- what the map has behind k rounds: the last k names' places -/
theorem mpD_dn (l : List ByteArray) : ∀ k, k ≤ l.length →
    (∀ s, (mpD (H := H) (dnS l k)).atKey (.string s.data.toList) (.lit (.int .i64 0)) = .lit (.int .i64 (if plc s (l.drop (l.length - k)) = 0 then 0 else ((l.length - k + plc s (l.drop (l.length - k)) : Nat) : Int)))) ∧
    (∀ s, has (mpD (H := H) (dnS l k)) (.string s.data.toList) = decide (0 < plc s (l.drop (l.length - k)))) ∧
    (size (mpD (H := H) (dnS l k)) ≤ k) ∧ (size (mpD (H := H) (dnS l k)) = k ↔ (l.drop (l.length - k)).Nodup)
  | 0, _ => by
    rw [dnS_zero, mpD_nil, Nat.sub_zero, List.drop_length]
    refine ⟨fun s => rfl, fun s => ?_, Nat.le_refl _, ?_⟩
    · simp [has, plc]
    · simp [size]
  | k + 1, hk => by
    obtain ⟨ih1, ih2, ih3, ih4⟩ := mpD_dn l k (by omega)
    have hi : l.length - (k + 1) < l.length := by omega
    have e2 : l.length - 1 - k = l.length - (k + 1) := by omega
    have e1 : l.length - k = (l.length - (k + 1)) + 1 := by omega
    have e3 : l.drop (l.length - (k + 1)) = l[l.length - (k + 1)] :: l.drop (l.length - k) := by rw [e1]; exact List.drop_eq_getElem_cons hi
    have ht := mpD_tidy (H := H) (dnS l k)
    rw [dnS_succ, mpD_snoc, e2, List.getElem?_eq_getElem hi, Option.getD_some, e3]
    generalize l[l.length - (k + 1)] = x at *
    generalize l.drop (l.length - k) = r at *
    refine ⟨fun s => ?_, fun s => ?_, ?_, ?_⟩
    · by_cases h : x = s
      · subst h
        rw [atKey_put_same ht.isMap (key_ok _), plc_cons, if_pos rfl]
        simp
      · rw [atKey_put_other (key_ne (fun e => h e.symm)), ih1 s, plc_cons, if_neg h]
        by_cases h0 : plc s r = 0
        · rw [if_pos h0, if_pos h0, if_pos rfl]
        · rw [if_neg h0, if_neg h0, if_neg (by omega)]
          have e : l.length - k + plc s r = l.length - (k + 1) + (plc s r + 1) := by omega
          rw [e]
    · by_cases h : x = s
      · subst h
        rw [has_put_same ht.isMap (key_ok _), plc_cons, if_pos rfl]
        rfl
      · rw [has_put_other (key_ne (fun e => h e.symm)), ih2 s, plc_cons, if_neg h]
        by_cases h0 : plc s r = 0
        · rw [if_pos h0, h0]
        · rw [if_neg h0, decide_eq_true (by omega), decide_eq_true (by omega)]
    · rw [size_put ht]
      split <;> omega
    · rw [size_put ht, ih2 x, List.nodup_cons, ← ih4, ← plc_zero]
      by_cases h : plc x r = 0
      · rw [h, decide_eq_false (by omega), if_neg (by simp)]
        omega
      · rw [decide_eq_true (by omega), if_pos rfl]
        omega
/-- the whole map -/
theorem mpD_at (l : List ByteArray) (s : ByteArray) : (mpD (H := H) (dnS l l.length)).atKey (.string s.data.toList) (.lit (.int .i64 0)) = .lit (.int .i64 (plc s l)) := by
  rw [(mpD_dn l l.length (Nat.le_refl _)).1 s, Nat.sub_self, List.drop_zero]
  by_cases h : plc s l = 0
  · rw [if_pos h, h]; rfl
  · rw [if_neg h]; simp
theorem mpD_size (l : List ByteArray) : size (mpD (H := H) (dnS l l.length)) ≤ l.length ∧ (size (mpD (H := H) (dnS l l.length)) = l.length ↔ l.Nodup) := by
  obtain ⟨_, _, h3, h4⟩ := mpD_dn (H := H) l l.length (Nat.le_refl _)
  rw [Nat.sub_self, List.drop_zero] at h4
  exact ⟨h3, h4⟩
end
end Go.Proofs.Ytgijhfdlecdijaa
