/- A region that draws its order, by a word for each operation, where a word may ask what is done already and what others left: so that the block that an 'alloc' made and what a 'store' wrote there are tied. Nothing here speaks of a program. -/
import Derived.Test.YtondnbnaoacanaaGreatDoorBase
namespace Fb
open Go Go.RowKit

theorem upd_ne {vs : Nat → Value} {i j : Nat} {v : Value} (h : j ≠ i) : upd vs i v j = vs j := by simp [upd, h]
theorem upd_self (vs : Nat → Value) (i : Nat) (v : Value) : upd vs i v i = v := by simp [upd]

section
variable {P : Program} {ops : Array Oper} {Q : Exit → Act → World → Prop} {A : (Nat → Value) → Act} {E : (Nat → Bool) → (Nat → Value) → Nat → World → Prop} {C : World → Prop} {Ext : Nat → (Nat → Value) → World → World → Prop}

theorem wpAny_envj
    (hstep : ∀ i o, ops[i]? = some o → ∀ dn vs w, dn i = false → C w → (∀ e ∈ o.after, Region.binds .any e = true → dn e.on = true ∧ E dn vs e.on w) →
      ∀ K : Act → World → Prop, Shut (∀ v w', E (mark dn i) (upd vs i v) i w' → Ext i vs w w' → C w' → K (A (upd vs i v)) w') → if Region.wanted o (yielded ops (A vs).tmps) = true then Oper.wp P o (A vs) w K Q else K ((A vs).put o.dst undef) w)
    (hstab : ∀ dn vs k i v w w', Clo ops dn → Clo ops (mark dn k) → dn k = false → dn i = true → k ≠ i → C w → Ext k vs w w' → E dn vs i w → E (mark dn k) (upd vs k v) i w')
    (hlow : ∀ i o, ops[i]? = some o → ∀ e ∈ o.after, Region.binds .any e = true → e.on < i)
    (hend : ∀ dn vs w, (∀ i, i < ops.size → dn i = true) → C w → (∀ i, i < ops.size → E dn vs i w) → Q .normal (A vs) w) :
    ∀ (fuel : Nat) (listed : Array Bool) (dn : Nat → Bool) (vs : Nat → Value) (w : World), (∀ i, dn i = listed.getD i false) → Clo ops dn → listed.size = ops.size → ((List.range ops.size).filter fun j => !listed.getD j true).length ≤ fuel → C w → (∀ i, dn i = true → E dn vs i w) →
      wpAny P .any ops Q fuel listed (A vs) w := by
  have hall : ∀ (listed : Array Bool), listed.size = ops.size → Region.ready .any ops listed = [] → ∀ i, i < ops.size → listed.getD i false = true := by
    intro listed hs hr i
    induction i using Nat.strongRecOn with
    | _ i ih =>
      intro hi
      have ho : ops[i]? = some ops[i] := Array.getElem?_eq_getElem hi
      cases hl : listed.getD i false with
      | true => rfl
      | false =>
        exfalso
        have : i ∈ Region.ready .any ops listed := mem_ready.2 ⟨by simpa [Array.getD, hs, hi] using hl, _, ho, fun e he hb => ih e.on (hlow i _ ho e he hb) (Nat.lt_trans (hlow i _ ho e he hb) hi)⟩
        rw [hr] at this; cases this
  intro fuel
  induction fuel with
  | zero =>
    intro listed dn vs w hd hcl hs hc hC hE
    have hr : Region.ready .any ops listed = [] := by
      rcases h : Region.ready .any ops listed with _ | ⟨i, r⟩
      · rfl
      · exfalso
        have hi : i ∈ Region.ready .any ops listed := by rw [h]; simp
        obtain ⟨h1, o, ho, _⟩ := mem_ready.1 hi
        have hi2 : i < ops.size := (Array.getElem?_eq_some_iff.1 ho).1
        have : i ∈ (List.range ops.size).filter fun j => !listed.getD j true := by simp only [List.mem_filter, List.mem_range]; exact ⟨hi2, by rw [h1]; rfl⟩
        have := List.length_pos_of_mem this
        omega
    exact ⟨hr, hend dn vs w (fun i hi => (hd i).trans (hall listed hs hr i hi)) hC fun i hi => hE i ((hd i).trans (hall listed hs hr i hi))⟩
  | succ fuel ih =>
    intro listed dn vs w hd hcl hs hc hC hE
    refine ⟨fun hr => hend dn vs w (fun i hi => (hd i).trans (hall listed hs hr i hi)) hC fun i hi => hE i ((hd i).trans (hall listed hs hr i hi)), fun i hi => ?_⟩
    obtain ⟨h1, o, ho, hdep⟩ := mem_ready.1 hi
    have hi2 : i < ops.size := (Array.getElem?_eq_some_iff.1 ho).1
    have hdi : dn i = false := by rw [hd]; simpa [Array.getD, hs, hi2] using h1
    have hcl' : Clo ops (mark dn i) := by
      intro j o' ho' hj e he hb
      by_cases hei : e.on = i
      · rw [hei, mark_self]
      · rw [mark_ne hei]
        by_cases hji : j = i
        · subst hji
          obtain rfl : o = o' := Option.some.inj (ho.symm.trans ho')
          exact (hd _).trans (hdep e he hb)
        · rw [mark_ne hji] at hj
          exact hcl j o' ho' hj e he hb
    refine wpOp_step ho (fun K' hK => hstep i o ho dn vs w hdi hC (fun e he hb => ⟨(hd _).trans (hdep e he hb), hE _ ((hd _).trans (hdep e he hb))⟩) K' (fun v w' hv hx hC' => hK _ _ (ih _ (mark dn i) _ _ ?_ hcl' (by simpa using hs) ?_ hC' fun j hj => ?_)))
    · intro j
      by_cases hji : i = j
      · subst hji; rw [mark_self]; simp [Array.getD, hs, hi2]
      · rw [mark_ne (Ne.symm hji), hd, getD_set_ne false hji]
    · have := filter_less (p := fun j => !listed.getD j true) (p' := fun j => !(listed.setIfInBounds i true).getD j true) (List.range ops.size) (fun x hx hp => by
        by_cases hxi : i = x
        · subst hxi; simp [Array.getD, hs, hi2] at hp
        · rw [getD_set_ne true hxi] at hp; exact hp) ⟨i, by simpa using hi2, by rw [h1]; rfl, by simp [Array.getD, hs, hi2]⟩
      omega
    · by_cases hji : i = j
      · subst hji; exact hv
      · rw [mark_ne (Ne.symm hji)] at hj
        exact hstab _ _ _ _ _ _ _ hcl hcl' hdi hj hji hC hx (hE j hj)

theorem wp_region_envj {id : Nat} {a : Act} {w : World} (vs : Nat → Value) (hm : P.follows .mixedOrders = true) (ha : A vs = a) (hC : C w.drew)
    (hstep : ∀ i o, ops[i]? = some o → ∀ dn vs w, dn i = false → C w → (∀ e ∈ o.after, Region.binds .any e = true → dn e.on = true ∧ E dn vs e.on w) →
      ∀ K : Act → World → Prop, Shut (∀ v w', E (mark dn i) (upd vs i v) i w' → Ext i vs w w' → C w' → K (A (upd vs i v)) w') → if Region.wanted o (yielded ops (A vs).tmps) = true then Oper.wp P o (A vs) w K Q else K ((A vs).put o.dst undef) w)
    (hstab : ∀ dn vs k i v w w', Clo ops dn → Clo ops (mark dn k) → dn k = false → dn i = true → k ≠ i → C w → Ext k vs w w' → E dn vs i w → E (mark dn k) (upd vs k v) i w')
    (hlow : ∀ i o, ops[i]? = some o → ∀ e ∈ o.after, Region.binds .any e = true → e.on < i)
    (hend : ∀ dn vs w, (∀ i, i < ops.size → dn i = true) → C w → (∀ i, i < ops.size → E dn vs i w) → Q .normal (A vs) w) : (Code.region id ops true).wp P Q a w := by
  subst ha
  refine wp_region_any hm (wpAny_envj hstep hstab hlow hend ops.size _ (fun _ => false) vs w.drew (fun i => ?_) (fun i o _ h => by cases h) (by simp) ?_ hC fun i hi => by cases hi)
  · simp [Array.getD]
  · exact Nat.le_trans (List.length_filter_le _ _) (by simp)
end

theorem mark_off {dn : Nat → Bool} {k j : Nat} (h : mark dn k j = false) : dn j = false := by
  unfold mark at h
  split at h
  · cases h
  · exact h
theorem tup3 {a b c a' b' c' : Value} (h : Value.tuple #[a, b, c] = .tuple #[a', b', c']) : a = a' ∧ b = b' ∧ c = c' := by simpa using h
theorem tup2 {a b a' b' : Value} (h : Value.tuple #[a, b] = .tuple #[a', b']) : a = a' ∧ b = b' := by simpa using h
/-- what an operation may do to what there is: it makes something, or writes a block of its own, which was empty (cells z) -/
def Ext9 (s a : Nat) (z : Array Value) (t : TypeId) (k : Nat) (vs : Nat → Value) (w w' : World) : Prop :=
  Below w.heap.size w w' ∨ (k = s ∧ ∃ g, vs a = .pointer (some ⟨g, 0, none⟩) ∧ w.heap[g]? = some (.cells z t (0, 0)) ∧ Sto g w w')
end Fb
