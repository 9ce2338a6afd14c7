/- A region that draws its order, by a word for each operation: whatever order is picked, each operation that has run has left a value of which its word holds. Nothing here speaks of a program. -/
import Derived.Deep.RegionHeld
import Derived.Below
namespace Fb
open Go

theorem filter_less {α : Type} {p p' : α → Bool} : ∀ (l : List α), (∀ x ∈ l, p' x = true → p x = true) → (∃ x ∈ l, p x = true ∧ p' x = false) → (l.filter p').length < (l.filter p).length
  | [], _, ⟨x, hx, _⟩ => by cases hx
  | y :: l, h, ⟨x, hx, h1, h2⟩ => by
    have hle : ∀ l : List α, (∀ x ∈ l, p' x = true → p x = true) → (l.filter p').length ≤ (l.filter p).length := by
      intro l
      induction l with
      | nil => intro _; simp
      | cons z l ih =>
        intro hz
        have := ih fun x hx => hz x (by simp [hx])
        have hz1 := hz z (by simp)
        rw [List.filter_cons, List.filter_cons]
        cases e1 : p' z <;> cases e2 : p z <;> simp_all <;> omega
    rw [List.filter_cons, List.filter_cons]
    rcases List.mem_cons.1 hx with rfl | hx
    · have := hle l fun x hx => h x (by simp [hx])
      rw [h1, h2]; simp; omega
    · have ih := filter_less l (fun x hx => h x (by simp [hx])) ⟨x, hx, h1, h2⟩
      have hy := h y (by simp)
      cases e1 : p' y <;> cases e2 : p y <;> simp_all <;> omega

/-- the values, one of them anew -/
def upd (vs : Nat → Value) (i : Nat) (v : Value) : Nat → Value := fun k => if k = i then v else vs k

section
variable {P : Program} {ops : Array Oper} {Q : Exit → Act → World → Prop} {A : (Nat → Value) → Act} {E : Nat → Value → World → Prop} {C : World → Prop} {Ext : World → World → Prop}

theorem wpAny_env
    (hstep : ∀ i o, ops[i]? = some o → ∀ vs w, C w → (∀ e ∈ o.after, Region.binds .any e = true → E e.on (vs e.on) w) →
      ∀ K : Act → World → Prop, Shut (∀ v w', E i v w' → Ext w w' → C w' → K (A (upd vs i v)) w') → if Region.wanted o (yielded ops (A vs).tmps) = true then Oper.wp P o (A vs) w K Q else K ((A vs).put o.dst undef) w)
    (hstab : ∀ i v w w', Ext w w' → E i v w → E i v w')
    (hlow : ∀ i o, ops[i]? = some o → ∀ e ∈ o.after, Region.binds .any e = true → e.on < i)
    (hend : ∀ vs w, C w → (∀ i, i < ops.size → E i (vs i) w) → Q .normal (A vs) w) :
    ∀ (fuel : Nat) (listed : Array Bool) (vs : Nat → Value) (w : World), listed.size = ops.size → ((List.range ops.size).filter fun j => !listed.getD j true).length ≤ fuel → C w → (∀ i, listed.getD i false = true → E i (vs i) w) →
      wpAny P .any ops Q fuel listed (A vs) w := by
  have hall : ∀ (listed : Array Bool), listed.size = ops.size → Region.ready .any ops listed = [] → ∀ i, i < ops.size → listed.getD i false = true := by
    intro listed hs hr i
    induction i using Nat.strongRecOn with
    | _ i ih =>
      intro hi
      have ho : ops[i]? = some ops[i] := Array.getElem?_eq_getElem hi
      cases hl : listed.getD i false with
      | true => rfl
      | false =>
        exfalso
        have : i ∈ Region.ready .any ops listed := mem_ready.2 ⟨by simpa [Array.getD, hs, hi] using hl, _, ho, fun e he hb => ih e.on (hlow i _ ho e he hb) (Nat.lt_trans (hlow i _ ho e he hb) hi)⟩
        rw [hr] at this; cases this
  intro fuel
  induction fuel with
  | zero =>
    intro listed vs w hs hc hC hE
    have hr : Region.ready .any ops listed = [] := by
      rcases h : Region.ready .any ops listed with _ | ⟨i, r⟩
      · rfl
      · exfalso
        have hi : i ∈ Region.ready .any ops listed := by rw [h]; simp
        obtain ⟨h1, o, ho, _⟩ := mem_ready.1 hi
        have hi2 : i < ops.size := (Array.getElem?_eq_some_iff.1 ho).1
        have : i ∈ (List.range ops.size).filter fun j => !listed.getD j true := by simp only [List.mem_filter, List.mem_range]; exact ⟨hi2, by rw [h1]; rfl⟩
        have := List.length_pos_of_mem this
        omega
    exact ⟨hr, hend vs w hC fun i hi => hE i (hall listed hs hr i hi)⟩
  | succ fuel ih =>
    intro listed vs w hs hc hC hE
    refine ⟨fun hr => hend vs w hC fun i hi => hE i (hall listed hs hr i hi), fun i hi => ?_⟩
    obtain ⟨h1, o, ho, hdep⟩ := mem_ready.1 hi
    have hi2 : i < ops.size := (Array.getElem?_eq_some_iff.1 ho).1
    refine wpOp_step ho (fun K' hK => hstep i o ho vs w hC (fun e he hb => hE _ (hdep e he hb)) K' (fun v w' hv hx hC' => hK _ _ (ih _ _ _ (by simpa using hs) ?_ hC' fun j hj => ?_)))
    · have := filter_less (p := fun j => !listed.getD j true) (p' := fun j => !(listed.setIfInBounds i true).getD j true) (List.range ops.size) (fun x hx hp => by
        by_cases hxi : i = x
        · subst hxi; simp [Array.getD, hs, hi2] at hp
        · rw [getD_set_ne true hxi] at hp; exact hp) ⟨i, by simpa using hi2, by rw [h1]; rfl, by simp [Array.getD, hs, hi2]⟩
      omega
    · by_cases hji : i = j
      · subst hji; unfold upd; rw [if_pos rfl]; exact hv
      · rw [getD_set_ne false hji] at hj
        unfold upd; rw [if_neg (Ne.symm hji)]
        exact hstab _ _ _ _ hx (hE j hj)

theorem wp_region_env {id : Nat} {a : Act} {w : World} (vs : Nat → Value) (hm : P.follows .mixedOrders = true) (ha : A vs = a) (hC : C w.drew)
    (hstep : ∀ i o, ops[i]? = some o → ∀ vs w, C w → (∀ e ∈ o.after, Region.binds .any e = true → E e.on (vs e.on) w) →
      ∀ K : Act → World → Prop, Shut (∀ v w', E i v w' → Ext w w' → C w' → K (A (upd vs i v)) w') → if Region.wanted o (yielded ops (A vs).tmps) = true then Oper.wp P o (A vs) w K Q else K ((A vs).put o.dst undef) w)
    (hstab : ∀ i v w w', Ext w w' → E i v w → E i v w')
    (hlow : ∀ i o, ops[i]? = some o → ∀ e ∈ o.after, Region.binds .any e = true → e.on < i)
    (hend : ∀ vs w, C w → (∀ i, i < ops.size → E i (vs i) w) → Q .normal (A vs) w) : (Code.region id ops true).wp P Q a w := by
  subst ha
  refine wp_region_any hm (wpAny_env hstep hstab hlow hend ops.size _ vs w.drew (by simp) ?_ hC fun i hi => ?_)
  · exact Nat.le_trans (List.length_filter_le _ _) (by simp)
  · exfalso
    simp [Array.getD] at hi
end
/-- edges go back, asked of a region as it stands -/
def lowB (ops : Array Oper) : Bool := (List.range ops.size).all fun i => match ops[i]? with
  | some o => o.after.all fun e => !Region.binds .any e || decide (e.on < i)
  | none => true
theorem low_of {ops : Array Oper} (h : lowB ops = true) : ∀ i o, ops[i]? = some o → ∀ e ∈ o.after, Region.binds .any e = true → e.on < i := by
  intro i o ho e he hb
  have hi : i < ops.size := (Array.getElem?_eq_some_iff.1 ho).1
  have h1 := List.all_eq_true.1 h i (by simpa using hi)
  rw [ho] at h1
  simp only [Array.all_eq_true'] at h1
  have h2 := h1 e he
  simpa [hb] using h2
end Fb
