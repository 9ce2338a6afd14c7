/- Slices of events: as lists of cells; as an argument; compared by the reference. -/
import Derived.Test.YtondnbnaoacanaaGreatDoorCc
import Derived.Test.YtondnbnaoacanaaGreatDoorBase
import Derived.Deep.Slices
import Derived.Deep.Fields
import Derived.Maps.AppendAt
namespace Go.Proofs.YtondnbnaoacanaaGreatDoor
open Go.ChangeShapes Go.WideShapes Go.ChangeAt Go.RowKit Go.Deep Fb

instance : Inhabited Ev := ⟨ev0⟩
def evC (x : Ev) : List Value := [.int .i64 x.q, .int .i64 x.t, .int .i64 x.k, .string x.s, .int .i64 x.a, .int .i64 x.b, .int .i64 x.c]
def evsC (l : List Ev) : List Value := l.flatMap evC
theorem evsC_len : ∀ l : List Ev, (evsC l).length = l.length * 7
  | [] => rfl
  | x :: r => by
    have := evsC_len r
    unfold evsC at this ⊢
    rw [List.flatMap_cons, List.length_append, this, List.length_cons]
    show 7 + _ = _
    omega
theorem evsC_at : ∀ (l : List Ev) (j : Nat) (x : Ev), l[j]? = some x → ∀ i u, (evC x)[i]? = some u → (evsC l)[j * 7 + i]? = some u
  | [], j, x, h, _, _, _ => by simp at h
  | y :: r, 0, x, h, i, u, hu => by
    simp only [List.getElem?_cons_zero, Option.some.injEq] at h
    subst h
    have hi : i < (evC y).length := by
      rcases Nat.lt_or_ge i (evC y).length with h1 | h1
      · exact h1
      · rw [List.getElem?_eq_none h1] at hu; cases hu
    unfold evsC
    rw [List.flatMap_cons, Nat.zero_mul, Nat.zero_add, List.getElem?_append_left hi]
    exact hu
  | y :: r, j + 1, x, h, i, u, hu => by
    have ih := evsC_at r j x (by simpa using h) i u hu
    unfold evsC at ih ⊢
    rw [List.flatMap_cons, List.getElem?_append_right (by show 7 ≤ _; omega)]
    have e : (j + 1) * 7 + i - (evC y).length = j * 7 + i := by show _ - 7 = _; omega
    rw [e]
    exact ih
theorem evsC_app (a b : List Ev) : evsC (a ++ b) = evsC a ++ evsC b := by simp [evsC]
theorem evsC_one (x : Ev) : evsC [x] = evC x := by simp [evsC]
theorem evC_one (x : Ev) : ∀ u ∈ evC x, u.oneCell' = true := by
  intro u hu
  simp only [evC, List.mem_cons, List.not_mem_nil, or_false] at hu
  rcases hu with rfl | rfl | rfl | rfl | rfl | rfl | rfl <;> rfl
/-- a slice that reads as these events -/
def Se (w : World) (B : Nat) (A : Option Addr) (l : List Ev) : Prop := Sl w B A (l.length * 7) (evsC l)
theorem Se.below {w w' : World} {B : Nat} {A : Option Addr} {l : List Ev} (h : Se w B A l) (hb : Below B w w') : Se w' B A l := Sl.below h hb
theorem Se.up {w : World} {B B' : Nat} {A : Option Addr} {l : List Ev} (h : Se w B A l) (hb : B ≤ B') : Se w B' A l := Sl.up h hb
theorem Se.get {w : World} {B : Nat} {A : Option Addr} {l : List Ev} (h : Se w B A l) {k : Nat} (hk : k < l.length) :
    ∃ b o, A = some ⟨b, o, none⟩ ∧ b < B ∧ w.cell? ⟨b, o + k * 7, none⟩ = some (.int .i64 l[k].q) ∧ w.cell? ⟨b, o + k * 7 + 1, none⟩ = some (.int .i64 l[k].t) ∧ w.cell? ⟨b, o + k * 7 + 2, none⟩ = some (.int .i64 l[k].k) ∧
      w.cell? ⟨b, o + k * 7 + 3, none⟩ = some (.string l[k].s) ∧ w.cell? ⟨b, o + k * 7 + 4, none⟩ = some (.int .i64 l[k].a) ∧ w.cell? ⟨b, o + k * 7 + 5, none⟩ = some (.int .i64 l[k].b) ∧ w.cell? ⟨b, o + k * 7 + 6, none⟩ = some (.int .i64 l[k].c) := by
  obtain ⟨b, o, hA, hb, hc⟩ := h.2 (by omega)
  have h1 := fun i u hu => (hc (k * 7 + i) u (evsC_at l k _ (List.getElem?_eq_getElem hk) i u hu))
  simp only [← Nat.add_assoc] at h1
  exact ⟨b, o, hA, hb, h1 0 _ rfl, h1 1 _ rfl, h1 2 _ rfl, h1 3 _ rfl, h1 4 _ rfl, h1 5 _ rfl, h1 6 _ rfl⟩
/-- a row of the call's own, as one that is read -/
theorem own_evs {w : World} {base B : Nat} {e : TypeId} {v : Value} {l : List Ev} (h : w.ownsRow base e 7 v l.length (evsC l)) (hB : w.heap.size ≤ B) : ∃ A c, v = .slice A l.length c ∧ Se w B A l ∧ l.length ≤ c ∧ c ≤ maxLen := by
  obtain ⟨hl, h | ⟨g, cap, cur, hv, _, hh, hnc, hcm, hcs, ht⟩⟩ := h
  · obtain ⟨rfl, h2⟩ := h
    have h3 : l.length = 0 := by rw [h2] at hl; simp at hl; omega
    have h4 : l = [] := List.eq_nil_of_length_eq_zero h3
    subst h4
    exact ⟨none, 0, rfl, Sl.nil _ _ _, Nat.le_refl _, Nat.zero_le _⟩
  · refine ⟨_, cap, hv, ⟨hl, fun h0 => ⟨g, 0, rfl, ?_, fun j u hu => ?_⟩⟩, hnc, hcm⟩
    · exact Nat.lt_of_lt_of_le (blk_lt hh) hB
    · rw [cell_of_row w g _ cur e (0, 0) hh]
      rw [← ht, List.getElem?_take] at hu
      split at hu
      · simpa using hu
      · cases hu

section
variable {H : Type} {enc : TypeId × Value → H} {P : Program} {w : World} {base : Nat} {spare : Nat → Bool} {held : Bool}
theorem ev_cells {t : TypeId} {f0 f1 f2 f3 f4 f5 f6 : Field} {fuel : Nat} {cs : List Value} {x : DataW H × List MemPlace}
    (hs : P.underlying t = some (.struct #[f0, f1, f2, f3, f4, f5, f6])) (hone : oneCellFields P #[f0, f1, f2, f3, f4, f5, f6] = true)
    (h0 : P.underlying f0.type = some (.int .i64)) (h1 : P.underlying f1.type = some (.int .i64)) (h2 : P.underlying f2.type = some (.int .i64)) (h3 : P.underlying f3.type = some .string) (h4 : P.underlying f4.type = some (.int .i64)) (h5 : P.underlying f5.type = some (.int .i64)) (h6 : P.underlying f6.type = some (.int .i64))
    (hl : cs.length = 7) (h : DataW.trod enc P w base spare held fuel t cs = some x) : ∃ y : Ev, cs = evC y ∧ y.s.size ≤ maxLen := by
  obtain ⟨xs, n, -, -, -, hlen, hg⟩ := DataW.trod_struct hs h
  obtain ⟨c0, c1, c2, c3, c4, c5, c6, rfl⟩ : ∃ c0 c1 c2 c3 c4 c5 c6, cs = [c0, c1, c2, c3, c4, c5, c6] := by
    rcases cs with _ | ⟨c0, _ | ⟨c1, _ | ⟨c2, _ | ⟨c3, _ | ⟨c4, _ | ⟨c5, _ | ⟨c6, _ | ⟨c7, r⟩⟩⟩⟩⟩⟩⟩⟩ <;> simp at hl
    exact ⟨c0, c1, c2, c3, c4, c5, c6, rfl⟩
  have key : ∀ (i : Nat) (f : Field), (#[f0, f1, f2, f3, f4, f5, f6] : Array Field)[i]? = some f → DataW.trod enc P w base spare held n f.type (([c0, c1, c2, c3, c4, c5, c6].drop i).take 1) = xs[i]? := by
    intro i f hi
    obtain ⟨ho, hk⟩ := hone_of hone i f hi
    have h1 := hg i f hi
    rwa [ho, hk] at h1
  have ex : ∀ i, i < 7 → ∃ y, xs[i]? = some y := fun i hi => ⟨_, List.getElem?_eq_getElem (by simp at hlen; omega)⟩
  obtain ⟨y0, e0⟩ := ex 0 (by omega)
  obtain ⟨y1, e1⟩ := ex 1 (by omega)
  obtain ⟨y2, e2⟩ := ex 2 (by omega)
  obtain ⟨y3, e3⟩ := ex 3 (by omega)
  obtain ⟨y4, e4⟩ := ex 4 (by omega)
  obtain ⟨y5, e5⟩ := ex 5 (by omega)
  obtain ⟨y6, e6⟩ := ex 6 (by omega)
  obtain ⟨q, r0, -, -⟩ := DataW.trod_int h0 ((key 0 f0 rfl).trans e0)
  obtain ⟨s, r1, -, -⟩ := DataW.trod_int h1 ((key 1 f1 rfl).trans e1)
  obtain ⟨k, r2, -, -⟩ := DataW.trod_int h2 ((key 2 f2 rfl).trans e2)
  obtain ⟨z, r3, -, hz⟩ := DataW.trod_string h3 ((key 3 f3 rfl).trans e3)
  obtain ⟨a, r4, -, -⟩ := DataW.trod_int h4 ((key 4 f4 rfl).trans e4)
  obtain ⟨b, r5, -, -⟩ := DataW.trod_int h5 ((key 5 f5 rfl).trans e5)
  obtain ⟨c, r6, -, -⟩ := DataW.trod_int h6 ((key 6 f6 rfl).trans e6)
  simp at r0 r1 r2 r3 r4 r5 r6
  subst r0 r1 r2 r3 r4 r5 r6
  exact ⟨⟨q, s, k, z, a, b, c⟩, rfl, hz⟩

/-- an argument that is a slice of events -/
theorem open_evs {r : Reach} {b0 : Nat} {t e : TypeId} {f0 f1 f2 f3 f4 f5 f6 : Field} {v : Value} {d : DataW H} {ps : List MemPlace}
    (ht : P.underlying t = some (.slice e)) (hs : P.underlying e = some (.struct #[f0, f1, f2, f3, f4, f5, f6])) (hone : oneCellFields P #[f0, f1, f2, f3, f4, f5, f6] = true) (hC : P.cellsOf e = 7)
    (h0 : P.underlying f0.type = some (.int .i64)) (h1 : P.underlying f1.type = some (.int .i64)) (h2 : P.underlying f2.type = some (.int .i64)) (h3 : P.underlying f3.type = some .string) (h4 : P.underlying f4.type = some (.int .i64)) (h5 : P.underlying f5.type = some (.int .i64)) (h6 : P.underlying f6.type = some (.int .i64))
    (hv : Value.okWide P w r b0 t v) (h : DataW.Trod enc P w base spare held t v d ps) :
    ∃ (A : Option Addr) (cap : Nat) (l : List Ev), v = .slice A l.length cap ∧ l.length ≤ cap ∧ cap ≤ maxLen ∧ Se w w.heap.size A l ∧ (∀ x ∈ l, x.s.size ≤ maxLen) ∧ (A = none → cap = 0) := by
  obtain ⟨A, n, c, rfl⟩ := okWide_slice ht hv
  obtain ⟨fuel, hf⟩ := h
  rcases open_slice ht hf with ⟨hcs, _⟩ | ⟨a, len, cap, m, nf, D, Pl, hcs, _, hl, hm, hmm, _, hi⟩
  · simp [Value.cells] at hcs
    obtain ⟨rfl, rfl, rfl⟩ := hcs
    exact ⟨none, 0, [], rfl, Nat.le_refl _, Nat.zero_le _, Sl.nil _ _ _, by simp, fun _ => rfl⟩
  · simp [Value.cells] at hcs
    obtain ⟨rfl, rfl, rfl⟩ := hcs
    have hnm : n ≤ m := by rw [hmm]; split <;> omega
    have each : ∀ i, i < n → ∃ y : Ev, (∀ j u, (evC y)[j]? = some u → w.cell? (a.add (i * 7 + j)) = some u) ∧ y.s.size ≤ maxLen := fun i hin => by
      obtain ⟨cs', hc, ht'⟩ := hi i (by omega)
      rw [hC] at hc
      obtain ⟨_, hcl, hat⟩ := World.cells?_some hc
      obtain ⟨y, rfl, hy⟩ := ev_cells hs hone h0 h1 h2 h3 h4 h5 h6 (by omega) ht'
      refine ⟨y, fun j u hu => ?_, hy⟩
      have hj : j < 7 := by
        rcases Nat.lt_or_ge j 7 with h | h
        · exact h
        · rw [List.getElem?_eq_none (by show 7 ≤ j; exact h)] at hu; cases hu
      rw [← Go.Deep.add_add, hat j hj, hu]
    obtain ⟨Y, hY⟩ := choose_lt each
    have hlen : ((List.range n).map Y).length = n := by simp
    refine ⟨some a, c, (List.range n).map Y, by rw [hlen], by rw [hlen]; exact hl, hm, ⟨by rw [evsC_len], fun hn0 => ?_⟩, fun x hx => ?_, fun h => by cases h⟩
    · rw [hlen] at hn0
      have hn : 0 < n := by omega
      obtain ⟨b, o, spot⟩ := a
      have hc0 := (hY 0 hn).1 0 _ rfl
      obtain rfl : spot = none := by simpa [Addr.add] using World.cell?_spot hc0
      refine ⟨b, o, rfl, cell_lt (o := o) (by simpa [Addr.add] using hc0), fun p u hu => ?_⟩
      have hp : p < n * 7 := by
        rcases Nat.lt_or_ge p (n * 7) with h | h
        · exact h
        · rw [List.getElem?_eq_none (by rw [evsC_len, hlen]; exact h)] at hu; cases hu
      have hpn : p / 7 < n := by omega
      have hpp : p = p / 7 * 7 + p % 7 := by omega
      have hY1 := hY (p / 7) hpn
      have hev : (evC (Y (p / 7)))[p % 7]? = some ((evC (Y (p / 7)))[p % 7]'(by show _ < 7; omega)) := List.getElem?_eq_getElem _
      have h8 := evsC_at ((List.range n).map Y) (p / 7) (Y (p / 7)) (by rw [List.getElem?_map, List.getElem?_range hpn]; rfl) (p % 7) _ hev
      rw [← hpp, hu] at h8
      have h9 := hY1.1 (p % 7) _ hev
      rw [← hpp] at h9
      have ha : (⟨b, o, none⟩ : Addr).add p = ⟨b, o + p, none⟩ := by clear hpp h8 h9 hev; unfold Addr.add; split <;> simp_all
      rw [ha] at h9
      rw [h9]
      exact h8.symm
    · obtain ⟨i, hi2, rfl⟩ := List.mem_map.1 hx
      exact (hY i (List.mem_range.1 hi2)).2
end

set_option maxRecDepth 100000 in
set_option maxHeartbeats 4000000 in
theorem RSame5 {A A' : Option Addr} {c c' B B' : Nat} {l : List Ev} {w : World} (hS : Se w B A l) (hS' : Se w B' A' l) (hB : B ≤ w.heap.size) (hB' : B' ≤ w.heap.size) (hn : l.length ≤ 1000000) :
    Calls Tryz.prog 22 #[.slice A l.length c, .slice A' l.length c'] w fun e w' => e = .returned (.bool true) ∧ Below w.heap.size w w' := by
  have HS := hid hS
  have HS' := hid hS'
  have HL := hid (show l.length = l.length from rfl)
  obtain ⟨n, hnl⟩ : ∃ n, l.length = n := ⟨_, rfl⟩
  rw [hnl]
  rw [hnl] at hn
  have HNL := hid hnl
  clear hS hS' HL hnl
  go_enter Tryz.func22, Tryz.ntmps22
  go_wp2
  go_loopw [5] (fun i wr => ∃ k : Nat, k ≤ n ∧ i = .int .i64 k ∧ Below w.heap.size w wr) (fun i _ => n - (intOf i).toNat)
  case atStart => exact ⟨0, Nat.zero_le _, rfl, Below.refl _ _⟩
  case round =>
    obtain ⟨k, hk, rfl, hbr⟩ := hrel
    by_cases hlt : k < n
    · have hkl : k < l.length := by have := HNL.out; omega
      obtain ⟨b, o, rfl, hb, g0, g1, g2, g3, g4, g5, g6⟩ := (HS.out.below (hbr.mono hB)).get hkl
      obtain ⟨b', o', rfl, hb', d0, d1, d2, d3, d4, d5, d6⟩ := (HS'.out.below (hbr.mono hB')).get hkl
      have hEq := eq_event l[k].q l[k].t l[k].k l[k].a l[k].b l[k].c l[k].s
      generalize l[k] = x at *
      go_wp2_with fail
      go_region
      go_wp2
      go_roundw
      case rel => exact ⟨k + 1, by omega, by go_num, Below.drew hbr⟩
      case measure => simp [intOf]; omega
    · go_wp2
      go_ret
      exact ⟨rfl, hbr⟩
end Go.Proofs.YtondnbnaoacanaaGreatDoor
