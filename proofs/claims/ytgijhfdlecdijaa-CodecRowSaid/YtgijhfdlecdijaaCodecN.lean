/- Layer 7: what is read of bytes, and whose bytes they are: plain words. -/
import Derived.Test.YtgijhfdlecdijaaCodecM
namespace Go.Proofs.Ytgijhfdlecdijaa
open Fb
open Go (IntKind)

/-- what was read is the event whose bytes stand there, if there is one -/
theorem rd_eq {q0 t0 : Int} {ss : List ByteArray} {zs L : List Int} {p1 e1 p2 e2 p3 e3 p4 e4 p5 e5 : Int} {v1 v2 v3 v4 : Nat} {s : ByteArray}
    (hu1 : uintS zs 0 0 = (p1, e1, v1)) (hu2 : uintS zs p1 e1 = (p2, e2, v2)) (hu3 : uintS zs p2 e2 = (p3, e3, v3)) (hu4 : uintS zs p3 e3 = (p4, e4, v4))
    (hn : v4 = 0 → ∃ bs, textS zs p4 e4 24 = (p5, e5, bs) ∧ s = strOfNums bs) (hm : v4 ≠ 0 → p5 = p4 ∧ e5 = e4 ∧ ∀ z, ss[v4 - 1]? = some z → s = z)
    (hL : L = (List.range (mnI (IntKind.i64.wrap v1)).toNat).map fun j => IntKind.i64.wrap (va zs p5 e5 j))
    {y : Ev} (ok : Okk q0 t0 ss y) {rest : List Int} (hz : spB q0 t0 ss y ++ rest = zs) :
    (⟨IntKind.i64.wrap (q0 + IntKind.i64.wrap v2), IntKind.i64.wrap (t0 + IntKind.i64.wrap v3), IntKind.i64.wrap v1, s, at3 L 0, at3 L 1, at3 L 2⟩ : Ev) = y ∧
    v1 = y.k.toNat ∧ v2 = (y.q - q0).toNat ∧ v3 = (y.t - t0).toNat ∧ v4 = plc y.s ss ∧ e4 = 0 ∧ e5 = 0 ∧ p5 = (((h4 q0 t0 ss y ++ tx ss y).length : Nat) : Int) ∧ s = y.s := by
  obtain ⟨n1, n2, n3, r1, r2, r3, r4, r5, r6, r7⟩ := reads ok hz
  rw [hu1] at r1
  simp only [Prod.mk.injEq] at r1
  obtain ⟨rfl, rfl, rfl⟩ := r1
  rw [hu2] at r2
  simp only [Prod.mk.injEq] at r2
  obtain ⟨rfl, rfl, rfl⟩ := r2
  rw [hu3] at r3
  simp only [Prod.mk.injEq] at r3
  obtain ⟨rfl, rfl, rfl⟩ := r3
  rw [hu4] at r4
  simp only [Prod.mk.injEq] at r4
  obtain ⟨rfl, rfl, rfl⟩ := r4
  have hs : s = y.s ∧ p5 = (((h4 q0 t0 ss y ++ tx ss y).length : Nat) : Int) ∧ e5 = 0 := by
    by_cases h0 : plc y.s ss = 0
    · obtain ⟨bs, h1, h2⟩ := hn h0
      rw [r5 h0] at h1
      simp only [Prod.mk.injEq] at h1
      obtain ⟨rfl, rfl, rfl⟩ := h1
      exact ⟨by rw [h2, str_sI], rfl, rfl⟩
    · obtain ⟨h1, h2, h3⟩ := hm h0
      exact ⟨h3 _ (plc_at y.s ss (by omega)), by rw [h1, r6 h0], h2⟩
  obtain ⟨rfl, rfl, rfl⟩ := hs
  have k1 : IntKind.i64.wrap (y.k.toNat : Nat) = y.k := by have := ok.k1; have := ok.k2; rw [i64_in (by omega) (by omega)]; omega
  have k2 : IntKind.i64.wrap ((y.q - q0).toNat : Nat) = y.q - q0 := by have := ok.q; have := ok.q2; have := ok.q0; rw [i64_in (by omega) (by omega)]; omega
  have k3 : IntKind.i64.wrap ((y.t - t0).toNat : Nat) = y.t - t0 := by have := ok.t; have := ok.t2; have := ok.t0; rw [i64_in (by omega) (by omega)]; omega
  have k4 : IntKind.i64.wrap (q0 + (y.q - q0)) = y.q := by have := ok.q; have := ok.q2; have := ok.q0; rw [i64_in (by omega) (by omega)]; omega
  have k5 : IntKind.i64.wrap (t0 + (y.t - t0)) = y.t := by have := ok.t; have := ok.t2; have := ok.t0; rw [i64_in (by omega) (by omega)]; omega
  have hLn : L = nmL y := by
    rw [hL, k1, ← nm_len]
    apply List.ext_getElem?
    intro j
    rcases Nat.lt_or_ge j (nmL y).length with h | h
    · have hj : (nmL y)[j]? = some (nmL y)[j] := List.getElem?_eq_getElem h
      have h1 := (r7 j (by omega)).2 _ hj
      have h2 := nm_in ok.vl _ (List.getElem_mem h)
      rw [List.getElem?_map, List.getElem?_range h, hj, Option.map_some, h1, i64_in (by omega) (by omega)]
      congr 1
      omega
    · rw [List.getElem?_eq_none (by simpa using h), List.getElem?_eq_none h]
  have hf := fill7 (k := y.k) (a := y.a) (b := y.b) (c := y.c) (by have := ok.k1; have := ok.k2; omega) ok.vl (m := (mnI y.k).toNat) (by have := mn_le y.k; omega)
  have hf1 : at3 L 0 = y.a ∧ at3 L 1 = y.b ∧ at3 L 2 = y.c := by rw [hLn]; exact hf
  rw [k1, k2, k3, k4, k5, hf1.1, hf1.2.1, hf1.2.2]
  exact ⟨rfl, rfl, rfl, rfl, rfl, rfl, rfl, rfl, rfl⟩

/-- no event's bytes begin another one's -/
theorem sp_pre {q0 t0 : Int} {ss : List ByteArray} {x y : Ev} (hx : Okk q0 t0 ss x) (hy : Okk q0 t0 ss y) {r r' : List Int} (h : spB q0 t0 ss x ++ r = spB q0 t0 ss y ++ r') : x = y ∧ r = r' := by
  have e : x = y := by
    obtain ⟨zs, hz⟩ : ∃ zs, spB q0 t0 ss x ++ r = zs := ⟨_, rfl⟩
    have hz' := h.symm.trans hz
    obtain ⟨p1, e1, v1, hu1⟩ : ∃ p1 e1 v1, uintS zs 0 0 = (p1, e1, v1) := ⟨_, _, _, rfl⟩
    obtain ⟨p2, e2, v2, hu2⟩ : ∃ p2 e2 v2, uintS zs p1 e1 = (p2, e2, v2) := ⟨_, _, _, rfl⟩
    obtain ⟨p3, e3, v3, hu3⟩ : ∃ p3 e3 v3, uintS zs p2 e2 = (p3, e3, v3) := ⟨_, _, _, rfl⟩
    obtain ⟨p4, e4, v4, hu4⟩ : ∃ p4 e4 v4, uintS zs p3 e3 = (p4, e4, v4) := ⟨_, _, _, rfl⟩
    obtain ⟨p5, e5, s, hn, hm⟩ : ∃ (p5 e5 : Int) (s : ByteArray), (v4 = 0 → ∃ bs, textS zs p4 e4 24 = (p5, e5, bs) ∧ s = strOfNums bs) ∧ (v4 ≠ 0 → p5 = p4 ∧ e5 = e4 ∧ ∀ z, ss[v4 - 1]? = some z → s = z) := by
      by_cases h0 : v4 = 0
      · exact ⟨_, _, _, fun _ => ⟨_, rfl, rfl⟩, fun h1 => absurd h0 h1⟩
      · exact ⟨p4, e4, (ss[v4 - 1]?).getD default, fun h1 => absurd h1 h0, fun _ => ⟨rfl, rfl, fun z hz => by rw [hz]; rfl⟩⟩
    have a := (rd_eq hu1 hu2 hu3 hu4 hn hm rfl hx hz).1
    have b := (rd_eq hu1 hu2 hu3 hu4 hn hm rfl hy hz').1
    exact a.symm.trans b
  subst e
  exact ⟨rfl, List.append_cancel_left h⟩
theorem Fo_one {q0 t0 : Int} {ss : List ByteArray} {x y : Ev} {zs : List Int} (hr : rcB q0 t0 ss = true) (hx : Fo q0 t0 ss x zs) (hy : Fo q0 t0 ss y zs) : x = y :=
  (sp_pre (r := []) (r' := []) (fl_ok hr hx.1) (fl_ok hr hy.1) (by rw [hx.2, hy.2])).1
/-- what stands behind an event is right -/
theorem rc_next {q0 t0 : Int} {ss : List ByteArray} {x : Ev} (hr : rcB q0 t0 ss = true) (h : flE q0 t0 ss x = 0) : rcB x.q x.t (flL ss x) = true := by
  have ok := fl_ok hr h
  rw [rc_iff]
  refine ⟨⟨by have := ok.q; have := ok.q0; omega, ok.q2⟩, ⟨by have := ok.t; have := ok.t0; omega, ok.t2⟩, ?_⟩
  unfold flL
  split
  · exact puL_right ok.rg
  · exact ok.rg

/-! what Encode and Decode answer -/
def enE (q0 t0 : Int) (ss : List ByteArray) (x : Ev) : Int := if rcB q0 t0 ss = true then flE q0 t0 ss x else 1
def enB (q0 t0 : Int) (ss : List ByteArray) (x : Ev) : List Int := if enE q0 t0 ss x = 0 then spB q0 t0 ss x else []
def enQ (q0 t0 : Int) (ss : List ByteArray) (x : Ev) : Int := if enE q0 t0 ss x = 0 then x.q else q0
def enT (q0 t0 : Int) (ss : List ByteArray) (x : Ev) : Int := if enE q0 t0 ss x = 0 then x.t else t0
def enL (q0 t0 : Int) (ss : List ByteArray) (x : Ev) : List ByteArray := if enE q0 t0 ss x = 0 then flL ss x else ss
theorem en_zero {q0 t0 : Int} {ss : List ByteArray} {x : Ev} (h : enE q0 t0 ss x = 0) : rcB q0 t0 ss = true ∧ flE q0 t0 ss x = 0 ∧ enB q0 t0 ss x = spB q0 t0 ss x ∧ enQ q0 t0 ss x = x.q ∧ enT q0 t0 ss x = x.t ∧ enL q0 t0 ss x = flL ss x := by
  have h1 : rcB q0 t0 ss = true ∧ flE q0 t0 ss x = 0 := by
    unfold enE at h
    by_cases hr : rcB q0 t0 ss = true
    · rw [if_pos hr] at h; exact ⟨hr, h⟩
    · rw [if_neg hr] at h; omega
  refine ⟨h1.1, h1.2, ?_, ?_, ?_, ?_⟩
  · unfold enB; rw [if_pos h]
  · unfold enQ; rw [if_pos h]
  · unfold enT; rw [if_pos h]
  · unfold enL; rw [if_pos h]
theorem en_not {q0 t0 : Int} {ss : List ByteArray} {x : Ev} (h : enE q0 t0 ss x ≠ 0) : enB q0 t0 ss x = [] ∧ enQ q0 t0 ss x = q0 ∧ enT q0 t0 ss x = t0 ∧ enL q0 t0 ss x = ss := by
  refine ⟨?_, ?_, ?_, ?_⟩
  · unfold enB; rw [if_neg h]
  · unfold enQ; rw [if_neg h]
  · unfold enT; rw [if_neg h]
  · unfold enL; rw [if_neg h]

/-- are these bytes an event's? -/
def deO (q0 t0 : Int) (ss : List ByteArray) (zs : List Int) : Prop := rcB q0 t0 ss = true ∧ ∃ y, Fo q0 t0 ss y zs
def ev0 : Ev := ⟨0, 0, 0, ⟨#[]⟩, 0, 0, 0⟩
open Classical in
noncomputable def deX (q0 t0 : Int) (ss : List ByteArray) (zs : List Int) : Ev := if h : deO q0 t0 ss zs then h.2.choose else ev0
open Classical in
noncomputable def deE (q0 t0 : Int) (ss : List ByteArray) (zs : List Int) : Int := if deO q0 t0 ss zs then 0 else if rcB q0 t0 ss = true then 11 else 1
open Classical in
noncomputable def deQ (q0 t0 : Int) (ss : List ByteArray) (zs : List Int) : Int := if deO q0 t0 ss zs then (deX q0 t0 ss zs).q else q0
open Classical in
noncomputable def deT (q0 t0 : Int) (ss : List ByteArray) (zs : List Int) : Int := if deO q0 t0 ss zs then (deX q0 t0 ss zs).t else t0
open Classical in
noncomputable def deL (q0 t0 : Int) (ss : List ByteArray) (zs : List Int) : List ByteArray := if deO q0 t0 ss zs then flL ss (deX q0 t0 ss zs) else ss
theorem de_yes {q0 t0 : Int} {ss : List ByteArray} {zs : List Int} {y : Ev} (hr : rcB q0 t0 ss = true) (h : Fo q0 t0 ss y zs) :
    deX q0 t0 ss zs = y ∧ deE q0 t0 ss zs = 0 ∧ deQ q0 t0 ss zs = y.q ∧ deT q0 t0 ss zs = y.t ∧ deL q0 t0 ss zs = flL ss y := by
  have ho : deO q0 t0 ss zs := ⟨hr, y, h⟩
  have e : deX q0 t0 ss zs = y := by
    unfold deX
    rw [dif_pos ho]
    exact Fo_one hr ho.2.choose_spec h
  refine ⟨e, ?_, ?_, ?_, ?_⟩
  · unfold deE; rw [if_pos ho]
  · unfold deQ; rw [if_pos ho, e]
  · unfold deT; rw [if_pos ho, e]
  · unfold deL; rw [if_pos ho, e]
theorem de_not {q0 t0 : Int} {ss : List ByteArray} {zs : List Int} (h : ¬ deO q0 t0 ss zs) :
    deX q0 t0 ss zs = ev0 ∧ deE q0 t0 ss zs = (if rcB q0 t0 ss = true then 11 else 1) ∧ deQ q0 t0 ss zs = q0 ∧ deT q0 t0 ss zs = t0 ∧ deL q0 t0 ss zs = ss := by
  refine ⟨?_, ?_, ?_, ?_, ?_⟩
  · unfold deX; rw [dif_neg h]
  · unfold deE; rw [if_neg h]
  · unfold deQ; rw [if_neg h]
  · unfold deT; rw [if_neg h]
  · unfold deL; rw [if_neg h]
theorem de_none {q0 t0 : Int} {ss : List ByteArray} {zs : List Int} (hr : rcB q0 t0 ss = true) (h : ∀ y, ¬ Fo q0 t0 ss y zs) :
    deX q0 t0 ss zs = ev0 ∧ deE q0 t0 ss zs = 11 ∧ deQ q0 t0 ss zs = q0 ∧ deT q0 t0 ss zs = t0 ∧ deL q0 t0 ss zs = ss := by
  have := de_not (fun ho : deO q0 t0 ss zs => h _ ho.2.choose_spec)
  rwa [if_pos hr] at this
theorem de_bad {q0 t0 : Int} {ss : List ByteArray} {zs : List Int} (hr : rcB q0 t0 ss = false) :
    deX q0 t0 ss zs = ev0 ∧ deE q0 t0 ss zs = 1 ∧ deQ q0 t0 ss zs = q0 ∧ deT q0 t0 ss zs = t0 ∧ deL q0 t0 ss zs = ss := by
  have := de_not (fun ho : deO q0 t0 ss zs => by rw [ho.1] at hr; cases hr)
  rwa [if_neg (by simp [hr])] at this
theorem de_zero {q0 t0 : Int} {ss : List ByteArray} {zs : List Int} (h : deE q0 t0 ss zs = 0) : rcB q0 t0 ss = true ∧ Fo q0 t0 ss (deX q0 t0 ss zs) zs := by
  by_cases ho : deO q0 t0 ss zs
  · refine ⟨ho.1, ?_⟩
    unfold deX
    rw [dif_pos ho]
    exact ho.2.choose_spec
  · rw [(de_not ho).2.1] at h
    split at h <;> omega
end Go.Proofs.Ytgijhfdlecdijaa
