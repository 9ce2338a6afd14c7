/- Layer 9: contract of begin. -/
import Derived.Test.YtondnbnaoacanaaGreatDoorSegX
import Derived.Test.YtondnbnaoacanaaGreatDoorWc
import Derived.Test.YtondnbnaoacanaaGreatDoorWb
namespace Go.Proofs.YtondnbnaoacanaaGreatDoor
open Go.ChangeShapes Go.WideShapes Go.ChangeAt Go.RowKit Fb Go.Maps

/-- a block of another kind: names don't lie there -/
theorem Rs.stoN {w w' : World} {A : Option Addr} {n cp g : Nat} {ss : List ByteArray} {t : TypeId} {cs : Array Value} (h : Rs w A n cp ss) (K : w.heap[g]? = some (.cells cs t (0, 0))) (hc : ∀ (i : Nat) (s : ByteArray), cs[i]? ≠ some (.string s)) (S : Sto g w w') : Rs w' A n cp ss := by
  refine ⟨?_, h.2⟩
  rw [S.size]
  refine S.sl h.1 fun hn ad hA e => ?_
  obtain ⟨b0, o, u, hA2, -, hu, hx⟩ := h.1.get hn
  rw [hA] at hA2
  obtain rfl := Option.some.inj hA2
  simp only at e
  subst e
  rw [cell_of_row w b0 (o + 0) _ t (0, 0) K] at hx
  have := st9_at hu
  subst this
  exact hc _ _ hx
theorem sc_cells (n q t aq at9 p : Int) (vE vN vB : Value) (b : Bool) (h1 : ∀ s, vE ≠ .string s) (h2 : ∀ s, vN ≠ .string s) (h3 : ∀ s, vB ≠ .string s) (v3 : Value) (h4 : ∀ s, v3 ≠ .string s) :
    ∀ (i : Nat) (s : ByteArray), (#[.int .i64 n, .int .i64 q, .int .i64 t, v3, vE, .int .i64 aq, .int .i64 at9, vN, .int .i64 0, .int .i64 p, vB, .bool b] : Array Value)[i]? ≠ some (.string s) := by
  intro i s h
  rcases (show i = 0 ∨ i = 1 ∨ i = 2 ∨ i = 3 ∨ i = 4 ∨ i = 5 ∨ i = 6 ∨ i = 7 ∨ i = 8 ∨ i = 9 ∨ i = 10 ∨ i = 11 ∨ 12 ≤ i by omega) with rfl | rfl | rfl | rfl | rfl | rfl | rfl | rfl | rfl | rfl | rfl | rfl | hi
  · cases h
  · cases h
  · cases h
  · exact h4 s (Option.some.inj h)
  · exact h1 s (Option.some.inj h)
  · cases h
  · cases h
  · exact h2 s (Option.some.inj h)
  · cases h
  · cases h
  · exact h3 s (Option.some.inj h)
  · cases h
  · rw [Array.getElem?_eq_none (by simpa using hi)] at h; cases h
theorem row_slice {w : World} {base n size : Nat} {e : TypeId} {v : Value} {xs : List Value} (h : w.ownsRow base e size v n xs) (s : ByteArray) : v ≠ .string s := by
  rintro rfl
  obtain ⟨-, h1 | ⟨b, cap, cur, hv, -⟩⟩ := h
  · cases h1.1
  · cases hv
theorem SI.cells {w0 w : World} {g : Nat} {AB : Option Addr} {nB cB : Nat} {s : Sc} {vE : Value} {A2 : Option Addr} {n2 c2 : Nat} (h : SI w0 g AB nB cB w s vE A2 n2 c2) : ∀ (i : Nat) (b : ByteArray), (#[.int .i64 s.num, .int .i64 s.before.q, .int .i64 s.before.t, .slice none 0 0, vE, .int .i64 s.after.q, .int .i64 s.after.t, .slice A2 n2 c2, .int .i64 0, .int .i64 (s.size : Int), .slice AB nB cB, .bool s.sd] : Array Value)[i]? ≠ some (.string b) :=
  sc_cells s.num s.before.q s.before.t s.after.q s.after.t (s.size : Int) vE (.slice A2 n2 c2) (.slice AB nB cB) s.sd (row_slice h.row) (fun _ e => by cases e) (fun _ e => by cases e) (.slice none 0 0) (fun _ e => by cases e)
/-- the scanner is written -/
theorem SI.put {w0 w w' : World} {g : Nat} {AB : Option Addr} {nB cB : Nat} {s s' : Sc} {vE : Value} {A2 A3 : Option Addr} {n2 c2 n3 c3 : Nat} (h : SI w0 g AB nB cB w s vE A2 n2 c2) (S : Sto g w w')
    (hk : w'.heap[g]? = some (.cells #[.int .i64 s'.num, .int .i64 s'.before.q, .int .i64 s'.before.t, .slice none 0 0, vE, .int .i64 s'.after.q, .int .i64 s'.after.t, .slice A3 n3 c3, .int .i64 0, .int .i64 (s'.size : Int), .slice AB nB cB, .bool s'.sd] 63 (0, 0)))
    (he : s'.evs = s.evs) (hr : Rs w' A3 n3 c3 s'.after.l) : SI w0 g AB nB cB w' s' vE A3 n3 c3 :=
  ⟨h.lo, S.below h.bel h.lo, hk, by rw [he]; exact S.own h.row (by omega), by rw [he]; exact (own_elseY h.row h.blk (by decide) S.block).2 h.spr, hr⟩

theorem hqB_bytes (n : Int) (c : Ahd) : Bytes (hqB n c) := by
  cases hk : hqOk n c with
  | false => rw [(hq_no hk).2]; exact fun x hx => by cases hx
  | true =>
    rw [(hq_yes hk).2]
    obtain ⟨hm, hr, -⟩ := hq_iff.1 hk
    have q := rc_q hr
    exact frB_bytes (by omega) (by have := hp_len hm.2 q.2.1 q.2.2.2; omega) (hp_bytes _ _)
theorem all12b {w : World} {g : Nat} {t : TypeId} {a b c d e f h i j k l m a' b' c' d' f' h' i' : Value} (K : w.heap[g]? = some (.cells #[a, b, c, d, e, f, h, i, j, k, l, m] t (0, 0))) :
    (((((((w.setCell ⟨g, 0, none⟩ a').setCell ⟨g, 1, none⟩ b').setCell ⟨g, 2, none⟩ c').setCell ⟨g, 3, none⟩ d').setCell ⟨g, 5, none⟩ f').setCell ⟨g, 6, none⟩ h').setCell ⟨g, 7, none⟩ i').heap[g]? = some (.cells #[a', b', c', d', e, f', h', i', j, k, l, m] t (0, 0)) := by
  simp [World.setCell, Array.getElem?_modify, K]
theorem sto7b (w : World) (g : Nat) (a b c d f h i : Value) : Sto g w (((((((w.setCell ⟨g, 0, none⟩ a).setCell ⟨g, 1, none⟩ b).setCell ⟨g, 2, none⟩ c).setCell ⟨g, 3, none⟩ d).setCell ⟨g, 5, none⟩ f).setCell ⟨g, 6, none⟩ h).setCell ⟨g, 7, none⟩ i) :=
  ((((((Sto.cell w g 0 a).trans (Sto.cell _ g 1 b)).trans (Sto.cell _ g 2 c)).trans (Sto.cell _ g 3 d)).trans (Sto.cell _ g 5 f)).trans (Sto.cell _ g 6 h)).trans (Sto.cell _ g 7 i)
theorem SI.put7 {w0 w w' : World} {g : Nat} {AB : Option Addr} {nB cB p : Nat} {vE : Value} {A2 : Option Addr} {n2 c2 : Nat} {n q t : Int} (h : SI w0 g AB nB cB w ⟨0, ⟨0, 0, []⟩, [], ⟨0, 0, []⟩, p, false⟩ vE A2 n2 c2) (S : Sto g w w')
    (hk : w'.heap[g]? = some (.cells #[.int .i64 n, .int .i64 q, .int .i64 t, .slice none 0 0, vE, .int .i64 q, .int .i64 t, .slice none 0 0, .int .i64 0, .int .i64 (p : Int), .slice AB nB cB, .bool false] 63 (0, 0))) :
    SI w0 g AB nB cB w'.drew ⟨n, ⟨q, t, []⟩, [], ⟨q, t, []⟩, p, false⟩ vE none 0 0 :=
  SI.put h S.drew hk rfl ⟨Sl.nil _ _ _, Nat.le_refl _, Nat.zero_le _, fun _ => rfl⟩
/-- what is read of a payload is a Head's only if it is put so -/
theorem begin_iff {zs z : List Int} {p : Nat} {p1 e1 p2 e2 p3 e3 p4 e4 : Int} {bs : List Int} {v1 v2 v3 : Nat} (hbz : Bytes z) (h0 : nxS zs (p : Int) = 0) (hK : nxK zs (p : Int) = 1) (hz : nxP zs (p : Int) = z)
    (ht : takeS z 0 0 4 = (p1, e1, bs)) (u1 : uintS z p1 e1 = (p2, e2, v1)) (u2 : uintS z p2 e2 = (p3, e3, v2)) (u3 : uintS z p3 e3 = (p4, e4, v3)) {n : Int} {c : Ahd}
    (hn : IntKind.i64.wrap v1 = n) (hq : IntKind.i64.wrap v2 = c.q) (ht2 : IntKind.i64.wrap v3 = c.t) (hl : c.l = []) :
    ((decide (hqE n c = 0) && decide ((zs.drop p).take (hqB n c).length = hqB n c)) = true → mayN n ∧ c.rc = true ∧ z = hpB n c) ∧
    ((decide (hqE n c = 0) && decide ((zs.drop p).take (hqB n c).length = hqB n c)) = false → ¬ hdO z) := by
  obtain ⟨-, w1, w2, w3, w4, w5⟩ := nx_whole h0
  rw [hK, hz] at w1 w2 w5
  rw [w2, Int.toNat_natCast, Int.toNat_natCast] at w5
  obtain ⟨-, -, hzl⟩ := fpE_zero w1
  constructor
  · intro h
    rw [Bool.and_eq_true, decide_eq_true_eq, decide_eq_true_eq] at h
    obtain ⟨h1, h2⟩ := h
    have hok : hqOk n c = true := by
      cases hk : hqOk n c with
      | true => rfl
      | false => rw [(hq_no hk).1] at h1; cases h1
    obtain ⟨hm, hr, -⟩ := hq_iff.1 hok
    rw [(hq_yes hok).2] at h2
    refine ⟨hm, hr, ?_⟩
    have q := rc_q hr
    have a1 : zs.drop p = frB 1 z ++ (zs.drop p).drop (frB 1 z).length := by
      have := (List.take_append_drop (frB 1 z).length (zs.drop p)).symm
      rwa [w5] at this
    have a2 : zs.drop p = frB 1 (hpB n c) ++ (zs.drop p).drop (sgH n c).length := by
      have := (List.take_append_drop (sgH n c).length (zs.drop p)).symm
      rwa [h2] at this
    exact (fr_eq (by omega) (by omega) hzl (hp_len hm.2 q.2.1 q.2.2.2) (a1.symm.trans a2)).2.1
  · rintro h ⟨n', c', ⟨hm, hr, hl'⟩, hzz⟩
    have q := rc_q hr
    have hm1 := hm.1
    have hm2 := hm.2
    obtain ⟨x1, x2, r1, r2, r3⟩ := hp_reads hm hr
    have hlen : 4 ≤ (hpB n' c').length := by
      simp only [hpB, List.length_append, List.length_cons, List.length_nil]
      omega
    rw [hzz, tS_ok (by omega) (by omega) (by omega)] at ht
    simp only [Prod.mk.injEq, Int.zero_add] at ht
    obtain ⟨rfl, rfl, -⟩ := ht
    rw [hzz, r1] at u1
    simp only [Prod.mk.injEq] at u1
    obtain ⟨rfl, rfl, rfl⟩ := u1
    rw [hzz, r2] at u2
    simp only [Prod.mk.injEq] at u2
    obtain ⟨rfl, rfl, rfl⟩ := u2
    rw [hzz, r3] at u3
    simp only [Prod.mk.injEq] at u3
    obtain ⟨-, -, rfl⟩ := u3
    have e1 : n = n' := by rw [← hn, i64_in (by omega) (by omega)]; omega
    have e2 : c.q = c'.q := by rw [← hq, i64_in (by omega) (by omega)]; omega
    have e3 : c.t = c'.t := by rw [← ht2, i64_in (by omega) (by omega)]; omega
    have e4 : c = c' := by
      obtain ⟨a, b, d⟩ := c
      obtain ⟨a', b', d'⟩ := c'
      simp only at e2 e3 hl hl'
      rw [e2, e3, hl, hl']
    subst e1 e4
    have hok : hqOk n c = true := hq_iff.2 ⟨hm, hr, hl⟩
    have h5 : (zs.drop p).take (sgH n c).length = sgH n c := by
      unfold sgH
      rw [← hzz]
      exact w5
    rw [(hq_yes hok).1, (hq_yes hok).2, h5] at h
    simp at h

set_option maxRecDepth 100000 in
set_option maxHeartbeats 16000000 in
theorem begin_any {w0 : World} {g : Nat} {AB : Option Addr} {nB cB : Nat} {zs : List Int} {p : Nat} {vE : Value} {A2 : Option Addr} {n2 c2 : Nat} {w : World} (hS : Rw w0 AB nB cB zs) (hb : Bytes zs) (hp : p ≤ nB)
    (h : SI w0 g AB nB cB w ⟨0, ⟨0, 0, []⟩, [], ⟨0, 0, []⟩, p, false⟩ vE A2 n2 c2) {AP : Option Addr} {nP cP : Nat} {z : List Int} (hP : Rw w AP nP cP z) (hbz : Bytes z) (h0 : nxS zs (p : Int) = 0) (hK : nxK zs (p : Int) = 1) (hz : nxP zs (p : Int) = z) :
    Calls Tryz.prog 80 #[.pointer (some ⟨g, 0, none⟩), .slice AP nP cP] w fun e w' =>
      (∃ n c, mayN n ∧ c.rc = true ∧ c.l = [] ∧ z = hpB n c ∧ e = .returned (.bool true) ∧ SI w0 g AB nB cB w' ⟨n, c, [], c, p, false⟩ vE none 0 0) ∨
      (¬ hdO z ∧ e = .returned (.bool false) ∧ SI w0 g AB nB cB w' ⟨0, ⟨0, 0, []⟩, [], ⟨0, 0, []⟩, p, false⟩ vE A2 n2 c2) := by
  have hzl : z.length ≤ 200 := by
    obtain ⟨-, w1, -⟩ := nx_whole h0
    rw [hz] at w1
    exact (fpE_zero w1).2.2
  have hnP : nP ≤ 200 := by have := hP.len; omega
  obtain ⟨p1, e1, bs, hT⟩ : ∃ a b c, takeS z 0 0 4 = (a, b, c) := ⟨_, _, _, rfl⟩
  obtain ⟨p2, e2, v1, hU1⟩ : ∃ a b c, uintS z p1 e1 = (a, b, c) := ⟨_, _, _, rfl⟩
  obtain ⟨p3, e3, v2, hU2⟩ : ∃ a b c, uintS z p2 e2 = (a, b, c) := ⟨_, _, _, rfl⟩
  obtain ⟨p4, e4, v3, hU3⟩ : ∃ a b c, uintS z p3 e3 = (a, b, c) := ⟨_, _, _, rfl⟩
  obtain ⟨N, hN⟩ : ∃ N, IntKind.i64.wrap (v1 : Int) = N := ⟨_, rfl⟩
  obtain ⟨Q, hQ⟩ : ∃ N, IntKind.i64.wrap (v2 : Int) = N := ⟨_, rfl⟩
  obtain ⟨T, hTT⟩ : ∃ N, IntKind.i64.wrap (v3 : Int) = N := ⟨_, rfl⟩
  have HIF := hid (begin_iff (c := ⟨Q, T, []⟩) hbz h0 hK hz hT hU1 hU2 hU3 hN hQ hTT rfl)
  have HP := hid hP
  have HI := hid h
  have HBB := hid (fun (w1 : World) (h1 : Below w.heap.size w w1) => (hS.below h.bel).below h1)
  have PT := hid (fun (w1 : World) (h1 : Below w.heap.size w w1) => Take_any (c := cP) hT ((hP.below h1).1) hP.2.2.2 (by omega) hP.2.1 hP.2.2.1 (by omega))
  have PU1 := hid (fun (w1 : World) (h1 : Below w.heap.size w w1) => Uint_any (c := cP) hU1 ((hP.below h1).1) hbz (by omega) hP.2.1 hP.2.2.1)
  have PU2 := hid (fun (w1 : World) (h1 : Below w.heap.size w w1) => Uint_any (c := cP) hU2 ((hP.below h1).1) hbz (by omega) hP.2.1 hP.2.2.1)
  have PU3 := hid (fun (w1 : World) (h1 : Below w.heap.size w w1) => Uint_any (c := cP) hU3 ((hP.below h1).1) hbz (by omega) hP.2.1 hP.2.2.1)
  have PH := hid (fun (w1 : World) => SHead_any N Q T (A := none) (n := 0) (cp := 0) (ss := []) ⟨by decide, fun s hs => by cases hs⟩ (w := w1) ⟨Sl.nil _ _ _, Nat.le_refl _, Nat.zero_le _, fun _ => rfl⟩)
  have HBZ := hid hb
  have HPN := hid hp
  unfold Takes at PT
  unfold SgR at PH
  clear hS hb h hP hbz h0 hK hz hT hU1 hU2 hU3 hp hzl
  go_enter Tryz.func80, Tryz.ntmps80
  go_wp2_with fail
  refine (Start_any _ _ _ _).mono ?_
  rintro e w1 ⟨rfl, hb1⟩
  go_wp2_with fail
  refine (PT.out _ hb1).mono ?_
  rintro e w2 ⟨⟨AT, cT, rfl, -, -⟩, hb2⟩
  have hbw2 : Below w.heap.size w w2 := hb1.trans (hb2.mono hb1.size)
  clear hb1 hb2 PT
  have hal : Below w2.heap.size w2 (w2.alloc (.cells #[.slice AP nP cP, .int .i64 p1, .int .i64 e1] 94)) := (Below.refl _ _).alloc (Nat.le_refl _) _
  have hbw2a := hbw2.trans (hal.mono hbw2.size)
  have hgl : w.heap.size ≤ w2.heap.size := hbw2.size
  go_wp2_with fail
  refine (PU1.out _ hbw2a).mono ?_
  rintro e w3 ⟨rfl, hb3⟩
  have K3 := (hb3.block w2.heap.size (by simp)).trans (heap_alloc_new w2 _)
  have hbw3 : Below w.heap.size w w3 := hbw2a.trans (hb3.mono hbw2a.size)
  have y3 := blk_lt K3
  obtain ⟨r0, r1, r2, x0, x1, x2⟩ := blk3 K3
  have HK3 := hid K3
  clear K3 hb3 hal
  go_wp2_with fail
  have S4 := sto3 w3 w2.heap.size (.slice AP nP cP) (.int .i64 p2) (.int .i64 e2)
  have K4 := all3 (a' := .slice AP nP cP) (b' := .int .i64 p2) (c' := .int .i64 e2) HK3.out
  obtain ⟨w4, hW4⟩ : ∃ x, x = ((w3.setCell ⟨w2.heap.size, 0, none⟩ (.slice AP nP cP)).setCell ⟨w2.heap.size, 1, none⟩ (.int .i64 p2)).setCell ⟨w2.heap.size, 2, none⟩ (.int .i64 e2) := ⟨_, rfl⟩
  rw [← hW4] at S4 K4 ⊢
  have hbw4 : Below w.heap.size w w4 := S4.below hbw3 hgl
  clear hW4 S4 HK3 y3 r0 r1 r2 x0 x1 x2 hbw3
  have y3 := blk_lt K4
  obtain ⟨r0, r1, r2, x0, x1, x2⟩ := blk3 K4
  have HK3 := hid K4
  clear K4
  refine (PU2.out _ hbw4).mono ?_
  rintro e w5 ⟨rfl, hb5⟩
  have K3 := (hb5.block w2.heap.size y3).trans HK3.out
  have hbw5 : Below w.heap.size w w5 := hbw4.trans (hb5.mono hbw4.size)
  clear y3 r0 r1 r2 x0 x1 x2 hbw4 hb5 HK3
  have y3 := blk_lt K3
  obtain ⟨r0, r1, r2, x0, x1, x2⟩ := blk3 K3
  have HK3 := hid K3
  clear K3
  go_wp2_with fail
  have S4 := sto3 w5 w2.heap.size (.slice AP nP cP) (.int .i64 p3) (.int .i64 e3)
  have K4 := all3 (a' := .slice AP nP cP) (b' := .int .i64 p3) (c' := .int .i64 e3) HK3.out
  obtain ⟨w6, hW4⟩ : ∃ x, x = ((w5.setCell ⟨w2.heap.size, 0, none⟩ (.slice AP nP cP)).setCell ⟨w2.heap.size, 1, none⟩ (.int .i64 p3)).setCell ⟨w2.heap.size, 2, none⟩ (.int .i64 e3) := ⟨_, rfl⟩
  rw [← hW4] at S4 K4 ⊢
  have hbw6 : Below w.heap.size w w6 := S4.below hbw5 hgl
  clear hW4 S4 HK3 y3 r0 r1 r2 x0 x1 x2 hbw5 K4
  refine (PU3.out _ hbw6).mono ?_
  rintro e w7 ⟨rfl, hb7⟩
  have hbw7 : Below w.heap.size w w7 := hbw6.trans (hb7.mono hbw6.size)
  clear hbw6 hb7
  have hal : Below w7.heap.size w7 ((w7.alloc (.cells #[.slice AP nP cP, .int .i64 p4, .int .i64 e4] 94)).alloc (.cells #[.int .i64 Q, .int .i64 T, .slice none 0 0] 24)) := ((Below.refl _ _).alloc (Nat.le_refl _) _).alloc (by simp) _
  have hbw7a := hbw7.trans (hal.mono hbw7.size)
  have HK7 := hid (heap_alloc_new (w7.alloc (.cells #[.slice AP nP cP, .int .i64 p4, .int .i64 e4] 94)) (.cells #[.int .i64 Q, .int .i64 T, .slice none 0 0] 24))
  go_wp2_with fail
  refine (PH.out _).mono ?_
  rintro e w8 ⟨⟨v, rfl, hown, -⟩, hb8⟩
  obtain ⟨A8, c8, rfl, hR8, -⟩ := own_rw hown
  have hbw8 : Below w.heap.size w w8 := hbw7a.trans (hb8.mono hbw7a.size)
  have HI8 := hid (HI.out.below hbw8)
  have HB8 := hid (HBB.out _ hbw8)
  have K9 : w8.heap[w7.heap.size + 1]? = some (.cells #[.int .i64 Q, .int .i64 T, .slice none 0 0] 24 (0, 0)) := (hb8.block (w7.heap.size + 1) (by simp)).trans (by have := HK7.out; rw [World.size_alloc] at this; exact this)
  have HR8 := hid hR8
  have HQB := hid (hqB_bytes N ⟨Q, T, []⟩)
  have h8g : g < w8.heap.size := blk_lt HI8.out.blk
  obtain ⟨u0, u1, u2, u3, u4, u5, u6, u7, u8, u9, u10, u11⟩ := blk12 HI8.out.blk
  have PS := hid (stands_any (c' := c8) (hqE N ⟨Q, T, []⟩) u9 u10 HB8.out HPN.out HR8.out.1 HBZ.out HQB.out)
  clear u0 u1 u2 u3 u4 u5 u6 u7 u8 u9 u10 u11 hown hR8 hb8 PH
  go_wp2_with fail
  refine PS.out.mono ?_
  rintro e w9 ⟨rfl, hb9⟩
  have hbw9 : Below w.heap.size w w9 := hbw8.trans (hb9.mono hbw8.size)
  have K9 := (hb9.block _ (blk_lt K9)).trans K9
  have HI9 := hid (HI8.out.below hb9)
  have hIF := HIF.out
  generalize (decide (hqE N ⟨Q, T, []⟩ = 0) && decide ((zs.drop p).take (hqB N ⟨Q, T, []⟩).length = hqB N ⟨Q, T, []⟩)) = R at *
  clear HIF PS HR8 HQB HB8 HI8 h8g
  cases R with
  | false =>
    have HNO := hid (hIF.2 rfl)
    clear hIF K9
    go_wp2_with fail
    go_ret
    exact .inr ⟨HNO.out, rfl, HI9.out⟩
  | true =>
    have HYES := hid (hIF.1 rfl)
    obtain ⟨a0, a1, a2, -, -, -⟩ := blk3 K9
    have y9 := blk_lt K9
    have yg := blk_lt HI9.out.blk
    have v2 := blk12f HI9.out.blk
    obtain ⟨u0, u1, u2, u3, u4, u5, u6, u7, u8, u9, u10, u11⟩ := blk12 HI9.out.blk
    have hne1 : g ≠ w7.heap.size + 1 := by have := blk_lt HI.out.blk; have := hbw7.size; omega
    have hne2 : ¬ w7.heap.size + 1 = g := fun e => hne1 e.symm
    clear hIF K9
    go_wp2_with fail
    go_region
    go_wp2
    go_ret
    have SS := sto7b w9 g (.int .i64 N) (.int .i64 Q) (.int .i64 T) (.slice none 0 0) (.int .i64 Q) (.int .i64 T) (.slice none 0 0)
    have KK := all12b (a' := .int .i64 N) (b' := .int .i64 Q) (c' := .int .i64 T) (d' := .slice none 0 0) (f' := .int .i64 Q) (h' := .int .i64 T) (i' := .slice none 0 0) HI9.out.blk
    refine .inl ⟨N, ⟨Q, T, []⟩, HYES.out.1, HYES.out.2.1, rfl, HYES.out.2.2, rfl, ?_⟩
    exact SI.put7 HI9.out SS KK
end Go.Proofs.YtondnbnaoacanaaGreatDoor
