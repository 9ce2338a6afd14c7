/- Layer 9: contract of follow. -/
import Derived.Test.YtondnbnaoacanaaGreatDoorSegY
import Derived.Test.YtondnbnaoacanaaGreatDoorCc
namespace Go.Proofs.YtondnbnaoacanaaGreatDoor
open Go.ChangeShapes Go.WideShapes Go.ChangeAt Go.RowKit Fb Go.Maps

theorem ev9_parts : (Tryz.prog.info? 41).map (fun i => (i.zero, i.size, i.bytes)) = some (some (.agg #[.int .i64 0, .int .i64 0, .int .i64 0, .string ByteArray.empty, .int .i64 0, .int .i64 0, .int .i64 0]), 7, 64) := by kernel_rfl
theorem ev9_zero : ∀ x ∈ (Value.agg #[.int .i64 0, .int .i64 0, .int .i64 0, .string ByteArray.empty, .int .i64 0, .int .i64 0, .int .i64 0]).cells.toList, ZE x := by
  intro x hx
  simp only [Value.cells, List.mem_cons, List.not_mem_nil, or_false] at hx
  rcases hx with h | h | h | h | h | h | h <;> first | exact .inl h | exact .inr h
theorem Rs.nzE {w w' : World} {A : Option Addr} {n c : Nat} {ss : List ByteArray} (h : Rs w A n c ss) (hn : ∀ s ∈ ss, 1 ≤ s.size) (hz : NzY ZE w w') (hs : w.heap.size ≤ w'.heap.size) : Rs w' A n c ss := by
  refine ⟨(hz.sl h.1 fun u hu h0 => ?_).up hs, h.2⟩
  obtain ⟨s, hs, rfl⟩ := List.mem_map.1 hu
  rcases h0 with h0 | h0
  · cases h0
  · injection h0 with h0
    have := hn s hs
    rw [h0] at this
    exact absurd this (by decide)
theorem all12e {w : World} {g : Nat} {t : TypeId} {a b c d e f h i j k l m e' f' h' i' : Value} (K : w.heap[g]? = some (.cells #[a, b, c, d, e, f, h, i, j, k, l, m] t (0, 0))) :
    ((((w.setCell ⟨g, 4, none⟩ e').setCell ⟨g, 5, none⟩ f').setCell ⟨g, 6, none⟩ h').setCell ⟨g, 7, none⟩ i').heap[g]? = some (.cells #[a, b, c, d, e', f', h', i', j, k, l, m] t (0, 0)) := by
  simp [World.setCell, Array.getElem?_modify, K]
theorem sto4e (w : World) (g : Nat) (e f h i : Value) : Sto g w ((((w.setCell ⟨g, 4, none⟩ e).setCell ⟨g, 5, none⟩ f).setCell ⟨g, 6, none⟩ h).setCell ⟨g, 7, none⟩ i) :=
  (((Sto.cell w g 4 e).trans (Sto.cell _ g 5 f)).trans (Sto.cell _ g 6 h)).trans (Sto.cell _ g 7 i)
theorem news_at (w : World) (x : Ev) (o1 o2 : Obj) : ∀ j u, (evC x)[j]? = some u → ((((w.alloc o1).alloc o2).alloc (.cells #[.int .i64 x.q, .int .i64 x.t, .int .i64 x.k, .string x.s, .int .i64 x.a, .int .i64 x.b, .int .i64 x.c] 41)).drew).cell? ((⟨w.heap.size + 2, 0, none⟩ : Addr).add j) = some u := by
  have h := World.news_of_block (w := ((w.alloc o1).alloc o2).alloc (.cells #[.int .i64 x.q, .int .i64 x.t, .int .i64 x.k, .string x.s, .int .i64 x.a, .int .i64 x.b, .int .i64 x.c] 41)) (B := w.heap.size + 2) (cs := #[.int .i64 x.q, .int .i64 x.t, .int .i64 x.k, .string x.s, .int .i64 x.a, .int .i64 x.b, .int .i64 x.c]) (t := 41) (fr := (0, 0)) (by
    have h1 := heap_alloc_new ((w.alloc o1).alloc o2) (.cells #[.int .i64 x.q, .int .i64 x.t, .int .i64 x.k, .string x.s, .int .i64 x.a, .int .i64 x.b, .int .i64 x.c] 41)
    rw [World.size_alloc, World.size_alloc] at h1
    exact h1)
  exact h
theorem own_slice {w : World} {base n size : Nat} {e : TypeId} {v : Value} {xs : List Value} (h : w.ownsRow base e size v n xs) : ∃ A m c, v = .slice A m c := by
  obtain ⟨-, h1 | ⟨b, cap, cur, hv, -⟩⟩ := h
  · exact ⟨_, _, _, h1.1⟩
  · exact ⟨_, _, _, hv⟩
theorem app_cells {w1 w3 : World} {vE : Value} {o1 o3 : Obj} {a b c : Value} {t : TypeId} (hgr : ((((w1.alloc o1).alloc (.cells #[a, b, c] t)).alloc o3).drew).grownBy w3 vE.ownBlock) (hn : some (w1.heap.size + 1) ≠ vE.ownBlock) :
    w3.cell? ⟨w1.heap.size + 1, 0, none⟩ = some a ∧ w3.cell? ⟨w1.heap.size + 1, 1, none⟩ = some b ∧ w3.cell? ⟨w1.heap.size + 1, 2, none⟩ = some c ∧ w1.heap.size + 1 < w3.heap.size := by
  have h1 := heap_alloc_new (w1.alloc o1) (.cells #[a, b, c] t)
  rw [World.size_alloc] at h1
  have h2 : w3.heap[w1.heap.size + 1]? = some (.cells #[a, b, c] t (0, 0)) := (hgr.block (w1.heap.size + 1) (by simp) hn).trans ((Below.heap_alloc _ _ _ (by simp)).trans h1)
  obtain ⟨c0, c1, c2, -, -, -⟩ := blk3 h2
  exact ⟨c0, c1, c2, blk_lt h2⟩
theorem app_blk {w1 w3 : World} {vE : Value} {o1 o2 o3 : Obj} {g : Nat} {o : Obj} (hgr : ((((w1.alloc o1).alloc o2).alloc o3).drew).grownBy w3 vE.ownBlock) (hlt : g < w1.heap.size) (hn : some g ≠ vE.ownBlock) (hk : w1.heap[g]? = some o) : w3.heap[g]? = some o :=
  (hgr.block g (by simp; omega) hn).trans ((Below.heap_alloc _ _ _ (by simp; omega)).trans ((Below.heap_alloc _ _ _ (by simp; omega)).trans ((Below.heap_alloc _ _ _ hlt).trans hk)))
/-- one event more -/
theorem SI.more {w0 w w1 w' : World} {g : Nat} {AB : Option Addr} {nB cB : Nat} {s : Sc} {vE v' : Value} {A2 A3 : Option Addr} {n2 c2 n3 c3 : Nat} {x : Ev} (h : SI w0 g AB nB cB w s vE A2 n2 c2)
    (hr : w1.ownsRow (g + 1) 41 7 v' (s.evs.length + 1) (evsC s.evs ++ evC x)) (hsp : SprY ZE w1 v' ((s.evs.length + 1) * 7)) (hg : w.grownBy w1 vE.ownBlock) (S : Sto g w1 w')
    (hk : w'.heap[g]? = some (.cells #[.int .i64 s.num, .int .i64 s.before.q, .int .i64 s.before.t, .slice none 0 0, v', .int .i64 (s.after.nx x).q, .int .i64 (s.after.nx x).t, .slice A3 n3 c3, .int .i64 0, .int .i64 (s.size : Int), .slice AB nB cB, .bool s.sd] 63 (0, 0)))
    (hk1 : w1.heap[g]? = some (.cells #[.int .i64 s.num, .int .i64 s.before.q, .int .i64 s.before.t, .slice none 0 0, vE, .int .i64 s.after.q, .int .i64 s.after.t, .slice A2 n2 c2, .int .i64 0, .int .i64 (s.size : Int), .slice AB nB cB, .bool s.sd] 63 (0, 0)))
    (hn : Rs w' A3 n3 c3 (s.after.nx x).l) : SI w0 g AB nB cB w' ⟨s.num, s.before, s.evs ++ [x], s.after.nx x, s.size, s.sd⟩ v' A3 n3 c3 := by
  have hb1 : Below w0.heap.size w0 w1 := grown_low h.row hg h.bel (by have := h.lo; omega) h.bel.size
  obtain ⟨ho, hz⟩ := own_elseY hr hk1 (by decide) S.block
  refine ⟨h.lo, S.below hb1 h.lo, hk, ?_, ?_, hn⟩
  · rw [List.length_append, evsC_app, evsC_one]; exact ho
  · rw [List.length_append]; exact hz hsp

theorem SI.fol {w0 w1 W w3 : World} {g : Nat} {AB : Option Addr} {nB cB : Nat} {s : Sc} {vE v' : Value} {A2 A3 : Option Addr} {n2 c2 n3 c3 : Nat} {x : Ev} (h : SI w0 g AB nB cB w1 s vE A2 n2 c2) (hR : Rs w1 A3 n3 c3 (flL s.after.l x)) (hn : ∀ y ∈ flL s.after.l x, 1 ≤ y.size) (hal : Below w1.heap.size w1 W)
    (hr : w3.ownsRow (g + 1) 41 7 v' (s.evs.length + 1) (evsC s.evs ++ evC x)) (hsp : SprY ZE w3 v' ((s.evs.length + 1) * 7)) (hg : W.grownBy w3 vE.ownBlock) (hz : NzY ZE W w3)
    (hk1 : w3.heap[g]? = some (.cells #[.int .i64 s.num, .int .i64 s.before.q, .int .i64 s.before.t, .slice none 0 0, vE, .int .i64 s.after.q, .int .i64 s.after.t, .slice A2 n2 c2, .int .i64 0, .int .i64 (s.size : Int), .slice AB nB cB, .bool s.sd] 63 (0, 0))) :
    SI w0 g AB nB cB ((((w3.setCell ⟨g, 4, none⟩ v').setCell ⟨g, 5, none⟩ (.int .i64 x.q)).setCell ⟨g, 6, none⟩ (.int .i64 x.t)).setCell ⟨g, 7, none⟩ (.slice A3 n3 c3)) ⟨s.num, s.before, s.evs ++ [x], s.after.nx x, s.size, s.sd⟩ v' A3 n3 c3 :=
  have S9 := sto4e w3 g v' (.int .i64 x.q) (.int .i64 x.t) (.slice A3 n3 c3)
  have K9 := all12e (e' := v') (f' := .int .i64 x.q) (h' := .int .i64 x.t) (i' := .slice A3 n3 c3) hk1
  have R9 : Rs _ A3 n3 c3 (flL s.after.l x) := Rs.stoN ((hR.below hal).nzE hn hz hg.size) hk1 h.cells S9
  SI.more (h.below hal) hr hsp hg S9 K9 hk1 R9

set_option maxRecDepth 100000 in
set_option maxHeartbeats 16000000 in
theorem sfollow_any {w0 : World} {g : Nat} {AB : Option Addr} {nB cB : Nat} {s : Sc} {vE : Value} {A2 : Option Addr} {n2 c2 : Nat} {w : World}
    (h : SI w0 g AB nB cB w s vE A2 n2 c2) (hr : s.after.rc = true) (hlen : s.evs.length ≤ 1000000) {AP : Option Addr} {nP cP : Nat} {z : List Int} (hP : Rw w AP nP cP z) (hbz : Bytes z) (hzl : nP ≤ 200) :
    Calls Tryz.prog 81 #[.pointer (some ⟨g, 0, none⟩), .slice AP nP cP] w fun e w' =>
      (∃ x v' A3 n3 c3, Fo s.after.q s.after.t s.after.l x z ∧ e = .returned (.bool true) ∧ SI w0 g AB nB cB w' ⟨s.num, s.before, s.evs ++ [x], s.after.nx x, s.size, s.sd⟩ v' A3 n3 c3) ∨
      ((∀ x, ¬ Fo s.after.q s.after.t s.after.l x z) ∧ e = .returned (.bool false) ∧ SI w0 g AB nB cB w' s vE A2 n2 c2) := by
  have HNM := rc_nms hr
  have PD := hid (Decode_any s.after.q s.after.t (cp := c2) HNM.2.2 h.nms (by have := h.nms.len; have := HNM.1; omega) hP hbz (by omega))
  have HI := hid h
  unfold Decs at PD
  have HR := hid hr
  obtain ⟨u0, u1, u2, u3, u4, u5, u6, u7, u8, u9, u10, u11⟩ := blk12 h.blk
  have yg := blk_lt h.blk
  clear u0 u1 u2 u3 u8 u9 u10 u11 h hP hbz
  by_cases hfo : ∃ x, Fo s.after.q s.after.t s.after.l x z
  · obtain ⟨x, hx⟩ := hfo
    obtain ⟨d1, d2, d3, d4, d5⟩ := de_yes hr hx
    rw [d1, d2, d3, d4, d5] at PD
    unfold evV at PD
    have HX := hid hx
    have HNX := hid (rc_nms (rc_next hr hx.1))
    clear d1 d2 d3 d4 d5 hx hr HNM
    go_enter Tryz.func81, Tryz.ntmps81
    go_wp2_with fail
    refine PD.out.mono ?_
    rintro e w1 ⟨⟨A3, n3, c3, rfl, hR3⟩, hb1⟩
    have HI1 := hid (HI.out.below hb1)
    have HR3 := hid hR3
    have e7 := ev9_parts
    obtain ⟨i0, hi0, hz0, hz1, hz2⟩ := info_parts e7
    have K1 := HI1.out.blk
    obtain ⟨t0, t1, t2, t3, t4, t5, t6, t7, t8, t9, t10, t11⟩ := blk12 K1
    have y1 := blk_lt K1
    have K1' := hid K1
    clear t0 t1 t2 t3 t5 t6 t7 t8 t9 t10 t11 u4 u5 u6 u7 yg K1 hR3 PD e7
    have hG := hid HI1.out.row
    have hG2 := hid HI1.out.spr
    have hne1 : g ≠ w1.heap.size := by omega
    have hne2 : ¬ w1.heap.size = g := by omega
    have hne3 : g ≠ w1.heap.size + 1 := by omega
    have hne4 : ¬ w1.heap.size + 1 = g := by omega
    have hlow := own_lowb hG.out
    have hlt : ∀ k, vE.ownBlock = some k → k < w1.heap.size := fun k hk => (hG.out.lt k hk).2
    have HL := hid (And.intro hlow hlt)
    clear hlow hlt
    go_wp2_with fail
    have hnA : some g ≠ vE.ownBlock := fun e => by have := HL.out.1 g e.symm; omega
    have hnB : some w1.heap.size ≠ vE.ownBlock := fun e => by have := HL.out.2 _ e.symm; omega
    have hnC : some (w1.heap.size + 1) ≠ vE.ownBlock := fun e => by have := HL.out.2 _ e.symm; omega
    have hal : Below w1.heap.size w1 ((((w1.alloc (.cells #[.int .i64 x.q, .int .i64 x.t, .int .i64 x.k, .string x.s, .int .i64 x.a, .int .i64 x.b, .int .i64 x.c] 41)).alloc (.cells #[.int .i64 x.q, .int .i64 x.t, .slice A3 n3 c3] 24)).alloc (.cells #[.int .i64 x.q, .int .i64 x.t, .int .i64 x.k, .string x.s, .int .i64 x.a, .int .i64 x.b, .int .i64 x.c] 41)).drew) := Below.drew ((((Below.refl _ _).alloc (Nat.le_refl _) _).alloc (by simp) _).alloc (by simp; omega) _)
    have HOA := hid (own_below hG.out hal)
    have HSA := hid (SprY.below hG2.out hG.out hal)
    have t4a : ∀ o1 o2 o3, (((w1.alloc o1).alloc o2).alloc o3).cell? ⟨g, 4, none⟩ = some vE := fun o1 o2 o3 => keep_cell ((((Below.refl _ _).alloc (Nat.le_refl _) _).alloc (by simp) _).alloc (by simp; omega) _) t4
    have HNB := hid (fun w9 (h9 : w9 = (((w1.alloc (.cells #[.int .i64 x.q, .int .i64 x.t, .int .i64 x.k, .string x.s, .int .i64 x.a, .int .i64 x.b, .int .i64 x.c] 41)).alloc (.cells #[.int .i64 x.q, .int .i64 x.t, .slice A3 n3 c3] 24)).alloc (.cells #[.int .i64 x.q, .int .i64 x.t, .int .i64 x.k, .string x.s, .int .i64 x.a, .int .i64 x.b, .int .i64 x.c] 41)).drew) => h9)
    go_region_law ((refine step_append_Y (Z := ZE) (by rfl) _ _ _ (by rfl) (g + 1) 41 i0 _ 7 64 Tryz.underlying25 hi0 hz0 hz1 hz2 rfl (by omega) ev9_zero vE s.evs.length (evsC s.evs) (by rfl) HOA.out HSA.out ⟨w1.heap.size + 2, 0, none⟩ 1 1 (evC x) (by rfl) (by rfl) (news_at w1 x _ _) (evC_one x) (by simp only [maxLen]; omega) (by omega) (by simp; omega) ?_; intro v' w3 hown3 hsp3 hgr hnz; obtain ⟨A9, m9, c9, rfl⟩ := own_slice hown3; have hq := app_cells hgr hnC; have hg3 := app_blk hgr y1 hnA K1'.out; obtain ⟨q0, q1, q2, q3⟩ := hq; have y3 := blk_lt hg3; have f3 := blk12f hg3; obtain ⟨-, -, -, -, r4, r5, r6, r7, -, -, -, -⟩ := blk12 hg3; have HG3 := hid hg3; have HW3 := hid (And.intro hown3 (And.intro hsp3 (And.intro hgr hnz))); clear hg3 hown3 hsp3 hgr hnz))
    all_goals
      go_wp2
      go_ret
      exact .inl ⟨x, _, A3, n3, c3, HX.out, rfl, SI.fol HI1.out HR3.out HNX.out.2.1 hal HW3.out.1 HW3.out.2.1 HW3.out.2.2.1 HW3.out.2.2.2 HG3.out⟩
  · have hno : ∀ x, ¬ Fo s.after.q s.after.t s.after.l x z := fun x hx => hfo ⟨x, hx⟩
    obtain ⟨d1, d2, d3, d4, d5⟩ := de_none hr hno
    rw [d1, d2, d3, d4, d5] at PD
    unfold evV ev0 at PD
    have HNO := hid hno
    clear d1 d2 d3 d4 d5 hfo hno hr HNM
    go_enter Tryz.func81, Tryz.ntmps81
    go_wp2_with fail
    refine PD.out.mono ?_
    rintro e w1 ⟨⟨A3, n3, c3, rfl, hR3⟩, hb1⟩
    have HI1 := hid (HI.out.below hb1)
    have hal : Below w1.heap.size w1 ((w1.alloc (.cells #[.int .i64 0, .int .i64 0, .int .i64 0, .string ⟨#[]⟩, .int .i64 0, .int .i64 0, .int .i64 0] 41)).alloc (.cells #[.int .i64 s.after.q, .int .i64 s.after.t, .slice A3 n3 c3] 24)) := ((Below.refl _ _).alloc (Nat.le_refl _) _).alloc (by simp) _
    clear u4 u5 u6 u7 yg hR3 PD
    go_wp2_with fail
    go_ret
    exact .inr ⟨HNO.out, rfl, HI1.out.below hal⟩
end Go.Proofs.YtondnbnaoacanaaGreatDoor
