/- Layer 9: contracts of next and Read. -/
import Derived.Test.YtondnbnaoacanaaGreatDoorSegT
namespace Go.Proofs.YtondnbnaoacanaaGreatDoor
open Go.ChangeShapes Go.WideShapes Go.ChangeAt Go.RowKit Fb Go.Maps

def NextR (w0 : World) (g : Nat) (AB : Option Addr) (nB cB : Nat) (zs : List Int) (s : Sc) (e : Ending) (w' : World) : Prop :=
  (∃ s' v' A3 n3 c3, Stp zs s s' ∧ e = .returned (.bool true) ∧ SI w0 g AB nB cB w' s' v' A3 n3 c3) ∨
  ((¬ ∃ s', Stp zs s s') ∧ e = .returned (.bool false) ∧ ∃ v' A3 n3 c3, SI w0 g AB nB cB w' s v' A3 n3 c3)

set_option maxRecDepth 100000 in
set_option maxHeartbeats 16000000 in
theorem next_any {w0 : World} {g : Nat} {AB : Option Addr} {nB cB : Nat} {zs : List Int} {s : Sc} {vE : Value} {A2 : Option Addr} {n2 c2 : Nat} {w : World} (hS : Rw w0 AB nB cB zs) (hb : Bytes zs) (hzl : zs.length ≤ 100000) (hI : Inv zs s)
    (h : SI w0 g AB nB cB w s vE A2 n2 c2) :
    Calls Tryz.prog 35 #[.pointer (some ⟨g, 0, none⟩)] w (NextR w0 g AB nB cB zs s) := by
  have PN := hid (fun (w1 : World) (h1 : Below w.heap.size w w1) => FNext_any (s.size : Int) ((hS.below h.bel).below h1) hb)
  have HI := hid h
  unfold FNext at PN
  have y := blk_lt h.blk
  obtain ⟨u0, u1, u2, u3, u4, u5, u6, u7, u8, u9, u10, u11⟩ := blk12 h.blk
  clear u0 u1 u2 u3 u4 u5 u6 u7 u8 u11
  by_cases h0 : nxS zs (s.size : Int) = 0
  · rw [h0] at PN
    have hw := nx_whole h0
    have hstp := hid (fun (s' : Sc) (k : Stp zs s s') => (stp_nx k).2.2.size)
    obtain ⟨m, hm⟩ : ∃ m, (frB (nxK zs (s.size : Int)) (nxP zs (s.size : Int))).length = m := ⟨_, rfl⟩
    have hwm := hw.2.2.1
    rw [hm] at hwm hstp
    rw [hwm] at PN hw
    have hwr : IntKind.i64.wrap ((s.size : Int) + (m : Int)) = ((s.size + m : Nat) : Int) := by rw [i64_in (by omega) (by omega)]; omega
    have PT := hid (fun (w1 : World) (h1 : Below w.heap.size w w1) (AP : Option Addr) (cP : Nat) (hP : Rw w1 AP (nxP zs (s.size : Int)).length cP (nxP zs (s.size : Int))) => take_any hS hb hzl hI (h.below h1) hP h0 rfl)
    unfold TakeR at PT
    clear hS hb hI h hw hm hwm h0
    generalize nxK zs (s.size : Int) = K at *
    generalize nxP zs (s.size : Int) = P at *
    go_enter Tryz.func35, Tryz.ntmps35
    go_wp2_with fail
    go_region_held3 (fun w' => w'.cell? ⟨g, 10, none⟩ = some (.slice AB nB cB) ∧ w'.cell? ⟨g, 9, none⟩ = some (.int .i64 (s.size : Int)))
      (first
        | go_keep
        | (go_split_ands
           exact ⟨keep_cell hbx.out (by assumption), keep_cell hbx.out (by assumption)⟩))
      (first | (go_at_call 55; refine (PN.out _ (Below.drew (Below.refl _ _))).mono ?_; rintro e w1 ⟨⟨AP, cP, rfl, hR1⟩, hb1⟩; have hbx := hid hb1))
    have hbw : Below w.heap.size w w1 := (Below.drew (Below.refl _ _)).trans (hbx.out)
    have HR1 := hid hR1
    clear u9 u10 hbx hb1 hR1 PN y
    go_wp2_with fail
    refine (PT.out _ hbw _ _ HR1.out).mono ?_
    rintro e w2 (⟨s', v', A3, n3, c3, hst, rfl, hsi⟩ | ⟨hno, rfl, v', A3, n3, c3, hsi⟩)
    · have hsz := hstp.out s' hst
      have y2 := blk_lt hsi.blk
      have f2 := blk12f hsi.blk
      have v9 := (blk12 hsi.blk).2.2.2.2.2.2.2.2.2.1
      simp only at v9
      have SS := Sto.cell w2 g 9 (.int .i64 ((s.size + m : Nat) : Int))
      have KK := set9 (k' := .int .i64 ((s.size + m : Nat) : Int)) hsi.blk
      have RR := Rs.stoN hsi.nms hsi.blk hsi.cells SS
      have HX := hid (show NextR w0 g AB nB cB zs s (.returned (.bool true)) (w2.setCell ⟨g, 9, none⟩ (.int .i64 ((s.size + m : Nat) : Int))) from .inl ⟨s', v', A3, n3, c3, hst, rfl, SI.put hsi SS (by rw [hsz]; exact KK) rfl RR⟩)
      clear hsi SS KK RR hst hsz
      go_wp2_with fail
      go_ret
      exact HX.out
    · have HX := hid (show NextR w0 g AB nB cB zs s (.returned (.bool false)) w2 from .inr ⟨hno, rfl, v', A3, n3, c3, hsi⟩)
      clear hsi hno
      go_wp2_with fail
      go_ret
      exact HX.out
  · have HX := hid (show ∀ (w1 : World), Below w.heap.size w w1 → NextR w0 g AB nB cB zs s (.returned (.bool false)) w1 from fun w1 hb1 => .inr ⟨no_nx h0, rfl, vE, A2, n2, c2, h.below hb1⟩)
    clear hS hb hI h
    generalize nxS zs (s.size : Int) = E at *
    have e0 : (E == 0) = false := by simp; omega
    have e1 : (E != 0) = true := by simp; omega
    generalize nxK zs (s.size : Int) = K at *
    generalize nxP zs (s.size : Int) = P at *
    generalize nxN zs (s.size : Int) = N at *
    go_enter Tryz.func35, Tryz.ntmps35
    go_wp2_with fail
    go_region_held3 (fun w' => w'.cell? ⟨g, 10, none⟩ = some (.slice AB nB cB) ∧ w'.cell? ⟨g, 9, none⟩ = some (.int .i64 (s.size : Int)))
      (first
        | go_keep
        | (go_split_ands
           exact ⟨keep_cell hbx.out (by assumption), keep_cell hbx.out (by assumption)⟩))
      (first | (go_at_call 55; refine (PN.out _ (Below.drew (Below.refl _ _))).mono ?_; rintro e w1 ⟨⟨AP, cP, rfl, hR1⟩, hb1⟩; have hbx := hid hb1))
    have hbw : Below w.heap.size w w1 := (Below.drew (Below.refl _ _)).trans (hbx.out)
    clear u9 u10 hbx hb1 hR1 PN y
    go_wp2_with fail
    go_ret
    exact HX.out _ hbw

/-- the place that the scanner has come to -/
def szAt (g : Nat) (w : World) : Nat := match w.cell? ⟨g, 9, none⟩ with | some (.int _ n) => n.toNat | _ => 0
theorem sz_at {w0 w : World} {g : Nat} {AB : Option Addr} {nB cB : Nat} {s : Sc} {vE : Value} {A2 : Option Addr} {n2 c2 : Nat} (h : SI w0 g AB nB cB w s vE A2 n2 c2) : szAt g w = s.size := by
  unfold szAt
  rw [(blk12 h.blk).2.2.2.2.2.2.2.2.2.1]
  exact Int.toNat_natCast _
theorem row_evs {w : World} {base B : Nat} {e : TypeId} {v : Value} {l : List Ev} (h : w.ownsRow base e 7 v l.length (evsC l)) (hB : w.heap.size ≤ B) : ∃ A c, v = .slice A l.length c ∧ Se w B A l ∧ l.length ≤ c ∧ c ≤ maxLen ∧ (A = none → c = 0) := by
  obtain ⟨A, c, hv, h1, h2, h3⟩ := own_evs h hB
  refine ⟨A, c, hv, h1, h2, h3, fun hA => ?_⟩
  obtain ⟨-, h9 | ⟨g, cap, cur, hv2, -⟩⟩ := h
  · rw [hv] at h9
    have := h9.1
    simp only [Value.slice.injEq] at this
    exact this.2.2
  · rw [hv, hA] at hv2
    cases hv2
/-- what was scanned -/
def scV (s : Sc) (st : Int) (vE vN : Value) : Array Value := #[.int .i64 s.num, .int .i64 s.before.q, .int .i64 s.before.t, .slice none 0 0, vE, .int .i64 s.after.q, .int .i64 s.after.t, vN, .int .i64 st, .int .i64 (s.size : Int)]
def ReadR (w : World) (zs : List Int) (e : Ending) (w' : World) : Prop :=
  (∃ s AE cE A2 n2 c2, Fin zs s ∧ e = .returned (.agg (scV s (stS zs s) (.slice AE s.evs.length cE) (.slice A2 n2 c2))) ∧ Se w' w'.heap.size AE s.evs ∧ s.evs.length ≤ cE ∧ cE ≤ maxLen ∧ (AE = none → cE = 0) ∧ Rs w' A2 n2 c2 s.after.l) ∧ Below w.heap.size w w'
theorem scan_size : (Tryz.prog.info? 50).map (·.size) = some 10 := by kernel_rfl
theorem set8 {w : World} {g : Nat} {t : TypeId} {a b c d e f h i j k l m j' : Value} (K : w.heap[g]? = some (.cells #[a, b, c, d, e, f, h, i, j, k, l, m] t (0, 0))) :
    (w.setCell ⟨g, 8, none⟩ j').heap[g]? = some (.cells #[a, b, c, d, e, f, h, i, j', k, l, m] t (0, 0)) := by
  simp [World.setCell, Array.getElem?_modify, K]

theorem blk10 {w : World} {g : Nat} {t : TypeId} {a b c d e f h i j k : Value} (H : w.heap[g]? = some (.cells #[a, b, c, d, e, f, h, i, j, k] t (0, 0))) :
    w.cell? ⟨g, 0, none⟩ = some a ∧ w.cell? ⟨g, 1, none⟩ = some b ∧ w.cell? ⟨g, 2, none⟩ = some c ∧ w.cell? ⟨g, 3, none⟩ = some d ∧ w.cell? ⟨g, 4, none⟩ = some e ∧ w.cell? ⟨g, 5, none⟩ = some f ∧ w.cell? ⟨g, 6, none⟩ = some h ∧ w.cell? ⟨g, 7, none⟩ = some i ∧ w.cell? ⟨g, 8, none⟩ = some j ∧ w.cell? ⟨g, 9, none⟩ = some k :=
  ⟨cell_of_row w g 0 _ t (0, 0) H, cell_of_row w g 1 _ t (0, 0) H, cell_of_row w g 2 _ t (0, 0) H, cell_of_row w g 3 _ t (0, 0) H, cell_of_row w g 4 _ t (0, 0) H, cell_of_row w g 5 _ t (0, 0) H, cell_of_row w g 6 _ t (0, 0) H, cell_of_row w g 7 _ t (0, 0) H, cell_of_row w g 8 _ t (0, 0) H, cell_of_row w g 9 _ t (0, 0) H⟩
theorem all10 {w : World} {g : Nat} {t : TypeId} {a b c d e f h i j k a' b' c' d' e' f' h' i' j' k' : Value} (K : w.heap[g]? = some (.cells #[a, b, c, d, e, f, h, i, j, k] t (0, 0))) :
    ((((((((((w.setCell ⟨g, 0, none⟩ a').setCell ⟨g, 1, none⟩ b').setCell ⟨g, 2, none⟩ c').setCell ⟨g, 3, none⟩ d').setCell ⟨g, 4, none⟩ e').setCell ⟨g, 5, none⟩ f').setCell ⟨g, 6, none⟩ h').setCell ⟨g, 7, none⟩ i').setCell ⟨g, 8, none⟩ j').setCell ⟨g, 9, none⟩ k').heap[g]? = some (.cells #[a', b', c', d', e', f', h', i', j', k'] t (0, 0)) := by
  simp [World.setCell, Array.getElem?_modify, K]
theorem sto10 (w : World) (g : Nat) (a b c d e f h i j k : Value) : Sto g w ((((((((((w.setCell ⟨g, 0, none⟩ a).setCell ⟨g, 1, none⟩ b).setCell ⟨g, 2, none⟩ c).setCell ⟨g, 3, none⟩ d).setCell ⟨g, 4, none⟩ e).setCell ⟨g, 5, none⟩ f).setCell ⟨g, 6, none⟩ h).setCell ⟨g, 7, none⟩ i).setCell ⟨g, 8, none⟩ j).setCell ⟨g, 9, none⟩ k) :=
  (((((((((Sto.cell w g 0 a).trans (Sto.cell _ g 1 b)).trans (Sto.cell _ g 2 c)).trans (Sto.cell _ g 3 d)).trans (Sto.cell _ g 4 e)).trans (Sto.cell _ g 5 f)).trans (Sto.cell _ g 6 h)).trans (Sto.cell _ g 7 i)).trans (Sto.cell _ g 8 j)).trans (Sto.cell _ g 9 k)

set_option maxRecDepth 100000 in
set_option maxHeartbeats 16000000 in
theorem Read_any {AB : Option Addr} {nB cB : Nat} {zs : List Int} {w : World} (hS : Rw w AB nB cB zs) (hb : Bytes zs) (hzl : zs.length ≤ 100000) :
    Calls Tryz.prog 20 #[.slice AB nB cB] w (ReadR w zs) := by
  have hal0 : Below w.heap.size w (w.alloc (.cells #[.int .i64 0, .int .i64 0, .int .i64 0, .slice none 0 0, .slice none 0 0, .int .i64 0, .int .i64 0, .slice none 0 0, .int .i64 0, .int .i64 0] 50)) := (Below.refl _ _).alloc (Nat.le_refl _) _
  have HS := hid (hS.below hal0)
  have HB := hid hb
  have h0 : SI (w.alloc (.cells #[.int .i64 0, .int .i64 0, .int .i64 0, .slice none 0 0, .slice none 0 0, .int .i64 0, .int .i64 0, .slice none 0 0, .int .i64 0, .int .i64 0] 50)) (w.heap.size + 1) AB nB cB
      ((w.alloc (.cells #[.int .i64 0, .int .i64 0, .int .i64 0, .slice none 0 0, .slice none 0 0, .int .i64 0, .int .i64 0, .slice none 0 0, .int .i64 0, .int .i64 0] 50)).alloc (.cells #[.int .i64 0, .int .i64 0, .int .i64 0, .slice none 0 0, .slice none 0 0, .int .i64 0, .int .i64 0, .slice none 0 0, .int .i64 0, .int .i64 0, .slice AB nB cB, .bool false] 63)) sc0 (.slice none 0 0) none 0 0 := by
    refine ⟨by simp, (Below.refl _ _).alloc (Nat.le_refl _) _, ?_, World.ownsRow_nil _ _ _ _, SprY.nil _ _, ⟨Sl.nil _ _ _, Nat.le_refl _, Nat.zero_le _, fun _ => rfl⟩⟩
    have := heap_alloc_new (w.alloc (.cells #[.int .i64 0, .int .i64 0, .int .i64 0, .slice none 0 0, .slice none 0 0, .int .i64 0, .int .i64 0, .slice none 0 0, .int .i64 0, .int .i64 0] 50)) (.cells #[.int .i64 0, .int .i64 0, .int .i64 0, .slice none 0 0, .slice none 0 0, .int .i64 0, .int .i64 0, .slice none 0 0, .int .i64 0, .int .i64 0, .slice AB nB cB, .bool false] 63)
    rw [World.size_alloc] at this
    exact this
  have H0 := hid h0
  have HK := hid (heap_alloc_new w (.cells #[.int .i64 0, .int .i64 0, .int .i64 0, .slice none 0 0, .slice none 0 0, .int .i64 0, .int .i64 0, .slice none 0 0, .int .i64 0, .int .i64 0] 50))
  clear hS hb h0
  go_enter Tryz.func20, Tryz.ntmps20
  go_wp2
  generalize w.alloc (.cells #[.int .i64 0, .int .i64 0, .int .i64 0, .slice none 0 0, .slice none 0 0, .int .i64 0, .int .i64 0, .slice none 0 0, .int .i64 0, .int .i64 0] 50) = w0 at *
  go_loopw [6] (fun _ wr => ∃ s vE A3 n3 c3, Hid (Rch zs s ∧ SI w0 (w.heap.size + 1) AB nB cB wr s vE A3 n3 c3)) (fun _ wr => zs.length - szAt (w.heap.size + 1) wr)
  case atStart => exact ⟨sc0, _, _, _, _, hid ⟨.none _, H0.out⟩⟩
  case round =>
    obtain ⟨s, vE, A3, n3, c3, HI⟩ := hrel
    have PN := hid (next_any HS.out HB.out hzl HI.out.1.inv HI.out.2)
    unfold NextR at PN
    go_wp2_with fail
    refine PN.out.mono ?_
    rintro e w1 (⟨s', v', A4, n4, c4, hst, rfl, hsi⟩ | ⟨hno, rfl, v', A4, n4, c4, hsi⟩)
    · have HX := hid (show Rch zs s' ∧ SI w0 (w.heap.size + 1) AB nB cB w1 s' v' A4 n4 c4 from ⟨HI.out.1.more hst, hsi⟩)
      have HM := hid (show zs.length - szAt (w.heap.size + 1) w1 < zs.length - szAt (w.heap.size + 1) wr by
        rw [sz_at hsi, sz_at HI.out.2]
        have h1 := (stp_nx hst).2.2.size
        have h2 := fr_pos (nxK zs (s.size : Int)) (nxP zs (s.size : Int))
        have h3 := (Stps.inv (inv0 zs) (HI.out.1.more hst)).le
        omega)
      clear hst hsi
      go_wp2_with fail
      go_roundw
      case rel => exact ⟨_, _, _, _, _, HX⟩
      case measure => exact HM.out
    · have HF := hid (show Fin zs s from ⟨HI.out.1, hno⟩)
      have HI1 := hid hsi
      clear hno hsi PN HI
      have PE := hid (end_any HS.out HB.out HI1.out)
      go_wp2_with fail
      refine PE.out.mono ?_
      rintro e w2 ⟨rfl, hb2⟩
      have HI2 := hid (HI1.out.below hb2)
      obtain ⟨AE, cE, rfl, hSe, hc1, hc2, hc3⟩ := row_evs HI2.out.row (Nat.le_refl _)
      have HE := hid (And.intro hSe (And.intro hc1 (And.intro hc2 hc3)))
      have y2 := blk_lt HI2.out.blk
      have f2 := blk12f HI2.out.blk
      obtain ⟨v0, v1, v2, v3, v4, v5, v6, v7, v8, v9, -, -⟩ := blk12 HI2.out.blk
      have KK := set8 (j' := .int .i64 (stS zs s)) HI2.out.blk
      obtain ⟨st, hst⟩ : ∃ st, stS zs s = st := ⟨_, rfl⟩
      have HST := hid hst
      rw [hst] at KK ⊢
      have SS := Sto.cell w2 (w.heap.size + 1) 8 (.int .i64 st)
      have HRN := hid (Rs.stoN HI2.out.nms HI2.out.blk HI2.out.cells SS)
      have HSS := hid SS
      have HKK := hid KK
      have y3 : w.heap.size + 1 < (w2.setCell ⟨w.heap.size + 1, 8, none⟩ (.int .i64 st)).heap.size := by rw [SS.size]; exact y2
      clear hb2 PE hSe hc1 hc2 hc3 SS KK
      have HK3 := hid ((HSS.out.block w.heap.size (by omega)).trans ((HI2.out.bel.block _ (blk_lt HK.out)).trans HK.out))
      have HB3 := hid (HSS.out.below (hal0.trans (HI2.out.bel.mono hal0.size)) (by omega))
      have KR := (HI2.out.bel.block _ (blk_lt HK.out)).trans HK.out
      have yr := blk_lt KR
      have fr := blk12f KR
      obtain ⟨q0, q1, q2, q3, q4, q5, q6, q7, q8, q9⟩ := blk10 KR
      clear KR
      go_wp2_with fail
      have hk5 := hid (all10 (a' := .int .i64 s.num) (b' := .int .i64 s.before.q) (c' := .int .i64 s.before.t) (d' := .slice none 0 0) (e' := .slice AE s.evs.length cE) (f' := .int .i64 s.after.q) (h' := .int .i64 s.after.t) (i' := .slice A4 n4 c4) (j' := .int .i64 st) (k' := .int .i64 (s.size : Int)) HK3.out)
      have hs5 := sto10 (w2.setCell ⟨w.heap.size + 1, 8, none⟩ (.int .i64 st)) w.heap.size (.int .i64 s.num) (.int .i64 s.before.q) (.int .i64 s.before.t) (.slice none 0 0) (.slice AE s.evs.length cE) (.int .i64 s.after.q) (.int .i64 s.after.t) (.slice A4 n4 c4) (.int .i64 st) (.int .i64 (s.size : Int))
      obtain ⟨w5, hW5⟩ : ∃ x, x = (((((((((((w2.setCell ⟨w.heap.size + 1, 8, none⟩ (.int .i64 st)).setCell ⟨w.heap.size, 0, none⟩ (.int .i64 s.num)).setCell ⟨w.heap.size, 1, none⟩ (.int .i64 s.before.q)).setCell ⟨w.heap.size, 2, none⟩ (.int .i64 s.before.t)).setCell ⟨w.heap.size, 3, none⟩ (.slice none 0 0)).setCell ⟨w.heap.size, 4, none⟩ (.slice AE s.evs.length cE)).setCell ⟨w.heap.size, 5, none⟩ (.int .i64 s.after.q)).setCell ⟨w.heap.size, 6, none⟩ (.int .i64 s.after.t)).setCell ⟨w.heap.size, 7, none⟩ (.slice A4 n4 c4)).setCell ⟨w.heap.size, 8, none⟩ (.int .i64 st)).setCell ⟨w.heap.size, 9, none⟩ (.int .i64 (s.size : Int))) := ⟨_, rfl⟩
      rw [← hW5] at hk5 hs5 ⊢
      clear hW5
      have HR5 := hid (HRN.out.stoN HK3.out (by
        intro i b h
        rcases (show i = 0 ∨ i = 1 ∨ i = 2 ∨ i = 3 ∨ i = 4 ∨ i = 5 ∨ i = 6 ∨ i = 7 ∨ i = 8 ∨ i = 9 ∨ 10 ≤ i by omega) with rfl | rfl | rfl | rfl | rfl | rfl | rfl | rfl | rfl | rfl | hi
        all_goals first | (cases h; done) | (rw [Array.getElem?_eq_none (by simpa using hi)] at h; cases h)) hs5)
      have HE5 := hid ((own_elseY (HSS.out.own HI2.out.row (by omega)) HK3.out (by decide) hs5.block).1)
      have HB5 := hid (hs5.below HB3.out (Nat.le_refl _))
      clear v0 v1 v2 v3 v4 v5 v6 v7 v8 v9 y2 y3 f2 hs5 q0 q1 q2 q3 q4 q5 q6 q7 q8 q9 fr yr
      refine bodyPost_ret (v := .agg (scV s st (.slice AE s.evs.length cE) (.slice A4 n4 c4))) (results_cell_row Tryz.results20 _ _ w.heap.size 50 _ (0, 0) _ rfl hk5.out Tryz.underlying50 rfl scan_size) rfl ?_
      obtain ⟨A5, c5, hv, hSe, h51, h52, h53⟩ := row_evs HE5.out (Nat.le_refl _)
      cases hv
      rw [← HST.out]
      exact ⟨⟨s, AE, cE, A4, n4, c4, HF.out, rfl, hSe, h51, h52, h53, HR5.out⟩, HB5.out⟩
end Go.Proofs.YtondnbnaoacanaaGreatDoor
