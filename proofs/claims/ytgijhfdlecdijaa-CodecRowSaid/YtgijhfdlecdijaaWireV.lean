/- The number whose sevens some bytes are: a range over a function, from the last byte on. -/
import Derived.Test.YtgijhfdlecdijaaRows
import Derived.Test.YtgijhfdlecdijaaLib
import Derived.Test.YtgijhfdlecdijaaWireM
import Derived.RangeFuncNested
import Derived.RangeFuncBound
import Derived.RangeFuncCalls
import Derived.RangeFuncLeaves
import Derived.RangeFuncBox
import Derived.Shelf.Abstract
import Derived.Shelf.RegionOpen
import Derived.WalkKit
import Derived.OwnWalkIn
import Derived.TacticsInMore
import Derived.LoopNIn
import Derived.LoopIn
import Derived.WalkLawsBesides
namespace Go.Proofs.Ytgijhfdlecdijaa
open Go.RowKit Go.Shelf Fb
attribute [local go_sem] Oper.semAt_some

/-- a byte -/
abbrev B8 := { x : Int // 0 ≤ x ∧ x ≤ 255 }
def at8 {zs : List Int} (h : Bytes zs) (j : Nat) : B8 := ⟨zs[j]?.getD 0, by
  rcases Nat.lt_or_ge j zs.length with hj | hj
  · rw [List.getElem?_eq_getElem hj]; exact h _ (List.getElem_mem hj)
  · rw [List.getElem?_eq_none hj]; simp⟩
/-- what has come when k rounds are over: the last k, the last one first -/
def dn {zs : List Int} (h : Bytes zs) (k : Nat) : List (Nat × B8) := (List.range k).map fun j => (zs.length - 1 - j, at8 h (zs.length - 1 - j))
theorem dn_succ {zs : List Int} (h : Bytes zs) (k : Nat) : dn h (k + 1) = dn h k ++ [(zs.length - 1 - k, at8 h (zs.length - 1 - k))] := by simp [dn, List.range_succ]
theorem dn_length {zs : List Int} (h : Bytes zs) (k : Nat) : (dn h k).length = k := by simp [dn]

/-- what a round keeps: what lay below n₀, and the cell of the slice that is gone through -/
def KB (n₀ Bs : Nat) (A B : World) : Prop := Below n₀ A B ∧ B.cell? ⟨Bs, 0, none⟩ = A.cell? ⟨Bs, 0, none⟩
theorem KB.trans {n₀ Bs : Nat} {A B C : World} (h : KB n₀ Bs A B) (k : KB n₀ Bs B C) : KB n₀ Bs A C := ⟨h.1.trans k.1, k.2.trans h.2⟩
theorem KB.refl (n₀ Bs : Nat) (A : World) : KB n₀ Bs A A := ⟨Below.refl _ _, rfl⟩
theorem KB.put {n₀ Bs : Nat} {w : World} (hn : n₀ ≤ w.heap.size) (hB : Bs < w.heap.size) (W : World) (l : Nat) (o o' : Obj) (hl : w.heap.size ≤ l) (h : W.heap[l]? = some o) (ho : o.isCells = false) (hw : o.isWalk = false) : KB n₀ Bs W (W.putObj l o') :=
  ⟨belowK_b hn W l o o' hl h ho hw, World.cell?_of_block ((grownBy_putObj' W l o').block Bs (by have := (Array.getElem?_eq_some_iff.1 h).1; omega) (fun e => by cases e; omega))⟩

set_option maxRecDepth 100000 in
set_option maxHeartbeats 2000000 in
theorem back1_in (F : Fence) (n : Nat) (hf : F.fn 54) (hro : F.round = none) (hn : 1 ≤ n) (l Bs n₀ b off cap : Nat) (zs : List Int) (hz : Bytes zs) (hlen : zs.length ≤ 1000000) (hb : b < n₀) (J Jx : List (Nat × B8) → World → Prop)
    (hY : ∀ pre x W, J pre W → pre.length < zs.length → YieldAt F (n - 1) Try.prog l #[.int .i64 (x.1 : Int), .int .u8 x.2.1] W fun e W' =>
      (e = .returned (.bool true) ∧ J (pre ++ [x]) W' ∧ KB n₀ Bs W W') ∨ (e = .returned (.bool false) ∧ Jx (pre ++ [x]) W'))
    (W : World) (hBs : W.cell? ⟨Bs, 0, none⟩ = some (.slice (some ⟨b, off, none⟩) zs.length cap)) (hc : ∀ j, j < zs.length → W.cell? ⟨b, off + j, none⟩ = some (.int .u8 (zs[j]?.getD 0))) (h0 : J [] W) :
    CallsIn F n Try.prog 54 #[.func (.yield l) #[] #[], .pointer (some ⟨Bs, 0, none⟩)] W fun e W' => (∃ v, e = .returned v) ∧
      ((∃ ys, ys = dn hz zs.length ∧ J ys W') ∨ (∃ pre, (∃ k, k ≤ zs.length ∧ pre = dn hz k) ∧ Jx pre W')) := by
  refine callsIn_of_wp Try.func54 rfl hf ?_ hro
  simp only [Try.ntmps54, List.size_toArray, List.length_cons, List.length_nil, Nat.reduceAdd, Nat.reduceSub, Array.replicate_succ, Array.replicate_zero, List.push_toArray, List.append_toArray, List.nil_append, List.cons_append]
  gi_wp2
  gi_loopw [3] (fun i wr => ∃ (q : Int) (k : Nat), Hid (q = (k : Int) - 1) ∧ k ≤ zs.length ∧ i = .int .i64 q ∧ J (dn hz (zs.length - k)) wr ∧ KB n₀ Bs W wr)
    (fun i _ => (intOf i + 1).toNat)
  case atStart => exact ⟨_, zs.length, rfl, Nat.le_refl _, rfl, by simpa [dn] using h0, KB.refl _ _ _⟩
  case round =>
    obtain ⟨q, k, hq, hk, rfl, hJs, hnx⟩ := hrel
    have hs : wr.cell? ⟨Bs, 0, none⟩ = some (.slice (some ⟨b, off, none⟩) zs.length cap) := hnx.2.trans hBs
    rcases k with _ | i
    · obtain rfl : q = -1 := by have := hq.out; simpa using this
      clear hq
      gi_wp2
      go_end0
      exact ⟨⟨_, rfl⟩, .inl ⟨_, rfl, by simpa using hJs⟩⟩
    · obtain rfl : q = (i : Int) := by have := hq.out; omega
      clear hq
      obtain ⟨fn, tmps, assign, body, hy, hR⟩ := hY _ (i, at8 hz i) wr hJs (by rw [dn_length]; omega)
      have hcx : wr.cell? ⟨b, off + i, none⟩ = some (.int .u8 (at8 hz i).1) := (hnx.1.cell (p := ⟨b, _, none⟩) hb).trans (hc _ (by omega))
      have hd : dn hz (zs.length - i) = dn hz (zs.length - (i + 1)) ++ [(i, at8 hz i)] := by
        have e1 : zs.length - i = (zs.length - (i + 1)) + 1 := by omega
        have e2 : zs.length - 1 - (zs.length - (i + 1)) = i := by omega
        rw [e1, dn_succ, e2]
      have HD := hid hd
      clear hd
      generalize (at8 hz i) = x at *
      dsimp only at hy
      gi_wp2
      refine hR.mono ?_
      rintro e W3 (⟨rfl, hJ3, hk3⟩ | ⟨rfl, hJx3⟩)
      · gi_wp2
        go_roundw
        case rel => exact ⟨_, i, rfl, by omega, rfl, by rw [HD.out]; exact hJ3, hnx.trans hk3⟩
        case measure => simp [intOf]
      · gi_wp2
        refine bodyPost_ret (results_none rfl _ _ _) rfl ?_
        exact ⟨⟨_, rfl⟩, .inr ⟨_, ⟨zs.length - i, by omega, HD.out.symm⟩, hJx3⟩⟩

set_option maxHeartbeats 1000000 in
theorem back_in (F : Fence) (n : Nat) (hf : F.fn 51) (hro : F.round = none) (a : Option Addr) (len cap : Nat) (w : World) :
    CallsIn F n Try.prog 51 #[.slice a len cap] w fun e w' => e = .returned (.func (.func 54) #[] #[.pointer (some ⟨w.heap.size, 0, none⟩)]) ∧ w' = w.alloc (.cells #[.slice a len cap] 27) := by
  refine callsIn_of_wp Try.func51 rfl hf ?_ hro
  simp only [Try.ntmps51, List.size_toArray, List.length_cons, List.length_nil, Nat.reduceAdd, Nat.reduceSub, Array.replicate_succ, Array.replicate_zero, List.push_toArray, List.append_toArray, List.nil_append, List.cons_append]
  gi_wp2
  go_ret
  exact ⟨rfl, rfl⟩

theorem back_stops (F : Fence) (n : Nat) (hf : F.fn 54) (hro : F.round = none) (hn : 1 ≤ n) (Bs n₀ b off cap : Nat) (zs : List Int) (hz : Bytes zs) (hlen : zs.length ≤ 1000000) (w : World) (hBs : Bs < w.heap.size) (hn₀ : n₀ ≤ w.heap.size) (hb : b < n₀)
    (hcs : w.cell? ⟨Bs, 0, none⟩ = some (.slice (some ⟨b, off, none⟩) zs.length cap)) (hc : ∀ j, j < zs.length → w.cell? ⟨b, off + j, none⟩ = some (.int .u8 (zs[j]?.getD 0))) :
    SeqStopsK F n Try.prog 54 #[.pointer (some ⟨Bs, 0, none⟩)] (fun x : Nat × B8 => #[Value.int .i64 (x.1 : Int), Value.int .u8 x.2.1]) (KB n₀ Bs) (fun ys => ys = dn hz zs.length)
      (fun pre => ∃ k, k ≤ zs.length ∧ pre = dn hz k) zs.length w := fun l J Jx W hW _ _ hY h0 =>
  back1_in F n hf hro hn l Bs n₀ b off cap zs hz hlen hb J Jx hY W ((hW.cell (p := ⟨Bs, 0, none⟩) hBs).trans hcs) (fun j hj => (hW.cell (p := ⟨b, off + j, none⟩) (by show b < _; omega)).trans (hc j hj)) h0

/-- what the rounds make of the number -/
def accI : List (Nat × B8) → Int := List.foldl (fun s x => IntKind.u64.wrap (IntKind.u64.wrap (s * 128) + x.2.1 % 128)) 0
theorem accI_snoc (l : List (Nat × B8)) (x : Nat × B8) : accI (l ++ [x]) = IntKind.u64.wrap (IntKind.u64.wrap (accI l * 128) + x.2.1 % 128) := by simp [accI]
set_option maxRecDepth 100000 in
set_option maxHeartbeats 2000000 in
theorem value_in (F : Fence) (n : Nat) (h3 : F.fn 44) (h5 : F.fn 51) (h7 : F.fn 54) (hro : F.round = none) (hn : 3 ≤ n) (b off cap : Nat) (zs : List Int) (hz : Bytes zs) (hlen : zs.length ≤ 1000000)
    (w : World) (hb : b < w.heap.size) (hc : ∀ j, j < zs.length → w.cell? ⟨b, off + j, none⟩ = some (.int .u8 (zs[j]?.getD 0))) :
    CallsIn F n Try.prog 44 #[.slice (some ⟨b, off, none⟩) zs.length cap] w fun e W' => e = .returned (.int .u64 (accI (dn hz zs.length))) ∧ Below w.heap.size w W' := by
  have h1 : 1 ≤ n := by omega
  refine callsIn_of_wp_marks Try.func44 rfl h3 ?_ hro
  simp only [Try.ntmps44, List.size_toArray, List.length_cons, List.length_nil, Nat.reduceAdd, Nat.reduceSub, Array.replicate_succ, Array.replicate_zero, List.push_toArray, List.append_toArray, List.nil_append, List.cons_append]
  gi_wp2_with (gi_at_call 51; refine (back_in F (n - 1) h5 hro _ _ _ _).mono ?_; rintro e w' ⟨rfl, rfl⟩)
  have bS := Boxed.new w 54 (.int .u64 0)
  have bN := Boxed.new (w.alloc (.cells #[.int .u64 0] 54)) 27 (.slice (some ⟨b, off, none⟩) zs.length cap)
  rw [World.size_alloc] at bN
  have hB0 : Below w.heap.size w ((w.alloc (.cells #[.int .u64 0] 54)).alloc (.cells #[.slice (some ⟨b, off, none⟩) zs.length cap] 27)) := ((Below.refl _ w).alloc (Nat.le_refl _) _).alloc (by simp) _
  refine wpIn_rangeFunc_ownG hro h1 (gf := 54) (lb := #[.pointer (some ⟨w.heap.size + 1, 0, none⟩)]) rfl h7 (enters_of Try.func54 (by kernel_rfl) rfl)
    (back_stops F (n - 1) h7 hro (by omega) (w.heap.size + 1) w.heap.size b off cap zs hz hlen _ (by simp) (by simp; omega) hb bN.cell (fun j hj => (hB0.cell (p := ⟨b, off + j, none⟩) hb).trans (hc j hj))) KB.trans (KB.put (by simp; omega) (by simp)) (Below.refl _ _) (fun _ => rfl)
    (fun pre W => (W.cell? ⟨w.heap.size, 0, none⟩ = some (.int .u64 (accI pre)) ∧ W.frozen? ⟨w.heap.size, 0, none⟩ = false) ∧ Below w.heap.size w W)
    (fun _ _ _ => False)
    (OwnFrom.and (Own.from (fun s A B row hs hg hr => ⟨cell_kept hs.1 hg hr, (frozen_kept hs.1 hg hr).trans hs.2⟩) _) (ownFrom_below (Nat.le_refl _) (by simp; omega)))
    (fun _ _ _ _ _ hs _ _ => hs)
    ⟨⟨(bS.alloc _).cell, (bS.alloc _).frozen⟩, hB0⟩
    (fun x => { tmps := #[.slice (some ⟨b, off, none⟩) zs.length cap, undef, .int .u64 0, .pointer (some ⟨w.heap.size, 0, none⟩), undef, .int .u8 x.2.1, .slice (some ⟨b, off, none⟩) zs.length cap, .func (.func 54) #[] #[.pointer (some ⟨w.heap.size + 1, 0, none⟩)], .int .i64 (x.1 : Int), .int .u8 x.2.1, undef, undef, undef, undef, undef, undef, undef], defers := [] }) ?assign ?body ?done ?stop
  case assign =>
    intro l x W K hK
    gi_wp2
    exact hK
  case body =>
    rintro l pre x W ⟨⟨hc, hf⟩, hB⟩ _
    obtain ⟨x1, x2, h0, h255⟩ := x
    gi_wp2
    refine ⟨(KeepsOthers.setCell _ _ _).from _, ⟨(Below.refl w.heap.size W).setCell (p := ⟨w.heap.size, 0, none⟩) (Nat.le_refl _) _, World.cell?_setCell_other _ _ _ _ (fun e => by simp at e)⟩, ⟨?_, by rw [World.frozen?_setCell]; exact hf⟩, hB.setCell (p := ⟨w.heap.size, 0, none⟩) (Nat.le_refl _) _⟩
    rw [accI_snoc]
    exact World.cell?_setCell_same' _ _ _ (by rw [hc]; rfl)
  case done =>
    rintro D ys W hD rfl ⟨⟨hc, _⟩, hB⟩ hK
    gi_wp2
    refine ⟨by simp, .inl ⟨_, _, rfl, run_takeDeferred hK, ?_⟩⟩
    exact ⟨_, results_tmp rfl _ _ _, rfl, hB.trans (belowK_b (w := w) (Nat.le_refl _) W D _ _ (by simp at hD; omega) hK rfl rfl)⟩
  case stop =>
    rintro D c pre W _ _ h _
    exact h.elim

theorem accI_eq {zs : List Int} (hz : Bytes zs) (hv : vl zs < 18446744073709551616) : ∀ k, k ≤ zs.length → accI (dn hz k) = ((vl (zs.drop (zs.length - k)) : Nat) : Int)
  | 0, _ => by simp [dn, accI, vl]
  | k + 1, hk => by
    have ih := accI_eq hz hv k (by omega)
    have e1 : zs.length - k = (zs.length - 1 - k) + 1 := by omega
    have e2 : zs.length - (k + 1) = zs.length - 1 - k := by omega
    have hi : zs.length - 1 - k < zs.length := by omega
    have e3 : zs.drop (zs.length - (k + 1)) = zs[zs.length - 1 - k] :: zs.drop (zs.length - k) := by
      rw [e2, e1]; exact List.drop_eq_getElem_cons hi
    have h8 : (at8 hz (zs.length - 1 - k)).1 = zs[zs.length - 1 - k] := by
      show zs[zs.length - 1 - k]?.getD 0 = _
      rw [List.getElem?_eq_getElem hi]; rfl
    have hb := hz _ (List.getElem_mem hi)
    have hle : vl (zs.drop (zs.length - (k + 1))) ≤ vl zs := by
      have := vl_append (zs.take (zs.length - (k + 1))) (zs.drop (zs.length - (k + 1)))
      rw [List.take_append_drop] at this
      have h1 : 0 < 128 ^ (zs.take (zs.length - (k + 1))).length := Nat.pow_pos (by decide)
      have h2 := Nat.le_mul_of_pos_left (vl (zs.drop (zs.length - (k + 1)))) h1
      omega
    rw [dn_succ, accI_snoc, ih, h8]
    rw [e3] at hle ⊢
    have hv2 : vl (zs[zs.length - 1 - k] :: zs.drop (zs.length - k)) = (zs[zs.length - 1 - k] % 128).toNat + 128 * vl (zs.drop (zs.length - k)) := rfl
    rw [hv2] at hle ⊢
    generalize zs[zs.length - 1 - k] = x at *
    generalize vl (zs.drop (zs.length - k)) = q at *
    rw [u64_in (↑q * 128) (by omega) (by omega), u64_in _ (by omega) (by omega)]
    omega

theorem value_any {b off cap : Nat} {zs : List Int} (hz : Bytes zs) (hlen : zs.length ≤ 10) (hv : vl zs < 18446744073709551616) (w : World) (hS : Sl w w.heap.size (some ⟨b, off, none⟩) zs.length (zs.map (Value.int .u8))) (h0 : 0 < zs.length) :
    Calls Try.prog 44 #[.slice (some ⟨b, off, none⟩) zs.length cap] w fun e W' => e = .returned (.int .u64 (vl zs : Nat)) ∧ Below w.heap.size w W' := by
  obtain ⟨b', o', e, hb, hc⟩ := hS.2 h0
  obtain ⟨rfl, rfl⟩ : b = b' ∧ off = o' := by simpa using e
  have h := callsIn_wide.1 (value_in Fence.wide 3 trivial trivial trivial rfl (Nat.le_refl _) b off cap zs hz (by omega) w hb (fun j hj => hc j _ (by rw [List.getElem?_map, List.getElem?_eq_getElem hj]; rfl)))
  rw [accI_eq hz hv zs.length (Nat.le_refl _), Nat.sub_self, List.drop_zero] at h
  exact h
end Go.Proofs.Ytgijhfdlecdijaa
