/- Layer 6: a map of places: a range over a function, from the last name on. -/
import Derived.Test.YtgijhfdlecdijaaRows
import Derived.Test.YtgijhfdlecdijaaLib
import Derived.Test.YtgijhfdlecdijaaNamesM
import Derived.RangeFuncNested
import Derived.RangeFuncBound
import Derived.RangeFuncCalls
import Derived.RangeFuncLeaves
import Derived.RangeFuncBox
import Derived.Shelf.Abstract
import Derived.Shelf.RegionOpen
import Derived.WalkKit
import Derived.OwnWalkIn
import Derived.TacticsInMore
import Derived.LoopNIn
import Derived.LoopIn
import Derived.WalkLawsBesides
import Derived.Maps.OwnIn
namespace Go.Proofs.Ytgijhfdlecdijaa
open Go.RowKit Go.Shelf Fb Go.Maps
attribute [local go_sem] Oper.semAt_some

/-- names as cells -/
def st9 (l : List ByteArray) : List Value := l.map Value.string
theorem st9_len (l : List ByteArray) : (st9 l).length = l.length := by simp [st9]
theorem st9_one (l : List ByteArray) : ∀ u ∈ st9 l, u.oneCell' = true := by
  intro u hu
  obtain ⟨x, -, rfl⟩ := List.mem_map.1 hu
  rfl
theorem st9_append (a b : List ByteArray) : st9 (a ++ b) = st9 a ++ st9 b := by simp [st9]
theorem st9_at {l : List ByteArray} {k : Nat} {u : Value} (h : (st9 l)[k]? = some u) : u = .string (l[k]?.getD default) := by
  unfold st9 at h
  rw [List.getElem?_map] at h
  cases e : l[k]? with
  | none => rw [e] at h; cases h
  | some x => rw [e] at h; simp at h; simp [h]

/-- names that are no longer than texts may be, and not too many -/
def Ok9 (l : List ByteArray) : Prop := l.length ≤ 1000000 ∧ ∀ s ∈ l, s.size ≤ maxLen
/-- a place and its name -/
abbrev N9 := { x : Nat × ByteArray // x.1 ≤ 1000000 ∧ x.2.size ≤ maxLen }
def at9 {l : List ByteArray} (h : Ok9 l) (j : Nat) (hj : j ≤ l.length) : N9 := ⟨(j, l[j]?.getD default), by
  refine ⟨Nat.le_trans hj h.1, ?_⟩
  rcases Nat.lt_or_ge j l.length with hj | hj
  · rw [List.getElem?_eq_getElem hj]; exact h.2 _ (List.getElem_mem hj)
  · rw [List.getElem?_eq_none hj]; exact Nat.zero_le _⟩
def dn9 {l : List ByteArray} (h : Ok9 l) (k : Nat) : List N9 := (List.range k).map fun j => at9 h (l.length - 1 - j) (by omega)
theorem dn9_succ {l : List ByteArray} (h : Ok9 l) (k : Nat) : dn9 h (k + 1) = dn9 h k ++ [at9 h (l.length - 1 - k) (by omega)] := by simp [dn9, List.range_succ]
theorem dn9_length {l : List ByteArray} (h : Ok9 l) (k : Nat) : (dn9 h k).length = k := by simp [dn9]
theorem dn9_val {l : List ByteArray} (h : Ok9 l) (k : Nat) : (dn9 h k).map (·.1) = dnS l k := by simp [dn9, dnS, at9]

/-- what a round keeps: what lay below n₀, and the cell of the slice that is gone through -/
def KS (n₀ Bs : Nat) (A B : World) : Prop := Below n₀ A B ∧ B.cell? ⟨Bs, 0, none⟩ = A.cell? ⟨Bs, 0, none⟩
theorem KS.trans {n₀ Bs : Nat} {A B C : World} (h : KS n₀ Bs A B) (k : KS n₀ Bs B C) : KS n₀ Bs A C := ⟨h.1.trans k.1, k.2.trans h.2⟩
theorem KS.refl (n₀ Bs : Nat) (A : World) : KS n₀ Bs A A := ⟨Below.refl _ _, rfl⟩
theorem KS.put {n₀ Bs : Nat} {w : World} (hn : n₀ ≤ w.heap.size) (hB : Bs < w.heap.size) (W : World) (l : Nat) (o o' : Obj) (hl : w.heap.size ≤ l) (h : W.heap[l]? = some o) (ho : o.isCells = false) (hw : o.isWalk = false) : KS n₀ Bs W (W.putObj l o') :=
  ⟨belowK_b hn W l o o' hl h ho hw, World.cell?_of_block ((grownBy_putObj' W l o').block Bs (by have := (Array.getElem?_eq_some_iff.1 h).1; omega) (fun e => by cases e; omega))⟩

set_option maxRecDepth 100000 in
set_option maxHeartbeats 2000000 in
theorem backS1_in (F : Fence) (n : Nat) (hf : F.fn 53) (hro : F.round = none) (hn : 1 ≤ n) (l Bs n₀ cap : Nat) (A : Option Addr) (ss : List ByteArray) (hz : Ok9 ss) (J Jx : List N9 → World → Prop)
    (hY : ∀ pre x W, J pre W → pre.length < ss.length → YieldAt F (n - 1) Try.prog l #[.int .i64 (x.1.1 : Int), .string x.1.2] W fun e W' =>
      (e = .returned (.bool true) ∧ J (pre ++ [x]) W' ∧ KS n₀ Bs W W') ∨ (e = .returned (.bool false) ∧ Jx (pre ++ [x]) W'))
    (W : World) (hBs : W.cell? ⟨Bs, 0, none⟩ = some (.slice A ss.length cap)) (hS : Sl W n₀ A ss.length (st9 ss)) (h0 : J [] W) :
    CallsIn F n Try.prog 53 #[.func (.yield l) #[] #[], .pointer (some ⟨Bs, 0, none⟩)] W fun e W' => (∃ v, e = .returned v) ∧
      ((∃ ys, ys = dn9 hz ss.length ∧ J ys W') ∨ (∃ pre, (∃ k, k ≤ ss.length ∧ pre = dn9 hz k) ∧ Jx pre W')) := by
  refine callsIn_of_wp Try.func53 rfl hf ?_ hro
  simp only [Try.ntmps53, List.size_toArray, List.length_cons, List.length_nil, Nat.reduceAdd, Nat.reduceSub, Array.replicate_succ, Array.replicate_zero, List.push_toArray, List.append_toArray, List.nil_append, List.cons_append]
  have hlen0 : ss.length ≤ 1000000 := hz.1
  gi_wp2
  gi_loopw [3] (fun i wr => ∃ (q : Int) (k : Nat), Hid (q = (k : Int) - 1) ∧ k ≤ ss.length ∧ i = .int .i64 q ∧ J (dn9 hz (ss.length - k)) wr ∧ KS n₀ Bs W wr)
    (fun i _ => (intOf i + 1).toNat)
  case atStart => exact ⟨_, ss.length, rfl, Nat.le_refl _, rfl, by simpa [dn9] using h0, KS.refl _ _ _⟩
  case round =>
    obtain ⟨q, k, hq, hk, rfl, hJs, hnx⟩ := hrel
    have hs : wr.cell? ⟨Bs, 0, none⟩ = some (.slice A ss.length cap) := hnx.2.trans hBs
    rcases k with _ | i
    · obtain rfl : q = -1 := by have := hq.out; simpa using this
      clear hq
      gi_wp2
      go_end0
      exact ⟨⟨_, rfl⟩, .inl ⟨_, rfl, by simpa using hJs⟩⟩
    · obtain rfl : q = (i : Int) := by have := hq.out; omega
      clear hq
      obtain ⟨b, off, u, rfl, hb, hu, hcx⟩ := (hS.below hnx.1).get (k := i) (by omega)
      rw [st9_at hu] at hcx
      clear hu
      obtain ⟨fn, tmps, assign, body, hy, hR⟩ := hY _ (at9 hz i (by omega)) wr hJs (by rw [dn9_length]; omega)
      have hd : dn9 hz (ss.length - i) = dn9 hz (ss.length - (i + 1)) ++ [at9 hz i (by omega)] := by
        have e1 : ss.length - i = (ss.length - (i + 1)) + 1 := by omega
        have e2 : ss.length - 1 - (ss.length - (i + 1)) = i := by omega
        rw [e1, dn9_succ]
        congr 3
      have HD := hid hd
      clear hd
      have hlen : ss.length ≤ 1000000 := hz.1
      have eX : (at9 hz i (by omega)).1 = (i, ss[i]?.getD default) := rfl
      generalize (at9 hz i (by omega)) = X at *
      obtain ⟨⟨x1, x⟩, hx1, hx2⟩ := X
      simp only [Prod.mk.injEq] at eX
      obtain ⟨rfl, eX⟩ := eX
      rw [← eX] at hcx
      clear eX
      dsimp only at hy hx1 hx2
      gi_wp2
      refine hR.mono ?_
      rintro e W3 (⟨rfl, hJ3, hk3⟩ | ⟨rfl, hJx3⟩)
      · gi_wp2
        go_roundw
        case rel => exact ⟨_, x1, rfl, by omega, rfl, by rw [HD.out]; exact hJ3, hnx.trans hk3⟩
        case measure => simp [intOf]
      · gi_wp2
        refine bodyPost_ret (results_none rfl _ _ _) rfl ?_
        exact ⟨⟨_, rfl⟩, .inr ⟨_, ⟨ss.length - x1, by omega, HD.out.symm⟩, hJx3⟩⟩

set_option maxHeartbeats 1000000 in
theorem backS_in (F : Fence) (n : Nat) (hf : F.fn 48) (hro : F.round = none) (a : Option Addr) (len cap : Nat) (w : World) :
    CallsIn F n Try.prog 48 #[.slice a len cap] w fun e w' => e = .returned (.func (.func 53) #[] #[.pointer (some ⟨w.heap.size, 0, none⟩)]) ∧ w' = w.alloc (.cells #[.slice a len cap] 22) := by
  refine callsIn_of_wp Try.func48 rfl hf ?_ hro
  simp only [Try.ntmps48, List.size_toArray, List.length_cons, List.length_nil, Nat.reduceAdd, Nat.reduceSub, Array.replicate_succ, Array.replicate_zero, List.push_toArray, List.append_toArray, List.nil_append, List.cons_append]
  gi_wp2
  go_ret
  exact ⟨rfl, rfl⟩

theorem backS_stops (F : Fence) (n : Nat) (hf : F.fn 53) (hro : F.round = none) (hn : 1 ≤ n) (Bs n₀ cap : Nat) (A : Option Addr) (ss : List ByteArray) (hz : Ok9 ss) (w : World) (hBs : Bs < w.heap.size) (hn₀ : n₀ ≤ w.heap.size)
    (hcs : w.cell? ⟨Bs, 0, none⟩ = some (.slice A ss.length cap)) (hS : Sl w n₀ A ss.length (st9 ss)) :
    SeqStopsK F n Try.prog 53 #[.pointer (some ⟨Bs, 0, none⟩)] (fun x : N9 => #[Value.int .i64 (x.1.1 : Int), Value.string x.1.2]) (KS n₀ Bs) (fun ys => ys = dn9 hz ss.length)
      (fun pre => ∃ k, k ≤ ss.length ∧ pre = dn9 hz k) ss.length w := fun l J Jx W hW _ _ hY h0 =>
  backS1_in F n hf hro hn l Bs n₀ cap A ss hz J Jx hY W ((hW.cell (p := ⟨Bs, 0, none⟩) hBs).trans hcs) (hS.below (hW.mono hn₀)) h0
end Go.Proofs.Ytgijhfdlecdijaa
