/- Layer 3: the statement's own reader, of numbers, signed ones and texts one behind the other. -/
import Derived.Test.YtacdkifoiaacdaaWireBM
import Derived.RegionTactic
import Derived.BigRegion
namespace Go.Proofs.Ytacdkifoiaacdaa
open Go.ChangeShapes Go.WideShapes Go.ChangeAt Go.RowKit Fb

theorem fold_next {α β : Type} (f : β → α → β) (s : β) (l : List α) (k : Nat) (h : k < l.length) : (l.take (k + 1)).foldl f s = f ((l.take k).foldl f s) l[k] := by
  rw [List.take_succ_eq_append_getElem h, List.foldl_append]; rfl
theorem get_map {α : Type} {v : α → Value} {l : List α} {k : Nat} {u : Value} (h : k < l.length) (hu : (l.map v)[k]? = some u) : u = v l[k] := by
  simp only [List.getElem?_map, List.getElem?_eq_getElem h, Option.map_some, Option.some.injEq] at hu
  exact hu.symm

set_option maxRecDepth 100000 in
set_option maxHeartbeats 4000000 in
theorem read_any {A : Option Addr} {n c : Nat} {zs : List Int} {Al Am At : Option Addr} {cl cm ct : Nat} {l m : List Int} {ts : List ByteArray} {w : World} {p3 e3 : Int} {b3 : Bool} (hr : readF zs l m ts = (p3, e3, b3))
    (hS : Sl w w.heap.size A n (by8 zs)) (hz : Bytes zs) (hnil : A = none → c = 0) (hn : n ≤ 100000) (hc : n ≤ c) (hcm : c ≤ maxLen)
    (hSl : Sl w w.heap.size Al l.length (l.map (Value.int .u64))) (hSm : Sl w w.heap.size Am m.length (m.map (Value.int .i64))) (hSt : Sl w w.heap.size At ts.length (ts.map Value.string))
    (hl20 : l.length ≤ 20) (hm20 : m.length ≤ 20) (ht20 : ts.length ≤ 20) :
    Calls Try.prog 25 #[.agg #[.slice A n c, .int .i64 0, .int .i64 0], .slice Al l.length cl, .slice Am m.length cm, .slice At ts.length ct] w fun e w' => e = .returned (.tuple #[.agg #[.slice A n c, .int .i64 p3, .int .i64 e3], .bool b3]) ∧ Below w.heap.size w w' := by
  have HR := hid hr
  have HS := hid hS
  have HZ := hid hz
  have HN := hid hnil
  have HCM := hid hcm
  clear hr hS hz hnil hcm
  go_enter Try.func25, Try.ntmps25
  go_wp2_with fail
  go_loopw [10, 11] (fun ok i wr => ∃ (k : Nat) (p e : Int) (b : Bool), Hid ((l.take k).foldl (stU zs) (0, 0, true) = (p, e, b)) ∧ k ≤ l.length ∧ i = .int .i64 k ∧ ok = .bool b ∧ wr.heap[w.heap.size]? = some (.cells #[.slice A n c, .int .i64 p, .int .i64 e] 26 (0, 0)) ∧ wr.heap[w.heap.size + 1]? = some (.cells #[.slice none 0 0, .int .i64 0, .int .i64 0] 26 (0, 0)) ∧ Below w.heap.size w wr ∧ w.heap.size + 1 < wr.heap.size)
    (fun _ i _ => l.length - (intOf i).toNat)
  case atStart =>
    have hk := kept2 (w := w) (Below.refl _ ((w.alloc (.cells #[.slice A n c, .int .i64 0, .int .i64 0] 26)).alloc (.cells #[.slice none 0 0, .int .i64 0, .int .i64 0] 26)))
    exact ⟨0, 0, 0, true, rfl, Nat.zero_le _, rfl, rfl, hk.1, hk.2, ((Below.refl _ _).alloc (Nat.le_refl _) _).alloc (by simp) _, by simp⟩
  case round =>
    obtain ⟨k, q1, x1, t1, hs, hk, rfl, rfl, k1, k2, hB, hz1⟩ := hrel
    by_cases hlt : k < l.length
    · obtain ⟨g, o, u, rfl, hg, hu, hcell⟩ := (hSl.below hB).get (k := k) hlt
      obtain rfl := get_map hlt hu
      obtain ⟨p1, e1, v, hu1⟩ : ∃ p1 e1 v, uintS zs q1 x1 = (p1, e1, v) := ⟨_, _, _, rfl⟩
      have hnx := fold_next (stU zs) (0, 0, true) l k hlt
      rw [hs.out] at hnx
      generalize l[k] = x at *
      unfold stU at hnx
      simp only [hu1] at hnx
      have HU := hid hu1
      have HX := hid hnx
      clear hnx hu hs hu1
      obtain ⟨c0, c1, c2, f0, f1, f2⟩ := blk3 k1
      go_wp2_with fail
      with_reducible refine (Uint_any HU.out ((HS.out.below hB).up hB.size) HZ.out hn hc HCM.out).mono ?_
      rintro e' w2 ⟨rfl, hb2⟩
      have hz2 : w.heap.size + 1 < w2.heap.size := by have := hb2.size; omega
      have hz0 : w.heap.size < w2.heap.size := by omega
      have hg2 : g < w2.heap.size := by omega
      have hne : w.heap.size ≠ g := by omega
      have k12 := (hb2.block w.heap.size (by omega)).trans k1
      have k22 := (hb2.block (w.heap.size + 1) (by omega)).trans k2
      have hcell2 := (hb2.cell (p := ⟨g, o + k, none⟩) (by show g < _; omega)).trans hcell
      have hB2 : Below w.heap.size w w2 := hB.trans (hb2.mono hB.size)
      clear c0 c1 c2 f0 f1 f2 hcell k1 k2
      obtain ⟨c0, c1, c2, f0, f1, f2⟩ := blk3 k12
      have i1 : (0 : Int) ≤ (k : Int) := by omega
      have i2 : (k : Int) < (l.length : Int) := by omega
      
      rcases t1 with _ | _
      all_goals
        go_wp2_with fail
        go_region
        go_wp2_with fail
        go_roundw
        case rel => exact ⟨k + 1, p1, e1, _, HX, by omega, by go_num, by first | rfl | (simp; done) | (simp; rfl), (Below.heap_alloc _ _ _ (by simp; omega)).trans (set3 k12), (Below.heap_alloc _ _ _ (by simp; omega)).trans ((far3 (by omega)).trans k22), Below.drew (Below.alloc (Below.setCell (Below.setCell (Below.setCell hB2 (by simp) _) (by simp) _) (by simp) _) (by simp; omega) _), by simp; omega⟩
        case measure => simp [intOf]; omega
    · obtain rfl : k = l.length := by omega
      rw [List.take_of_length_le (Nat.le_refl _)] at hs
      go_wp2_with fail
      have hs1 := hs
      clear hs
      go_loopw [10, 14] (fun ok i wr => ∃ (k : Nat) (p e : Int) (b : Bool), Hid ((m.take k).foldl (stI zs) (q1, x1, t1) = (p, e, b)) ∧ k ≤ m.length ∧ i = .int .i64 k ∧ ok = .bool b ∧ wr.heap[w.heap.size]? = some (.cells #[.slice A n c, .int .i64 p, .int .i64 e] 26 (0, 0)) ∧ wr.heap[w.heap.size + 1]? = some (.cells #[.slice none 0 0, .int .i64 0, .int .i64 0] 26 (0, 0)) ∧ Below w.heap.size w wr ∧ w.heap.size + 1 < wr.heap.size)
        (fun _ i _ => m.length - (intOf i).toNat)
      case atStart =>
        exact ⟨0, q1, x1, t1, rfl, Nat.zero_le _, rfl, rfl, k1, k2, hB, hz1⟩
      case round =>
        obtain ⟨k, q2, x2, t2, hs, hk, rfl, rfl, k1, k2, hB, hz1⟩ := hrel
        by_cases hlt : k < m.length
        · obtain ⟨g, o, u, rfl, hg, hu, hcell⟩ := (hSm.below hB).get (k := k) hlt
          obtain rfl := get_map hlt hu
          obtain ⟨p1, e1, v, hu1⟩ : ∃ p1 e1 v, uintS zs q2 x2 = (p1, e1, v) := ⟨_, _, _, rfl⟩
          have hnx := fold_next (stI zs) (q1, x1, t1) m k hlt
          rw [hs.out] at hnx
          generalize m[k] = x at *
          unfold stI at hnx
          simp only [hu1] at hnx
          have HU := hid hu1
          have HX := hid hnx
          clear hnx hu hs hu1
          obtain ⟨c0, c1, c2, f0, f1, f2⟩ := blk3 k1
          go_wp2_with fail
          with_reducible refine (Int_any HU.out ((HS.out.below hB).up hB.size) HZ.out hn hc HCM.out).mono ?_
          rintro e' w2 ⟨rfl, hb2⟩
          have hz2 : w.heap.size + 1 < w2.heap.size := by have := hb2.size; omega
          have hz0 : w.heap.size < w2.heap.size := by omega
          have hg2 : g < w2.heap.size := by omega
          have hne : w.heap.size ≠ g := by omega
          have k12 := (hb2.block w.heap.size (by omega)).trans k1
          have k22 := (hb2.block (w.heap.size + 1) (by omega)).trans k2
          have hcell2 := (hb2.cell (p := ⟨g, o + k, none⟩) (by show g < _; omega)).trans hcell
          have hB2 : Below w.heap.size w w2 := hB.trans (hb2.mono hB.size)
          clear c0 c1 c2 f0 f1 f2 hcell k1 k2
          obtain ⟨c0, c1, c2, f0, f1, f2⟩ := blk3 k12
          have i1 : (0 : Int) ≤ (k : Int) := by omega
          have i2 : (k : Int) < (m.length : Int) := by omega
          generalize zag v = zg at *
          rcases t2 with _ | _
          all_goals
            go_wp2_with fail
            go_region
            go_wp2_with fail
            go_roundw
            case rel => exact ⟨k + 1, p1, e1, _, HX, by omega, by go_num, by first | rfl | (simp; done) | (simp; rfl), (Below.heap_alloc _ _ _ (by simp; omega)).trans (set3 k12), (Below.heap_alloc _ _ _ (by simp; omega)).trans ((far3 (by omega)).trans k22), Below.drew (Below.alloc (Below.setCell (Below.setCell (Below.setCell hB2 (by simp) _) (by simp) _) (by simp) _) (by simp; omega) _), by simp; omega⟩
            case measure => simp [intOf]; omega
        · obtain rfl : k = m.length := by omega
          rw [List.take_of_length_le (Nat.le_refl _)] at hs
          go_wp2_with fail
          have hs2 := hs
          clear hs
          go_loopw [10, 17] (fun ok i wr => ∃ (k : Nat) (p e : Int) (b : Bool), Hid ((ts.take k).foldl (stT zs) (q2, x2, t2) = (p, e, b)) ∧ k ≤ ts.length ∧ i = .int .i64 k ∧ ok = .bool b ∧ wr.heap[w.heap.size]? = some (.cells #[.slice A n c, .int .i64 p, .int .i64 e] 26 (0, 0)) ∧ wr.heap[w.heap.size + 1]? = some (.cells #[.slice none 0 0, .int .i64 0, .int .i64 0] 26 (0, 0)) ∧ Below w.heap.size w wr ∧ w.heap.size + 1 < wr.heap.size)
            (fun _ i _ => ts.length - (intOf i).toNat)
          case atStart =>
            exact ⟨0, q2, x2, t2, rfl, Nat.zero_le _, rfl, rfl, k1, k2, hB, hz1⟩
          case round =>
            obtain ⟨k, p4, e4, b4, hs, hk, rfl, rfl, k1, k2, hB, hz1⟩ := hrel
            by_cases hlt : k < ts.length
            · obtain ⟨g, o, u, rfl, hg, hu, hcell⟩ := (hSt.below hB).get (k := k) hlt
              obtain rfl := get_map hlt hu
              obtain ⟨p1, e1, bs, hu1⟩ : ∃ p1 e1 bs, textS zs p4 e4 200 = (p1, e1, bs) := ⟨_, _, _, rfl⟩
              have hnx := fold_next (stT zs) (q2, x2, t2) ts k hlt
              rw [hs.out] at hnx
              generalize ts[k] = x at *
              unfold stT at hnx
              simp only [hu1] at hnx
              have HU := hid hu1
              have HX := hid hnx
              clear hnx hu hs hu1
              obtain ⟨c0, c1, c2, f0, f1, f2⟩ := blk3 k1
              go_wp2_with fail
              with_reducible refine (Text_any HU.out ((HS.out.below hB).up hB.size) HZ.out HN.out hn hc HCM.out (by omega)).mono ?_
              rintro e' w2 ⟨rfl, hb2⟩
              have hz2 : w.heap.size + 1 < w2.heap.size := by have := hb2.size; omega
              have hz0 : w.heap.size < w2.heap.size := by omega
              have hg2 : g < w2.heap.size := by omega
              have hne : w.heap.size ≠ g := by omega
              have k12 := (hb2.block w.heap.size (by omega)).trans k1
              have k22 := (hb2.block (w.heap.size + 1) (by omega)).trans k2
              have hcell2 := (hb2.cell (p := ⟨g, o + k, none⟩) (by show g < _; omega)).trans hcell
              have hB2 : Below w.heap.size w w2 := hB.trans (hb2.mono hB.size)
              clear c0 c1 c2 f0 f1 f2 hcell k1 k2
              obtain ⟨c0, c1, c2, f0, f1, f2⟩ := blk3 k12
              have i1 : (0 : Int) ≤ (k : Int) := by omega
              have i2 : (k : Int) < (ts.length : Int) := by omega
              generalize strOfNums bs = sb at *
              rcases b4 with _ | _
              all_goals
                go_wp2_with fail
                go_region
                go_wp2_with fail
                go_roundw
                case rel => exact ⟨k + 1, p1, e1, _, HX, by omega, by go_num, by first | rfl | (simp; done) | (simp; rfl), (Below.heap_alloc _ _ _ (by simp; omega)).trans (set3 k12), (Below.heap_alloc _ _ _ (by simp; omega)).trans ((far3 (by omega)).trans k22), Below.drew (Below.alloc (Below.setCell (Below.setCell (Below.setCell hB2 (by simp) _) (by simp) _) (by simp) _) (by simp; omega) _), by simp; omega⟩
                case measure => simp [intOf]; omega
            · obtain rfl : k = ts.length := by omega
              rw [List.take_of_length_le (Nat.le_refl _)] at hs
              obtain ⟨c0, c1, c2, f0, f1, f2⟩ := blk3 k1
              obtain ⟨d0, d1, d2, g0, g1, g2⟩ := blk3 k2
              have hz0 : w.heap.size < wr.heap.size := by omega
              have hE : (p3, e3, b3) = (p4, e4, b4) := by rw [← HR.out, ← hs.out]; unfold readF; rw [hs1.out, hs2.out]
              simp only [Prod.mk.injEq] at hE
              obtain ⟨rfl, rfl, rfl⟩ := hE
              go_wp2_with fail
              refine bodyPost_ret (v := .tuple #[.agg #[.slice A n c, .int .i64 p3, .int .i64 e3], .bool b3]) (by simp [results, Try.results25, go_sem, d0, d1, d2]) rfl ⟨rfl, ?_⟩
              exact Below.setCell (Below.setCell (Below.setCell hB (by simp) _) (by simp) _) (by simp) _

end Go.Proofs.Ytacdkifoiaacdaa
