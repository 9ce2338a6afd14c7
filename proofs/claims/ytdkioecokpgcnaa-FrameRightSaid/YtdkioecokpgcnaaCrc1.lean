/- Contracts of layer 4 (crc) and of its reference: a step, the numbers of the table. -/
import Derived.Test.YtdkioecokpgcnaaBytes
import Derived.Test.YtdkioecokpgcnaaCrcM
import Derived.Laws.BitsAllLaws
import Derived.Deep.WholeRow
import Derived.Laws.CopyOwn
namespace Go.Proofs.Ytdkioecokpgcnaa
open Go.ChangeShapes Go.WideShapes Go.ChangeAt Go.RowKit Fb

theorem Step_any {n : Nat} (h : n < 4294967296) (w : World) :
    Calls Try.prog 20 #[.int .u32 n] w fun e w' => e = .returned (.int .u32 (cstep n : Nat)) ∧ w = w' := by
  have hx : bits .xor .u32 ((n : Int) / 2) 3988292384 = ((n / 2 ^^^ 3988292384 : Nat) : Int) := by
    have := u32_xor_nat (n / 2) 3988292384 (by omega) (by omega)
    simpa using this
  by_cases ho : (n : Int) % 2 = 1
  · have e : cstep n = n / 2 ^^^ 3988292384 := by unfold cstep; rw [if_pos (by omega)]
    rw [e]
    clear e
    go_enter Try.func20, Try.ntmps20
    go_wp2
    go_ret
    exact ⟨rfl, rfl⟩
  · have e : cstep n = n / 2 := by unfold cstep; rw [if_neg (by omega)]
    rw [e]
    clear e
    go_enter Try.func20, Try.ntmps20
    go_wp2
    go_ret
    exact ⟨ret_int8 (by omega), rfl⟩
theorem number_crc {n : Nat} (h : n < 4294967296) (w : World) :
    Calls Try.prog 16 #[.int .u32 n] w fun e w' => e = .returned (.int .u32 (csteps 8 n : Nat)) ∧ w = w' := by
  have H := hid h
  have hlt := fun k => csteps_lt k h
  have Hlt := hid hlt
  clear h hlt
  go_enter Try.func16, Try.ntmps16
  go_wp2
  go_loop [0, 4] (fun x i => ∃ k : Nat, k ≤ 8 ∧ i = .int .i64 k ∧ x = .int .u32 (csteps k n : Nat)) (fun _ i => 8 - (intOf i).toNat)
  case atStart => exact ⟨0, by omega, rfl, rfl⟩
  case round =>
    obtain ⟨k, hk, rfl, rfl⟩ := hrel
    by_cases hlt : k < 8
    · have hl := Hlt.out k
      have hs : csteps (k + 1) n = cstep (csteps k n) := csteps_add 1 k n
      have Hs := hid hs
      clear hs
      generalize csteps k n = m at *
      have hx : bits .xor .u32 ((m : Int) / 2) 3988292384 = ((m / 2 ^^^ 3988292384 : Nat) : Int) := by
        have := u32_xor_nat (m / 2) 3988292384 (by omega) (by omega)
        simpa using this
      by_cases ho : (m : Int) % 2 = 1
      · have e : cstep m = m / 2 ^^^ 3988292384 := by unfold cstep; rw [if_pos (by omega)]
        have He := hid e
        clear e
        go_wp2
        go_round
        case rel => exact ⟨k + 1, by omega, by go_num, by rw [Hs.out, He.out]⟩
        case measure => simp [intOf]; omega
      · have e : cstep m = m / 2 := by unfold cstep; rw [if_neg (by omega)]
        have He := hid e
        clear e
        go_wp2
        go_round
        case rel => exact ⟨k + 1, by omega, by go_num, by rw [Hs.out, He.out]; congr 1⟩
        case measure => simp [intOf]; omega
    · obtain rfl : k = 8 := by omega
      go_wp2
      go_ret
      exact ⟨rfl, rfl⟩
/-- numbers of 32 bits as cells -/
def c32 (T : List Nat) : Array Value := (T.map fun (n : Nat) => Value.int .u32 (n : Int)).toArray
theorem c32_size (T : List Nat) : (c32 T).size = T.length := by simp [c32]
theorem c32_one (T : List Nat) : (c32 T).all (·.oneCell') = true := by
  refine Array.all_eq_true_iff_forall_mem.2 fun v hv => ?_
  simp only [c32, List.mem_toArray, List.mem_map] at hv
  obtain ⟨n, -, rfl⟩ := hv
  rfl
theorem c32_get (T : List Nat) {j : Nat} (h : j < T.length) : (c32 T)[j]? = some (.int .u32 (T[j] : Nat)) := by
  simp [c32, List.getElem?_eq_getElem h]
theorem c32_set (T : List Nat) (j x : Nat) : (c32 T).setIfInBounds j (.int .u32 (x : Int)) = c32 (T.set j x) := by
  simp only [c32, List.setIfInBounds_toArray, List.map_set]
/-- the table's numbers -/
def tabN : List Nat := (List.range 256).map ctab
theorem tabN_len : tabN.length = 256 := by simp [tabN]
theorem tabN_get {k : Nat} (h : k < 256) : tabN[k]? = some (ctab k) := by simp [tabN, h]
/-- a table -/
def Tb (T : List Nat) : Prop := T.length = 256 ∧ ∀ x ∈ T, x < 4294967296
theorem tabN_tb : Tb tabN := ⟨tabN_len, fun x hx => by
  simp only [tabN, List.mem_map, List.mem_range] at hx
  obtain ⟨k, hk, rfl⟩ := hx
  exact csteps_lt 8 (by omega)⟩
theorem tab_next {k : Nat} (h : k < 256) : (tabN.take k ++ List.replicate (256 - k) 0).set k (ctab k) = tabN.take (k + 1) ++ List.replicate (256 - (k + 1)) 0 := by
  have hl := tabN_len
  rw [List.set_append_right _ _ (by simp; omega)]
  have e : 256 - k = (256 - (k + 1)) + 1 := by omega
  have e2 : k - (tabN.take k).length = 0 := by simp; omega
  rw [e2, e, List.replicate_succ, List.set_cons_zero, List.take_add_one, tabN_get h]
  simp
theorem t256_info : (Try.prog.info? 37).map (fun i => (i.zero, i.size)) = some (some (.agg (Array.replicate 256 (.int .u32 0))), 256) := by kernel_rfl
theorem t256_size : (Try.prog.info? 37).map (·.size) = some 256 := (zero_of_info t256_info).2
/-- a whole array is written into a block -/
theorem wpList_store_row {P : Program} {ops : Array Oper} {rest : List Oper} {o : Oper} {a : Act} {w : World} {Q : Exit → Act → World → Prop} (hgd : o.guard = none) (ty : TypeId) (x y : Operand) (ho : o.op = .store ty x y)
    (g : Nat) (cells : Array Value) (hx : a.eval x = .pointer (some ⟨g, 0, none⟩)) (hy : a.eval y = .agg cells)
    (t : TypeId) (old : Array Value) (hg : w.heap[g]? = some (.cells old t (0, 0))) (hi : (P.info? ty).map (·.size) = some cells.size)
    (hold : old.size = cells.size) (h1 : cells.all (·.oneCell') = true)
    (h : wpList P ops Q rest (a.put o.dst undef) (w.setRow g cells)) : wpList P ops Q (o :: rest) a w :=
  wpList_plain hgd fun _ hK => wp_store_row ty x y ho g cells hx hy t old hg hi hold h1 (hK _ _ h)

theorem c32_replicate (n : Nat) : c32 (List.replicate n 0) = Array.replicate n (Value.int .u32 0) := by
  simp [c32]
theorem c32_zero : c32 (tabN.take 0 ++ List.replicate (256 - 0) 0) = Array.replicate 256 (Value.int .u32 0) := c32_replicate 256
set_option maxHeartbeats 2000000 in
set_option maxRecDepth 100000 in
theorem Table_any (w : World) :
    Calls Try.prog 11 #[] w fun e w' => e = .returned (.agg (c32 tabN)) ∧ Below w.heap.size w w' := by
  have hz := (zero_of_info t256_info).1
  go_enter Try.func11, Try.ntmps11
  go_wp2
  go_loopw [3] (fun i wr => ∃ (k : Nat) (Z : Array Value), k ≤ 256 ∧ i = .int .i64 k ∧ Hid (Z.size = 256) ∧ wr.heap[w.heap.size]? = some (.cells Z 37 (0, 0)) ∧ wr.heap[w.heap.size + 1]? = some (.cells (c32 (tabN.take k ++ List.replicate (256 - k) 0)) 37 (0, 0)) ∧ Below w.heap.size w wr) (fun i _ => 256 - (intOf i).toNat)
  case atStart =>
    have hk := fun Z : Array Value => kept2 (w := w) (w1 := (w.alloc (.cells Z 37)).alloc (.cells Z 37)) (o1 := .cells Z 37) (o2 := .cells Z 37) (Below.refl _ _)
    rw [← c32_zero]
    exact ⟨0, c32 (tabN.take 0 ++ List.replicate (256 - 0) 0), by omega, rfl, hid (by rw [c32_zero, Array.size_replicate]), (hk _).1, (hk _).2, ((Below.refl _ _).alloc (Nat.le_refl _) _).alloc (by simp) _⟩
  case round =>
    clear hz
    obtain ⟨k, Z, hk, rfl, HZ, h1, h2, hb⟩ := hrel
    by_cases hlt : k < 256
    · have H1 := hid h1
      have H2 := hid h2
      have hl : (tabN.take k ++ List.replicate (256 - k) 0).length = 256 := by have := tabN_len; simp; omega
      have hc : wr.cell? ⟨w.heap.size + 1, k, none⟩ = some (.int .u32 (((tabN.take k ++ List.replicate (256 - k) 0)[k]'(by rw [hl]; exact hlt) : Nat) : Int)) := by
        rw [cell_of_row wr _ k _ _ _ h2, c32_get _ (by rw [hl]; exact hlt)]
      have hf : wr.frozen? ⟨w.heap.size + 1, k, none⟩ = false := frozen_of_row wr _ k _ _ h2
      generalize ((tabN.take k ++ List.replicate (256 - k) 0)[k]'(by rw [hl]; exact hlt)) = old at hc
      clear h1 h2
      have Hn := hid (tab_next hlt)
      clear hl
      go_wp2_with fail
      refine (number_crc (n := k) (by omega) _).mono ?_
      rintro e w' ⟨rfl, rfl⟩
      go_wp2_with fail
      go_roundw
      case rel =>
        refine ⟨k + 1, Z, by omega, by go_num, HZ, ?_, ?_, hb.setCell (p := ⟨w.heap.size + 1, k, none⟩) (by simp) _⟩
        · rw [heap_setCell_other _ _ _ _ (by simp)]; exact H1.out
        · rw [heap_setCell_same wr _ k _ _ _ H2.out]
          show some (Obj.cells ((c32 _).setIfInBounds k (.int .u32 (ctab k : Nat))) _ _) = _
          rw [c32_set, Hn.out]
      case measure => simp [intOf]; omega
    · obtain rfl : k = 256 := by omega
      have e : tabN.take 256 ++ List.replicate (256 - 256) 0 = tabN := by rw [List.take_of_length_le (by rw [tabN_len]; omega)]; simp
      rw [e] at h2
      have hs : (Try.prog.info? 37).map (·.size) = some (c32 tabN).size := by rw [c32_size, tabN_len]; exact t256_size
      have ho : Z.size = (c32 tabN).size := by rw [HZ.out, c32_size, tabN_len]
      have H1 := hid h1
      have H2 := hid h2
      have Hs := hid hs
      have Ho := hid ho
      clear h1 h2 e hs ho
      go_wp2_with (first
        | (refine wpList_load_row rfl 37 (.tmp 1) rfl (w.heap.size + 1) rfl 37 _ (0, 0) _ H2.out Try.underlying37 rfl Hs.out ?_)
        | (refine wpList_store_row rfl 37 (.tmp 0) (.tmp 12) rfl w.heap.size (c32 tabN) rfl rfl 37 Z H1.out Hs.out Ho.out (c32_one _) ?_))
      refine bodyPost_ret (v := .agg (c32 tabN)) (results_cell_row Try.results11 _ _ w.heap.size 37 (c32 tabN) (0, 0) _ rfl (setRow_heap _ _ _ _ _ _ H1.out) Try.underlying37 rfl Hs.out) rfl ⟨rfl, below_setRow hb (Nat.le_refl _) _⟩
end Go.Proofs.Ytdkioecokpgcnaa
