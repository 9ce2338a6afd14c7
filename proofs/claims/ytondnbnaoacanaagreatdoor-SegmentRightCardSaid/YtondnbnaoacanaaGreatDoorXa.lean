/- Texts laid together: CrcM, Crc1, Crc2, Crc3, Crc4. -/
import Derived.ProofKit
import Derived.Test.YtondnbnaoacanaaGreatDoorBase
import Derived.Laws.BitsAllLaws
import Derived.Deep.WholeRow
import Derived.Laws.CopyOwn
/- Sums of bytes by steps over bits: they are sums of their parts, and none is lost. Nothing here speaks of a program. -/
namespace Fb

/-- half of it, and, if it was odd, turned -/
def cstep (n : Nat) : Nat := if n % 2 = 1 then (n / 2) ^^^ 3988292384 else n / 2
def csteps : Nat → Nat → Nat
  | 0, n => n
  | k + 1, n => csteps k (cstep n)
theorem csteps_add (j : Nat) : ∀ k n, csteps (k + j) n = csteps j (csteps k n)
  | 0, n => by rw [Nat.zero_add]; rfl
  | k + 1, n => by rw [Nat.add_right_comm]; exact csteps_add j k (cstep n)
theorem cstep_zero : cstep 0 = 0 := by decide
theorem csteps_zero : ∀ k, csteps k 0 = 0
  | 0 => rfl
  | k + 1 => by rw [csteps, cstep_zero]; exact csteps_zero k
theorem cstep_xor (a b : Nat) : cstep (a ^^^ b) = cstep a ^^^ cstep b := by
  unfold cstep
  have h1 : ((a ^^^ b) % 2 = 1) ↔ ¬(a % 2 = 1 ↔ b % 2 = 1) := Nat.xor_mod_two_eq_one
  rw [Nat.xor_div_two]
  by_cases ha : a % 2 = 1
  · by_cases hb : b % 2 = 1
    · rw [if_neg (by rw [h1]; simp [ha, hb]), if_pos ha, if_pos hb, Nat.xor_assoc, ← Nat.xor_assoc 3988292384, Nat.xor_comm 3988292384, Nat.xor_assoc, Nat.xor_self, Nat.xor_zero]
    · rw [if_pos (by rw [h1]; simp [ha, hb]), if_pos ha, if_neg hb, Nat.xor_assoc, Nat.xor_assoc, Nat.xor_comm (b / 2)]
  · by_cases hb : b % 2 = 1
    · rw [if_pos (by rw [h1]; simp [ha, hb]), if_neg ha, if_pos hb, Nat.xor_assoc]
    · rw [if_neg (by rw [h1]; simp [ha, hb]), if_neg ha, if_neg hb]
theorem csteps_xor : ∀ k a b, csteps k (a ^^^ b) = csteps k a ^^^ csteps k b
  | 0, _, _ => rfl
  | k + 1, a, b => by rw [csteps, cstep_xor]; exact csteps_xor k _ _
theorem cstep_lt {n : Nat} (h : n < 2 ^ 32) : cstep n < 2 ^ 32 := by
  unfold cstep
  split
  · exact Nat.xor_lt_two_pow (by omega) (by decide)
  · omega
theorem csteps_lt : ∀ k {n : Nat}, n < 2 ^ 32 → csteps k n < 2 ^ 32
  | 0, _, h => h
  | k + 1, _, h => csteps_lt k (cstep_lt h)
theorem xor_eq_zero {a b : Nat} (h : a ^^^ b = 0) : a = b := by
  have : (a ^^^ b) ^^^ b = b := by rw [h, Nat.zero_xor]
  rw [Nat.xor_assoc, Nat.xor_self, Nat.xor_zero] at this
  exact this
theorem cstep_none {n : Nat} (h : n < 2 ^ 32) (h0 : cstep n = 0) : n = 0 := by
  unfold cstep at h0
  split at h0
  · have := xor_eq_zero h0; omega
  · omega
theorem csteps_none : ∀ k {n : Nat}, n < 2 ^ 32 → csteps k n = 0 → n = 0
  | 0, _, _, h0 => h0
  | k + 1, _, h, h0 => cstep_none h (csteps_none k (cstep_lt h) h0)
theorem csteps_inj (k : Nat) {a b : Nat} (ha : a < 2 ^ 32) (hb : b < 2 ^ 32) (h : csteps k a = csteps k b) : a = b := by
  refine xor_eq_zero (csteps_none k (Nat.xor_lt_two_pow ha hb) ?_)
  rw [csteps_xor, h, Nat.xor_self]
theorem csteps_shift : ∀ k n, csteps k (2 ^ k * n) = n
  | 0, n => by simp [csteps]
  | k + 1, n => by
    have e : cstep (2 ^ (k + 1) * n) = 2 ^ k * n := by
      unfold cstep
      have h : 2 ^ (k + 1) * n = 2 * (2 ^ k * n) := by rw [Nat.pow_succ, Nat.mul_comm (2 ^ k) 2, Nat.mul_assoc]
      rw [h, if_neg (by omega)]; omega
    rw [csteps, e, csteps_shift k n]
/-- the number of the table at k -/
def ctab (k : Nat) : Nat := csteps 8 k
/-- a byte's xor within the lowest eight bits -/
theorem xor_parts (n b : Nat) (hb : b < 256) : (n ^^^ b) / 256 = n / 256 ∧ (n ^^^ b) % 256 = (n % 256) ^^^ b := by
  have h1 : b / 256 = 0 := by omega
  have h2 : b % 256 = b := by omega
  refine ⟨?_, ?_⟩
  · have := Nat.xor_div_two_pow (a := n) (b := b) (n := 8)
    simpa [h1] using this
  · have := Nat.xor_mod_two_pow (a := n) (b := b) (n := 8)
    simpa [h2] using this
/-- a byte by the table is eight steps -/
theorem ctab_byte (n : Nat) : csteps 8 n = ctab (n % 256) ^^^ (n / 256) := by
  have e : n = (2 ^ 8 * (n / 256)) ^^^ (n % 256) := by
    have h1 := xor_parts (2 ^ 8 * (n / 256)) (n % 256) (by omega)
    have h2 : 2 ^ 8 * (n / 256) / 256 = n / 256 := by omega
    have h3 : 2 ^ 8 * (n / 256) % 256 = 0 := by omega
    rw [h2] at h1
    rw [h3, Nat.zero_xor] at h1
    omega
  conv => lhs; rw [e]
  rw [csteps_xor, csteps_shift, Nat.xor_comm]; rfl
/-- what a register becomes by bytes -/
def creg (r : Nat) (l : List Nat) : Nat := l.foldl (fun r b => csteps 8 (r ^^^ b)) r
theorem creg_nil (r : Nat) : creg r [] = r := rfl
theorem creg_cons (r b : Nat) (l : List Nat) : creg r (b :: l) = creg (csteps 8 (r ^^^ b)) l := rfl
theorem creg_append (r : Nat) (a b : List Nat) : creg r (a ++ b) = creg (creg r a) b := List.foldl_append
theorem creg_lt : ∀ (l : List Nat) {r : Nat}, r < 2 ^ 32 → (∀ b ∈ l, b < 256) → creg r l < 2 ^ 32
  | [], _, h, _ => h
  | b :: l, r, h, hb => creg_lt l (csteps_lt 8 (Nat.xor_lt_two_pow h (Nat.lt_of_lt_of_le (hb b (by simp)) (by decide)))) (fun x hx => hb x (by simp [hx]))
theorem creg_inj : ∀ (l : List Nat) {r s : Nat}, r < 2 ^ 32 → s < 2 ^ 32 → (∀ b ∈ l, b < 256) → creg r l = creg s l → r = s
  | [], _, _, _, _, _, h => h
  | b :: l, r, s, hr, hs, hb, h => by
    have hb1 : b < 2 ^ 32 := Nat.lt_of_lt_of_le (hb b (by simp)) (by decide)
    have h1 := creg_inj l (csteps_lt 8 (Nat.xor_lt_two_pow hr hb1)) (csteps_lt 8 (Nat.xor_lt_two_pow hs hb1)) (fun x hx => hb x (by simp [hx])) h
    have h2 := csteps_inj 8 (Nat.xor_lt_two_pow hr hb1) (Nat.xor_lt_two_pow hs hb1) h1
    have h3 : (r ^^^ b) ^^^ b = (s ^^^ b) ^^^ b := by rw [h2]
    rw [Nat.xor_assoc, Nat.xor_assoc, Nat.xor_self, Nat.xor_zero, Nat.xor_zero] at h3
    exact h3
/-- two registers behind two rows of bytes: their difference is what the difference becomes behind the rows' -/
theorem creg_xor : ∀ (a b : List Nat) (r s : Nat), a.length = b.length → creg (r ^^^ s) (List.zipWith (· ^^^ ·) a b) = creg r a ^^^ creg s b
  | [], [], _, _, _ => rfl
  | x :: a, y :: b, r, s, h => by
    have e : (r ^^^ s) ^^^ (x ^^^ y) = (r ^^^ x) ^^^ (s ^^^ y) := by
      rw [Nat.xor_assoc, ← Nat.xor_assoc s, Nat.xor_comm s x, Nat.xor_assoc x, ← Nat.xor_assoc r]
    rw [List.zipWith_cons_cons, creg_cons, creg_cons, creg_cons, e, csteps_xor]
    exact creg_xor a b _ _ (by simpa using h)
  | [], _ :: _, _, _, h => by simp at h
  | _ :: _, [], _, _, h => by simp at h
theorem creg_zeros : ∀ n, creg 0 (List.replicate n 0) = 0
  | 0 => rfl
  | n + 1 => by rw [List.replicate_succ, creg_cons, Nat.xor_zero, csteps_zero]; exact creg_zeros n
theorem creg_zeros_none : ∀ n {r : Nat}, r < 2 ^ 32 → creg r (List.replicate n 0) = 0 → r = 0
  | 0, _, _, h => h
  | n + 1, r, hr, h => by
    rw [List.replicate_succ, creg_cons, Nat.xor_zero] at h
    exact csteps_none 8 hr (creg_zeros_none n (csteps_lt 8 hr) h)
/-- four bytes as a number, the lowest first -/
def word4 (a b c d : Nat) : Nat := ((a ^^^ (2 ^ 8 * b)) ^^^ (2 ^ 16 * c)) ^^^ (2 ^ 24 * d)
theorem creg_four (r a b c d : Nat) : creg r [a, b, c, d] = csteps 32 (r ^^^ word4 a b c d) := by
  have s1 : ∀ x, csteps 8 x ^^^ b = csteps 8 (x ^^^ (2 ^ 8 * b)) := fun x => by
    rw [csteps_xor 8 x (2 ^ 8 * b), csteps_shift 8 b]
  have s2 : ∀ x, csteps 16 x ^^^ c = csteps 16 (x ^^^ (2 ^ 16 * c)) := fun x => by
    rw [csteps_xor 16 x (2 ^ 16 * c), csteps_shift 16 c]
  have s3 : ∀ x, csteps 24 x ^^^ d = csteps 24 (x ^^^ (2 ^ 24 * d)) := fun x => by
    rw [csteps_xor 24 x (2 ^ 24 * d), csteps_shift 24 d]
  have e16 : ∀ n, csteps 8 (csteps 8 n) = csteps 16 n := fun n => (csteps_add 8 8 n).symm
  have e24 : ∀ n, csteps 8 (csteps 16 n) = csteps 24 n := fun n => (csteps_add 16 8 n).symm
  have e32 : ∀ n, csteps 8 (csteps 24 n) = csteps 32 n := fun n => (csteps_add 24 8 n).symm
  have e : r ^^^ word4 a b c d = (((r ^^^ a) ^^^ (2 ^ 8 * b)) ^^^ (2 ^ 16 * c)) ^^^ (2 ^ 24 * d) := by
    unfold word4
    simp only [Nat.xor_assoc]
  rw [e, creg_cons, creg_cons, creg_cons, creg_cons, creg_nil, s1 (r ^^^ a)]
  generalize (r ^^^ a) ^^^ (2 ^ 8 * b) = x
  rw [e16, s2 x]
  generalize x ^^^ (2 ^ 16 * c) = y
  rw [e24, s3 y, e32]
theorem word4_lt {a b c d : Nat} (ha : a < 256) (hb : b < 256) (hc : c < 256) (hd : d < 256) : word4 a b c d < 2 ^ 32 := by
  unfold word4
  exact Nat.xor_lt_two_pow (Nat.xor_lt_two_pow (Nat.xor_lt_two_pow (by omega) (by omega)) (by omega)) (by omega)
/-- four bytes that make no number are none -/
theorem word4_none {a b c d : Nat} (ha : a < 256) (hb : b < 256) (hc : c < 256) (h : word4 a b c d = 0) : a = 0 ∧ b = 0 ∧ c = 0 ∧ d = 0 := by
  unfold word4 at h
  have h1 := xor_eq_zero h
  have l1 : (a ^^^ (2 ^ 8 * b)) ^^^ (2 ^ 16 * c) < 2 ^ 24 := Nat.xor_lt_two_pow (Nat.xor_lt_two_pow (by omega) (by omega)) (by omega)
  have hd0 : d = 0 := by omega
  subst hd0
  have h2 := xor_eq_zero (h1.trans (Nat.mul_zero _))
  have l2 : a ^^^ (2 ^ 8 * b) < 2 ^ 16 := Nat.xor_lt_two_pow (by omega) (by omega)
  have hc0 : c = 0 := by omega
  subst hc0
  have h3 := xor_eq_zero (h2.trans (Nat.mul_zero _))
  omega
/-- differences within four bytes, with none before and behind: the register tells them -/
theorem creg_burst (p q : Nat) {a b c d : Nat} (ha : a < 256) (hb : b < 256) (hc : c < 256) (hd : d < 256)
    (h : creg 0 (List.replicate p 0 ++ [a, b, c, d] ++ List.replicate q 0) = 0) : a = 0 ∧ b = 0 ∧ c = 0 ∧ d = 0 := by
  rw [creg_append, creg_append, creg_zeros, creg_four, Nat.zero_xor] at h
  have l := word4_lt ha hb hc hd
  exact word4_none ha hb hc (csteps_none 32 l (creg_zeros_none q (csteps_lt 32 l) h))
end Fb
/- Contracts of layer 4 (crc) and of its reference: a step, the numbers of the table. -/
namespace Go.Proofs.YtondnbnaoacanaaGreatDoor
open Go.ChangeShapes Go.WideShapes Go.ChangeAt Go.RowKit Fb

theorem Step_any {n : Nat} (h : n < 4294967296) (w : World) :
    Calls Tryz.prog 89 #[.int .u32 n] w fun e w' => e = .returned (.int .u32 (cstep n : Nat)) ∧ w = w' := by
  have hx : bits .xor .u32 ((n : Int) / 2) 3988292384 = ((n / 2 ^^^ 3988292384 : Nat) : Int) := by
    have := u32_xor_nat (n / 2) 3988292384 (by omega) (by omega)
    simpa using this
  by_cases ho : (n : Int) % 2 = 1
  · have e : cstep n = n / 2 ^^^ 3988292384 := by unfold cstep; rw [if_pos (by omega)]
    rw [e]
    clear e
    go_enter Tryz.func89, Tryz.ntmps89
    go_wp2
    go_ret
    exact ⟨rfl, rfl⟩
  · have e : cstep n = n / 2 := by unfold cstep; rw [if_neg (by omega)]
    rw [e]
    clear e
    go_enter Tryz.func89, Tryz.ntmps89
    go_wp2
    go_ret
    exact ⟨ret_int8 (by omega), rfl⟩
theorem number_crc {n : Nat} (h : n < 4294967296) (w : World) :
    Calls Tryz.prog 65 #[.int .u32 n] w fun e w' => e = .returned (.int .u32 (csteps 8 n : Nat)) ∧ w = w' := by
  have H := hid h
  have hlt := fun k => csteps_lt k h
  have Hlt := hid hlt
  clear h hlt
  go_enter Tryz.func65, Tryz.ntmps65
  go_wp2
  go_loop [0, 4] (fun x i => ∃ k : Nat, k ≤ 8 ∧ i = .int .i64 k ∧ x = .int .u32 (csteps k n : Nat)) (fun _ i => 8 - (intOf i).toNat)
  case atStart => exact ⟨0, by omega, rfl, rfl⟩
  case round =>
    obtain ⟨k, hk, rfl, rfl⟩ := hrel
    by_cases hlt : k < 8
    · have hl := Hlt.out k
      have hs : csteps (k + 1) n = cstep (csteps k n) := csteps_add 1 k n
      have Hs := hid hs
      clear hs
      generalize csteps k n = m at *
      have hx : bits .xor .u32 ((m : Int) / 2) 3988292384 = ((m / 2 ^^^ 3988292384 : Nat) : Int) := by
        have := u32_xor_nat (m / 2) 3988292384 (by omega) (by omega)
        simpa using this
      by_cases ho : (m : Int) % 2 = 1
      · have e : cstep m = m / 2 ^^^ 3988292384 := by unfold cstep; rw [if_pos (by omega)]
        have He := hid e
        clear e
        go_wp2
        go_round
        case rel => exact ⟨k + 1, by omega, by go_num, by rw [Hs.out, He.out]⟩
        case measure => simp [intOf]; omega
      · have e : cstep m = m / 2 := by unfold cstep; rw [if_neg (by omega)]
        have He := hid e
        clear e
        go_wp2
        go_round
        case rel => exact ⟨k + 1, by omega, by go_num, by rw [Hs.out, He.out]; congr 1⟩
        case measure => simp [intOf]; omega
    · obtain rfl : k = 8 := by omega
      go_wp2
      go_ret
      exact ⟨rfl, rfl⟩
/-- numbers of 32 bits as cells -/
def c32 (T : List Nat) : Array Value := (T.map fun (n : Nat) => Value.int .u32 (n : Int)).toArray
theorem c32_size (T : List Nat) : (c32 T).size = T.length := by simp [c32]
theorem c32_one (T : List Nat) : (c32 T).all (·.oneCell') = true := by
  refine Array.all_eq_true_iff_forall_mem.2 fun v hv => ?_
  simp only [c32, List.mem_toArray, List.mem_map] at hv
  obtain ⟨n, -, rfl⟩ := hv
  rfl
theorem c32_get (T : List Nat) {j : Nat} (h : j < T.length) : (c32 T)[j]? = some (.int .u32 (T[j] : Nat)) := by
  simp [c32, List.getElem?_eq_getElem h]
theorem c32_set (T : List Nat) (j x : Nat) : (c32 T).setIfInBounds j (.int .u32 (x : Int)) = c32 (T.set j x) := by
  simp only [c32, List.setIfInBounds_toArray, List.map_set]
/-- the table's numbers -/
def tabN : List Nat := (List.range 256).map ctab
theorem tabN_len : tabN.length = 256 := by simp [tabN]
theorem tabN_get {k : Nat} (h : k < 256) : tabN[k]? = some (ctab k) := by simp [tabN, h]
/-- a table -/
def Tb (T : List Nat) : Prop := T.length = 256 ∧ ∀ x ∈ T, x < 4294967296
theorem tabN_tb : Tb tabN := ⟨tabN_len, fun x hx => by
  simp only [tabN, List.mem_map, List.mem_range] at hx
  obtain ⟨k, hk, rfl⟩ := hx
  exact csteps_lt 8 (by omega)⟩
theorem tab_next {k : Nat} (h : k < 256) : (tabN.take k ++ List.replicate (256 - k) 0).set k (ctab k) = tabN.take (k + 1) ++ List.replicate (256 - (k + 1)) 0 := by
  have hl := tabN_len
  rw [List.set_append_right _ _ (by simp; omega)]
  have e : 256 - k = (256 - (k + 1)) + 1 := by omega
  have e2 : k - (tabN.take k).length = 0 := by simp; omega
  rw [e2, e, List.replicate_succ, List.set_cons_zero, List.take_add_one, tabN_get h]
  simp
theorem t256_info : (Tryz.prog.info? 77).map (fun i => (i.zero, i.size)) = some (some (.agg (Array.replicate 256 (.int .u32 0))), 256) := by kernel_rfl
theorem t256_size : (Tryz.prog.info? 77).map (·.size) = some 256 := (zero_of_info t256_info).2
/-- a whole array is written into a block -/
theorem wpList_store_row {P : Program} {ops : Array Oper} {rest : List Oper} {o : Oper} {a : Act} {w : World} {Q : Exit → Act → World → Prop} (hgd : o.guard = none) (ty : TypeId) (x y : Operand) (ho : o.op = .store ty x y)
    (g : Nat) (cells : Array Value) (hx : a.eval x = .pointer (some ⟨g, 0, none⟩)) (hy : a.eval y = .agg cells)
    (t : TypeId) (old : Array Value) (hg : w.heap[g]? = some (.cells old t (0, 0))) (hi : (P.info? ty).map (·.size) = some cells.size)
    (hold : old.size = cells.size) (h1 : cells.all (·.oneCell') = true)
    (h : wpList P ops Q rest (a.put o.dst undef) (w.setRow g cells)) : wpList P ops Q (o :: rest) a w :=
  wpList_plain hgd fun _ hK => wp_store_row ty x y ho g cells hx hy t old hg hi hold h1 (hK _ _ h)

theorem c32_replicate (n : Nat) : c32 (List.replicate n 0) = Array.replicate n (Value.int .u32 0) := by
  simp [c32]
theorem c32_zero : c32 (tabN.take 0 ++ List.replicate (256 - 0) 0) = Array.replicate 256 (Value.int .u32 0) := c32_replicate 256
set_option maxHeartbeats 2000000 in
set_option maxRecDepth 100000 in
theorem Table_any (w : World) :
    Calls Tryz.prog 45 #[] w fun e w' => e = .returned (.agg (c32 tabN)) ∧ Below w.heap.size w w' := by
  have hz := (zero_of_info t256_info).1
  go_enter Tryz.func45, Tryz.ntmps45
  go_wp2
  go_loopw [3] (fun i wr => ∃ (k : Nat) (Z : Array Value), k ≤ 256 ∧ i = .int .i64 k ∧ Hid (Z.size = 256) ∧ wr.heap[w.heap.size]? = some (.cells Z 77 (0, 0)) ∧ wr.heap[w.heap.size + 1]? = some (.cells (c32 (tabN.take k ++ List.replicate (256 - k) 0)) 77 (0, 0)) ∧ Below w.heap.size w wr) (fun i _ => 256 - (intOf i).toNat)
  case atStart =>
    have hk := fun Z : Array Value => kept2 (w := w) (w1 := (w.alloc (.cells Z 77)).alloc (.cells Z 77)) (o1 := .cells Z 77) (o2 := .cells Z 77) (Below.refl _ _)
    rw [← c32_zero]
    exact ⟨0, c32 (tabN.take 0 ++ List.replicate (256 - 0) 0), by omega, rfl, hid (by rw [c32_zero, Array.size_replicate]), (hk _).1, (hk _).2, ((Below.refl _ _).alloc (Nat.le_refl _) _).alloc (by simp) _⟩
  case round =>
    clear hz
    obtain ⟨k, Z, hk, rfl, HZ, h1, h2, hb⟩ := hrel
    by_cases hlt : k < 256
    · have H1 := hid h1
      have H2 := hid h2
      have hl : (tabN.take k ++ List.replicate (256 - k) 0).length = 256 := by have := tabN_len; simp; omega
      have hc : wr.cell? ⟨w.heap.size + 1, k, none⟩ = some (.int .u32 (((tabN.take k ++ List.replicate (256 - k) 0)[k]'(by rw [hl]; exact hlt) : Nat) : Int)) := by
        rw [cell_of_row wr _ k _ _ _ h2, c32_get _ (by rw [hl]; exact hlt)]
      have hf : wr.frozen? ⟨w.heap.size + 1, k, none⟩ = false := frozen_of_row wr _ k _ _ h2
      generalize ((tabN.take k ++ List.replicate (256 - k) 0)[k]'(by rw [hl]; exact hlt)) = old at hc
      clear h1 h2
      have Hn := hid (tab_next hlt)
      clear hl
      go_wp2_with fail
      refine (number_crc (n := k) (by omega) _).mono ?_
      rintro e w' ⟨rfl, rfl⟩
      go_wp2_with fail
      go_roundw
      case rel =>
        refine ⟨k + 1, Z, by omega, by go_num, HZ, ?_, ?_, hb.setCell (p := ⟨w.heap.size + 1, k, none⟩) (by simp) _⟩
        · rw [heap_setCell_other _ _ _ _ (by simp)]; exact H1.out
        · rw [heap_setCell_same wr _ k _ _ _ H2.out]
          show some (Obj.cells ((c32 _).setIfInBounds k (.int .u32 (ctab k : Nat))) _ _) = _
          rw [c32_set, Hn.out]
      case measure => simp [intOf]; omega
    · obtain rfl : k = 256 := by omega
      have e : tabN.take 256 ++ List.replicate (256 - 256) 0 = tabN := by rw [List.take_of_length_le (by rw [tabN_len]; omega)]; simp
      rw [e] at h2
      have hs : (Tryz.prog.info? 77).map (·.size) = some (c32 tabN).size := by rw [c32_size, tabN_len]; exact t256_size
      have ho : Z.size = (c32 tabN).size := by rw [HZ.out, c32_size, tabN_len]
      have H1 := hid h1
      have H2 := hid h2
      have Hs := hid hs
      have Ho := hid ho
      clear h1 h2 e hs ho
      go_wp2_with (first
        | (refine wpList_load_row rfl 77 (.tmp 1) rfl (w.heap.size + 1) rfl 77 _ (0, 0) _ H2.out Tryz.underlying77 rfl Hs.out ?_)
        | (refine wpList_store_row rfl 77 (.tmp 0) (.tmp 12) rfl w.heap.size (c32 tabN) rfl rfl 77 Z H1.out Hs.out Ho.out (c32_one _) ?_))
      refine bodyPost_ret (v := .agg (c32 tabN)) (results_cell_row Tryz.results45 _ _ w.heap.size 77 (c32 tabN) (0, 0) _ rfl (setRow_heap _ _ _ _ _ _ H1.out) Tryz.underlying77 rfl Hs.out) rfl ⟨rfl, below_setRow hb (Nat.le_refl _) _⟩
end Go.Proofs.YtondnbnaoacanaaGreatDoor
/- Contracts of layer 4 (crc) and of its reference: sums, by any table; the sum without a table. -/
namespace Go.Proofs.YtondnbnaoacanaaGreatDoor
open Go.ChangeShapes Go.WideShapes Go.ChangeAt Go.RowKit Fb

/-- bytes as numbers -/
def n8 (zs : List Int) : List Nat := zs.map Int.toNat
theorem n8_append (a b : List Int) : n8 (a ++ b) = n8 a ++ n8 b := by simp [n8]
theorem n8_len (a : List Int) : (n8 a).length = a.length := by simp [n8]
theorem n8_lt {zs : List Int} (h : Bytes zs) : ∀ b ∈ n8 zs, b < 256 := by
  intro b hb
  simp only [n8, List.mem_map] at hb
  obtain ⟨x, hx, rfl⟩ := hb
  have := h x hx
  omega
/-- a register goes on by a byte, by a table -/
def tstep (T : List Nat) (r b : Nat) : Nat := (T[r % 256 ^^^ b]?.getD 0) ^^^ (r / 256)
def regT (T : List Nat) (r : Nat) (l : List Nat) : Nat := l.foldl (tstep T) r
/-- all bits turned -/
def cpl (n : Nat) : Nat := n ^^^ 4294967295
/-- a sum goes on by bytes, by a table -/
def sumT (T : List Nat) (s : Nat) (l : List Nat) : Nat := cpl (regT T (cpl s) l)
theorem cpl_lt {n : Nat} (h : n < 4294967296) : cpl n < 4294967296 := Nat.xor_lt_two_pow (n := 32) h (by decide)
theorem cpl_cpl (n : Nat) : cpl (cpl n) = n := by unfold cpl; rw [Nat.xor_assoc, Nat.xor_self, Nat.xor_zero]
theorem low_lt {r b : Nat} (hb : b < 256) : r % 256 ^^^ b < 256 := Nat.xor_lt_two_pow (n := 8) (by omega) hb
theorem tstep_lt {T : List Nat} (hT : Tb T) {r b : Nat} (hr : r < 4294967296) (hb : b < 256) : tstep T r b < 4294967296 := by
  have hi : r % 256 ^^^ b < T.length := by rw [hT.1]; exact low_lt hb
  unfold tstep
  rw [List.getElem?_eq_getElem hi]
  have := hT.2 _ (List.getElem_mem hi)
  exact Nat.xor_lt_two_pow (n := 32) (by simpa using this) (by omega)
theorem regT_lt {T : List Nat} (hT : Tb T) : ∀ (l : List Nat) {r : Nat}, r < 4294967296 → (∀ b ∈ l, b < 256) → regT T r l < 4294967296
  | [], _, h, _ => h
  | b :: l, _, h, hb => regT_lt hT l (tstep_lt hT h (hb b (by simp))) (fun x hx => hb x (by simp [hx]))
theorem regT_append (T : List Nat) (r : Nat) (a b : List Nat) : regT T r (a ++ b) = regT T (regT T r a) b := List.foldl_append
theorem sumT_lt {T : List Nat} (hT : Tb T) {s : Nat} {l : List Nat} (hs : s < 4294967296) (hb : ∀ b ∈ l, b < 256) : sumT T s l < 4294967296 := cpl_lt (regT_lt hT l (cpl_lt hs) hb)
theorem sumT_nil (T : List Nat) (s : Nat) : sumT T s [] = s := cpl_cpl s
theorem sumT_append (T : List Nat) (s : Nat) (a b : List Nat) : sumT T s (a ++ b) = sumT T (sumT T s a) b := by
  unfold sumT
  rw [cpl_cpl, regT_append]
theorem take_n8 {zs : List Int} {k : Nat} (h : k < zs.length) : n8 (zs.take (k + 1)) = n8 (zs.take k) ++ [(zs[k]).toNat] := by
  rw [List.take_add_one, List.getElem?_eq_getElem h, n8_append]; rfl
/-- by the table, a register goes on by eight steps -/
theorem regT_tabN : ∀ (l : List Nat) (r : Nat), (∀ b ∈ l, b < 256) → regT tabN r l = creg r l
  | [], _, _ => rfl
  | b :: l, r, hb => by
    have hb1 := hb b (by simp)
    have h1 := xor_parts r b hb1
    have e : tstep tabN r b = csteps 8 (r ^^^ b) := by
      unfold tstep
      rw [tabN_get (low_lt hb1), ctab_byte, h1.1, h1.2]; rfl
    show regT tabN (tstep tabN r b) l = _
    rw [e, creg_cons]
    exact regT_tabN l _ (fun x hx => hb x (by simp [hx]))
theorem not_u32 (n : Nat) (h : n < 4294967296) : bits .xor .u32 IntKind.u32.max (n : Int) = ((cpl n : Nat) : Int) := by
  have e : bits .xor .u32 IntKind.u32.max (n : Int) = bits .xor .u32 4294967295 (n : Int) := rfl
  have := u32_xor_nat 4294967295 n (by omega) h
  unfold cpl
  rw [e, Nat.xor_comm n]
  simpa using this
theorem xor_u32 (a b : Nat) (ha : a < 4294967296) (hb : b < 4294967296) : bits .xor .u32 (a : Int) (b : Int) = ((a ^^^ b : Nat) : Int) := u32_xor_nat a b ha hb
theorem turn_u32 (n : Nat) (h : n < 4294967296) : bits .xor .u32 (n : Int) 4294967295 = ((cpl n : Nat) : Int) := by
  have := u32_xor_nat n 4294967295 h (by omega)
  unfold cpl
  simpa using this
/-- a byte of a slice, as the walk reads it -/
theorem _root_.Fb.Sl.byte {w : World} {B n : Nat} {A : Option Addr} {zs : List Int} (hS : Sl w B A n (by8 zs)) (hb : Bytes zs) {k : Nat} (hk : k < n) :
    ∃ b o x, A = some ⟨b, o, none⟩ ∧ b < B ∧ w.cell? ⟨b, o + k, none⟩ = some (.int .u8 ((x : Nat) : Int)) ∧ x < 256 ∧ n8 (zs.take (k + 1)) = n8 (zs.take k) ++ [x] := by
  have hl : n = zs.length := by have := hS.len; rw [by8_len] at this; exact this.symm
  obtain ⟨b, o, u, hA, hbB, hu, hc⟩ := hS.get hk
  have hkl : k < zs.length := by omega
  have hx := hb _ (List.getElem_mem hkl)
  obtain rfl : u = .int .u8 zs[k] := by
    simp only [by8, List.getElem?_map, List.getElem?_eq_getElem hkl, Option.map_some, Option.some.injEq] at hu
    exact hu.symm
  refine ⟨b, o, zs[k].toNat, hA, hbB, ?_, by omega, take_n8 hkl⟩
  rw [hc, Int.toNat_of_nonneg hx.1]

set_option maxHeartbeats 2000000 in
set_option maxRecDepth 100000 in
theorem Sum_crc {T : List Nat} (hT : Tb T) {A : Option Addr} {n c B s : Nat} {zs : List Int} {w : World} (hS : Sl w B A n (by8 zs)) (hB : B ≤ w.heap.size) (hb : Bytes zs) (hn : n ≤ 1000000) (hs : s < 4294967296) :
    Calls Tryz.prog 64 #[.agg (c32 T), .int .u32 s, .slice A n c] w fun e w' => e = .returned (.int .u32 (sumT T s (n8 zs) : Nat)) ∧ Below w.heap.size w w' := by
  have hl : n = zs.length := by have := hS.len; rw [by8_len] at this; exact this.symm
  have hS' := hS.below ((Below.refl B w).alloc hB (.cells (c32 T) 77))
  have hsN := not_u32 s hs
  have hsg : IntKind.u32.signed = false := rfl
  have Hl := hid hl
  have Hs := hid (cpl_lt hs)
  clear hS hl
  go_enter Tryz.func64, Tryz.ntmps64
  go_wp2
  go_loop [1, 12] (fun x i => ∃ k : Nat, k ≤ n ∧ i = .int .i64 k ∧ x = .int .u32 (regT T (cpl s) (n8 (zs.take k)) : Nat)) (fun _ i => n - (intOf i).toNat)
  case atStart => exact ⟨0, by omega, rfl, rfl⟩
  case round =>
    obtain ⟨k, hk, rfl, rfl⟩ := hrel
    have hr : regT T (cpl s) (n8 (zs.take k)) < 4294967296 := regT_lt hT _ Hs.out (n8_lt fun x hx => hb x (List.mem_of_mem_take hx))
    by_cases hlt : k < n
    · obtain ⟨g, o, x, rfl, hgB, hc, hx, htk⟩ := hS'.byte hb hlt
      have he : regT T (cpl s) (n8 (zs.take (k + 1))) = tstep T (regT T (cpl s) (n8 (zs.take k))) x := by rw [htk, regT_append]; rfl
      have He := hid he
      clear he htk
      generalize regT T (cpl s) (n8 (zs.take k)) = r at *
      have hi : r % 256 ^^^ x < T.length := by rw [hT.1]; exact low_lt hx
      have hi' : r % 256 ^^^ x < 256 := low_lt hx
      have ht : (c32 T)[r % 256 ^^^ x]? = some (.int .u32 ((T[r % 256 ^^^ x]?.getD 0 : Nat) : Int)) := by rw [c32_get T hi, List.getElem?_eq_getElem hi]; rfl
      have htl : T[r % 256 ^^^ x]?.getD 0 < 4294967296 := by rw [List.getElem?_eq_getElem hi]; exact hT.2 _ (List.getElem_mem hi)
      have hx8 : bits .xor .u8 ((r : Int) % 256) (x : Int) = ((r % 256 ^^^ x : Nat) : Int) := by
        have := u8_xor_nat (r % 256) x (by omega) hx
        simpa using this
      have hx32 : bits .xor .u32 ((T[r % 256 ^^^ x]?.getD 0 : Nat) : Int) ((r : Int) / 256) = ((tstep T r x : Nat) : Int) := by
        have := u32_xor_nat (T[r % 256 ^^^ x]?.getD 0) (r / 256) htl (by omega)
        unfold tstep
        simpa using this
      clear hi htl
      generalize T[r % 256 ^^^ x]?.getD 0 = y at *
      generalize r % 256 ^^^ x = j at *
      generalize tstep T r x = r' at *
      go_wp2
      go_round
      case rel => exact ⟨k + 1, by omega, by go_num, by rw [He.out]⟩
      case measure => simp [intOf]; omega
    · obtain rfl : k = n := by omega
      rw [List.take_of_length_le (by have := Hl.out; omega)] at hr
      rw [List.take_of_length_le (by have := Hl.out; omega)]
      have hrN := not_u32 _ hr
      have He : Hid (sumT T s (n8 zs) = cpl (regT T (cpl s) (n8 zs))) := rfl
      generalize regT T (cpl s) (n8 zs) = r at *
      go_wp2
      go_ret
      exact ⟨by rw [He.out]; rfl, (Below.refl _ _).alloc (Nat.le_refl _) _⟩
set_option maxHeartbeats 2000000 in
set_option maxRecDepth 100000 in
theorem Plain_any {A : Option Addr} {n c B : Nat} {zs : List Int} {w : World} (hS : Sl w B A n (by8 zs)) (hb : Bytes zs) (hn : n ≤ 1000000) :
    Calls Tryz.prog 67 #[.slice A n c] w fun e w' => e = .returned (.int .u32 (sumT tabN 0 (n8 zs) : Nat)) ∧ w = w' := by
  have hl : n = zs.length := by have := hS.len; rw [by8_len] at this; exact this.symm
  have he : sumT tabN 0 (n8 zs) = cpl (creg 4294967295 (n8 zs)) := by
    show cpl (regT tabN (cpl 0) _) = _
    rw [regT_tabN _ _ (n8_lt hb)]; rfl
  have Hl := hid hl
  have HE := hid he
  clear hl he
  go_enter Tryz.func67, Tryz.ntmps67
  go_wp2
  go_loop [3, 4] (fun x i => ∃ k : Nat, k ≤ n ∧ i = .int .i64 k ∧ x = .int .u32 (creg 4294967295 (n8 (zs.take k)) : Nat)) (fun _ i => n - (intOf i).toNat)
  case atStart => exact ⟨0, by omega, rfl, rfl⟩
  case round =>
    obtain ⟨k, hk, rfl, rfl⟩ := hrel
    have hr : creg 4294967295 (n8 (zs.take k)) < 4294967296 := creg_lt _ (by omega) (n8_lt fun x hx => hb x (List.mem_of_mem_take hx))
    by_cases hlt : k < n
    · obtain ⟨g, o, x, rfl, hgB, hc, hx, htk⟩ := hS.byte hb hlt
      have he : creg 4294967295 (n8 (zs.take (k + 1))) = csteps 8 (creg 4294967295 (n8 (zs.take k)) ^^^ x) := by rw [htk, creg_append]; rfl
      have He := hid he
      clear he htk
      generalize creg 4294967295 (n8 (zs.take k)) = r at *
      have hx32 : bits .xor .u32 (r : Int) (x : Int) = ((r ^^^ x : Nat) : Int) := u32_xor_nat r x hr (by omega)
      have hy : r ^^^ x < 4294967296 := Nat.xor_lt_two_pow (n := 32) hr (by omega)
      generalize r ^^^ x = y at *
      go_wp2
      go_loop [3, 5] (fun z i => ∃ m : Nat, m ≤ 8 ∧ i = .int .i64 m ∧ z = .int .u32 (csteps m y : Nat)) (fun _ i => 8 - (intOf i).toNat)
      case atStart => exact ⟨0, by omega, rfl, rfl⟩
      case round =>
        obtain ⟨m, hm, rfl, rfl⟩ := hrel
        by_cases hlt8 : m < 8
        · have hz : csteps m y < 4294967296 := csteps_lt m hy
          have hs : csteps (m + 1) y = cstep (csteps m y) := csteps_add 1 m y
          have Hs := hid hs
          clear hs
          generalize csteps m y = z at *
          have P := hid (fun w => Step_any hz w)
          go_wp2_with fail
          refine (P.out _).mono ?_
          rintro e w' ⟨rfl, rfl⟩
          go_wp2_with fail
          go_round
          case rel => exact ⟨m + 1, by omega, by go_num, by rw [Hs.out]⟩
          case measure => simp [intOf]; omega
        · obtain rfl : m = 8 := by omega
          go_wp2
          go_round
          case rel => exact ⟨k + 1, by omega, by go_num, by rw [He.out]⟩
          case measure => simp [intOf]; omega
    · obtain rfl : k = n := by omega
      rw [List.take_of_length_le (by have := Hl.out; omega)] at hr
      rw [List.take_of_length_le (by have := Hl.out; omega)]
      have hrN := turn_u32 _ hr
      generalize creg 4294967295 (n8 zs) = r at *
      go_wp2
      go_ret
      exact ⟨by rw [HE.out]; rfl, rfl⟩
end Go.Proofs.YtondnbnaoacanaaGreatDoor
/- Contracts of layer 4 (crc) and of its reference: bytes that are sealed. -/
namespace Go.Proofs.YtondnbnaoacanaaGreatDoor
open Go.ChangeShapes Go.WideShapes Go.ChangeAt Go.RowKit Fb

/-- a sum as four bytes, the lowest first -/
def foot (n : Nat) : List Int := [(n : Int) % 256, (n : Int) / 256 % 256, (n : Int) / 65536 % 256, (n : Int) / 16777216 % 256]
theorem foot_len (n : Nat) : (foot n).length = 4 := rfl
theorem foot_bytes (n : Nat) : Bytes (foot n) := by
  intro x hx
  simp only [foot, List.mem_cons, List.not_mem_nil, or_false] at hx
  omega
/-- bytes, sealed -/
def sealed (T : List Nat) (zs : List Int) : List Int := zs ++ foot (sumT T 0 (n8 zs))
theorem bytes_append {a b : List Int} (ha : Bytes a) (hb : Bytes b) : Bytes (a ++ b) := by
  intro x hx
  rcases List.mem_append.1 hx with h | h
  · exact ha x h
  · exact hb x h
theorem sealed_len (T : List Nat) (zs : List Int) : (sealed T zs).length = zs.length + 4 := by simp [sealed, foot_len]
theorem sealed_bytes (T : List Nat) {zs : List Int} (h : Bytes zs) : Bytes (sealed T zs) := bytes_append h (foot_bytes _)
/-- a slice of the call's own that has these bytes is handed back, and nothing that lay is otherwise -/
def PutsB (base : Nat) (w : World) (zs : List Int) (e : Ending) (w' : World) : Prop := (∃ v, e = .returned v ∧ w'.ownsRow base 5 1 v zs.length (by8 zs)) ∧ Below base w w'
theorem foot_next {zs : List Int} {r q k : Nat} (hq : q = r / 256 ^ k) (hk : k < 4) : by8 (zs ++ (foot r).take (k + 1)) = by8 (zs ++ (foot r).take k) ++ [.int .u8 ((q : Int) % 256)] := by
  have e : (foot r).take (k + 1) = (foot r).take k ++ [(q : Int) % 256] := by
    subst hq
    have hc : k = 0 ∨ k = 1 ∨ k = 2 ∨ k = 3 := by omega
    rcases hc with rfl | rfl | rfl | rfl <;> simp [foot]
  rw [e, ← List.append_assoc, by8_append]
  rfl

theorem foot_next0 (zs : List Int) (r : Nat) : by8 (zs ++ (foot r).take 1) = by8 (zs ++ (foot r).take 0) ++ [.int .u8 ((r : Int) % 256)] := by simp [foot, by8]
theorem foot_next1 (zs : List Int) (r : Nat) : by8 (zs ++ (foot r).take 2) = by8 (zs ++ (foot r).take 1) ++ [.int .u8 ((r : Int) / 256 % 256)] := by simp [foot, by8]
theorem foot_next2 (zs : List Int) (r : Nat) : by8 (zs ++ (foot r).take 3) = by8 (zs ++ (foot r).take 2) ++ [.int .u8 ((r : Int) / 65536 % 256)] := by simp [foot, by8]
theorem foot_next3 (zs : List Int) (r : Nat) : by8 (zs ++ (foot r).take 4) = by8 (zs ++ (foot r).take 3) ++ [.int .u8 ((r : Int) / 16777216 % 256)] := by simp [foot, by8]
set_option maxHeartbeats 2000000 in
set_option maxRecDepth 100000 in
theorem Tail_any {A : Option Addr} {n c r B : Nat} {zs : List Int} {w : World} (hS : Sl w B A n (by8 zs)) (hB : B ≤ w.heap.size) (hnil : A = none → c = 0) (hn : n ≤ 1000000) (hr : r < 4294967296) :
    Calls Tryz.prog 66 #[.slice A n c, .int .u32 r] w (PutsB w.heap.size w (zs ++ foot r)) := by
  obtain ⟨i0, hi0, hz0, hz1, hz2⟩ := info_parts u8_info
  have hl : n = zs.length := by have := hS.len; rw [by8_len] at this; exact this.symm
  have HN := hid hnil
  have Hl := hid hl
  have HR := hid hr
  clear hnil hl hr
  go_enter Tryz.func66, Tryz.ntmps66
  go_wp2_with (at_builtin; refine wpList_pushAll (B := B) rfl (.tmp 7) (.tmp 8) _ rfl Tryz.underlying26 hi0 hz0 hz1 hz2 rfl rfl (own_fresh w #[] 5 (base := w.heap.size) (n := 0) (xs := []) rfl (Nat.le_refl _) rfl rfl (Nat.zero_le _)) rfl HN.out (m := n) (news := by8 zs) ?SL (fun v1 w1 hown hbel => ?_) (by8_one zs) (by simp only [maxLen]; omega) (by omega) (by simp))
  case SL => exact hS.below ((Below.refl _ _).alloc hB _)
  go_wp2
  have hb1 : Below w.heap.size w w1 := ((Below.refl _ _).alloc (Nat.le_refl _) _).trans hbel
  go_loopw [1, 5, 6] (fun x v i wr => ∃ k q : Nat, k ≤ 4 ∧ Hid (q = r / 256 ^ k) ∧ i = .int .i64 k ∧ x = .int .u32 q ∧ wr.ownsRow w.heap.size 5 1 v (n + k) (by8 (zs ++ (foot r).take k)) ∧ Below w.heap.size w wr) (fun _ _ i _ => 4 - (intOf i).toNat)
  case atStart => exact ⟨0, r, by omega, by show _ = _; simp, rfl, rfl, by simpa using hown, hb1⟩
  case round =>
    obtain ⟨k, q, hk, hq, rfl, rfl, hown', hbr⟩ := hrel
    by_cases hlt : k < 4
    · have Hf := hid (foot_next (zs := zs) hq.out hlt)
      have hq2 : q < 4294967296 := by rw [hq.out]; exact Nat.lt_of_le_of_lt (Nat.div_le_self _ _) HR.out
      have hqn : Hid (q / 256 = r / 256 ^ (k + 1)) := by show _ = _; rw [hq.out, Nat.div_div_eq_div_mul, Nat.pow_succ]
      clear hq
      go_wp2_with (at_builtin; refine wpList_push rfl (.tmp 14) (.tmp 18) 26 rfl Tryz.underlying26 hi0 hz0 hz1 hz2 rfl (by decide) rfl hown' rfl rfl ?_ ?c1 ?c2 ?c3 ?c4; intro v' w'' hown'' hb'')
      case c1 => simp [Value.oneCell']
      case c2 => simp [maxLen]; omega
      case c3 => omega
      case c4 => exact hbr.size
      go_roundw
      case rel => exact ⟨k + 1, q / 256, by omega, hqn, by go_num, by go_num, by rw [Hf.out]; exact hown'', hbr.trans hb''⟩
      case measure => simp [intOf]; omega
    · obtain rfl : k = 4 := by omega
      go_wp2
      go_ret
      refine ⟨⟨_, rfl, ?_⟩, hbr⟩
      have e : (foot r).take 4 = foot r := rfl
      rw [e] at hown'
      rw [List.length_append, foot_len, ← Hl.out]
      exact hown'
set_option maxHeartbeats 2000000 in
set_option maxRecDepth 100000 in
theorem RSeal_any {A : Option Addr} {n c B : Nat} {zs : List Int} {w : World} (hS : Sl w B A n (by8 zs)) (hB : B ≤ w.heap.size) (hb : Bytes zs) (hnil : A = none → c = 0) (hn : n ≤ 1000000) :
    Calls Tryz.prog 47 #[.slice A n c] w (PutsB w.heap.size w (sealed tabN zs)) := by
  have P1 := hid (Plain_any (c := c) hS hb hn)
  have P2 := hid (Tail_any (c := c) (r := sumT tabN 0 (n8 zs)) hS hB hnil hn (sumT_lt tabN_tb (by omega) (n8_lt hb)))
  have E : Hid (zs ++ foot (sumT tabN 0 (n8 zs)) = sealed tabN zs) := rfl
  clear hnil
  go_enter Tryz.func47, Tryz.ntmps47
  go_wp2_with fail
  refine P1.out.mono ?_
  rintro e w' ⟨rfl, rfl⟩
  go_wp2_with fail
  refine P2.out.mono ?_
  rw [E.out]
  rintro e w' ⟨⟨v, rfl, hown⟩, hbel⟩
  go_wp2_with fail
  go_ret
  exact ⟨⟨_, rfl, hown⟩, hbel⟩
set_option maxHeartbeats 2000000 in
set_option maxRecDepth 100000 in
theorem Seal_any {T : List Nat} (hT : Tb T) {A : Option Addr} {n c B : Nat} {zs : List Int} {w : World} (hS : Sl w B A n (by8 zs)) (hB : B ≤ w.heap.size) (hb : Bytes zs) (hnil : A = none → c = 0) (hn : n ≤ 1000000) :
    Calls Tryz.prog 44 #[.agg (c32 T), .slice A n c] w (PutsB w.heap.size w (sealed T zs)) := by
  obtain ⟨i0, hi0, hz0, hz1, hz2⟩ := info_parts u8_info
  have hl : n = zs.length := by have := hS.len; rw [by8_len] at this; exact this.symm
  have hbA : Below w.heap.size w (w.alloc (.cells (c32 T) 77)) := (Below.refl _ _).alloc (Nat.le_refl _) _
  have P1 := hid (Clone_any (c := c) (hS.below ((Below.refl B w).alloc hB (.cells (c32 T) 77))) (Nat.le_trans hB hbA.size) hnil (by omega))
  have P2 := hid (fun (w' : World) (h : Below w.heap.size w w') => Sum_crc hT (c := c) (s := 0) (hS.below (h.mono hB)) (Nat.le_trans hB h.size) hb hn (by omega))
  have Hl := hid hl
  have HR := hid (sumT_lt hT (s := 0) (by omega) (n8_lt hb))
  have E : Hid (zs ++ foot (sumT T 0 (n8 zs)) = sealed T zs) := rfl
  have hs : (Tryz.prog.info? 77).map (·.size) = some (c32 T).size := by rw [c32_size, hT.1]; exact t256_size
  have Hs := hid hs
  clear hnil hl hs
  go_enter Tryz.func44, Tryz.ntmps44
  go_wp2_with fail
  refine P1.out.mono ?_
  rintro e w1 ⟨⟨v, rfl, hown⟩, hb1⟩
  have h0 := hid ((hb1.block w.heap.size (by simp)).trans (heap_alloc_new w _))
  go_wp2_with (refine wpList_load_row rfl 77 (.tmp 2) rfl w.heap.size rfl 77 _ (0, 0) _ h0.out Tryz.underlying77 rfl Hs.out ?_)
  refine (P2.out _ (hbA.trans (hb1.mono hbA.size))).mono ?_
  rintro e w2 ⟨rfl, hb2⟩
  have hown2 := own_down (own_below hown hb2) hbA.size
  have hbW : Below w.heap.size w w2 := hbA.trans ((hb1.mono hbA.size).trans (hb2.mono (Nat.le_trans hbA.size hb1.size)))
  clear hown hb2 hb1 h0 P1 P2 Hs
  generalize sumT T 0 (n8 zs) = r at *
  go_wp2_with fail
  go_loopw [5, 13] (fun v i wr => ∃ k : Nat, k ≤ 4 ∧ i = .int .i64 k ∧ wr.ownsRow w.heap.size 5 1 v (n + k) (by8 (zs ++ (foot r).take k)) ∧ Below w.heap.size w wr) (fun _ i _ => 4 - (intOf i).toNat)
  case atStart => exact ⟨0, by omega, rfl, by simpa using hown2, hbW⟩
  case round =>
    obtain ⟨k, hk, rfl, hown', hbr⟩ := hrel
    by_cases hlt : k < 4
    · have hc : k = 0 ∨ k = 1 ∨ k = 2 ∨ k = 3 := by omega
      rcases hc with rfl | rfl | rfl | rfl
      · have Hf := hid (foot_next0 zs r)
        go_wp2_with (at_builtin; refine wpList_push rfl (.tmp 16) (.tmp 22) 26 rfl Tryz.underlying26 hi0 hz0 hz1 hz2 rfl (by decide) rfl hown' rfl rfl ?_ ?c1 ?c2 ?c3 ?c4; intro v' w'' hown'' hb'')
        case c1 => simp [Value.oneCell']
        case c2 => simp [maxLen]; omega
        case c3 => omega
        case c4 => exact hbr.size
        go_roundw
        case rel => exact ⟨1, by omega, by go_num, by rw [Hf.out]; exact hown'', hbr.trans hb''⟩
        case measure => simp [intOf]
      · have Hf := hid (foot_next1 zs r)
        go_wp2_with (at_builtin; refine wpList_push rfl (.tmp 16) (.tmp 22) 26 rfl Tryz.underlying26 hi0 hz0 hz1 hz2 rfl (by decide) rfl hown' rfl rfl ?_ ?c1 ?c2 ?c3 ?c4; intro v' w'' hown'' hb'')
        case c1 => simp [Value.oneCell']
        case c2 => simp [maxLen]; omega
        case c3 => omega
        case c4 => exact hbr.size
        go_roundw
        case rel => exact ⟨2, by omega, by go_num, by rw [Hf.out]; exact hown'', hbr.trans hb''⟩
        case measure => simp [intOf]
      · have Hf := hid (foot_next2 zs r)
        go_wp2_with (at_builtin; refine wpList_push rfl (.tmp 16) (.tmp 22) 26 rfl Tryz.underlying26 hi0 hz0 hz1 hz2 rfl (by decide) rfl hown' rfl rfl ?_ ?c1 ?c2 ?c3 ?c4; intro v' w'' hown'' hb'')
        case c1 => simp [Value.oneCell']
        case c2 => simp [maxLen]; omega
        case c3 => omega
        case c4 => exact hbr.size
        go_roundw
        case rel => exact ⟨3, by omega, by go_num, by rw [Hf.out]; exact hown'', hbr.trans hb''⟩
        case measure => simp [intOf]
      · have Hf := hid (foot_next3 zs r)
        go_wp2_with (at_builtin; refine wpList_push rfl (.tmp 16) (.tmp 22) 26 rfl Tryz.underlying26 hi0 hz0 hz1 hz2 rfl (by decide) rfl hown' rfl rfl ?_ ?c1 ?c2 ?c3 ?c4; intro v' w'' hown'' hb'')
        case c1 => simp [Value.oneCell']
        case c2 => simp [maxLen]; omega
        case c3 => omega
        case c4 => exact hbr.size
        go_roundw
        case rel => exact ⟨4, by omega, by go_num, by rw [Hf.out]; exact hown'', hbr.trans hb''⟩
        case measure => simp [intOf]
    · obtain rfl : k = 4 := by omega
      go_wp2
      go_ret
      refine ⟨⟨_, rfl, ?_⟩, hbr⟩
      have e : (foot r).take 4 = foot r := rfl
      rw [e, E.out] at hown'
      rw [sealed_len, ← Hl.out]
      exact hown'
end Go.Proofs.YtondnbnaoacanaaGreatDoor
/- Contracts of layer 4 (crc) and of its reference: bytes that are opened. -/
namespace Go.Proofs.YtondnbnaoacanaaGreatDoor
open Go.ChangeShapes Go.WideShapes Go.ChangeAt Go.RowKit Fb

theorem Equal_any {A A' : Option Addr} {n n' c c' B B' : Nat} {zs zs' : List Int} {w : World} (hS : Sl w B A n (by8 zs)) (hS' : Sl w B' A' n' (by8 zs')) (hb : Bytes zs) (hb' : Bytes zs') :
    Calls Tryz.prog 110 #[.slice A n c, .slice A' n' c'] w fun e w' => e = .returned (.bool (decide (zs = zs'))) ∧ w = w' := by
  have k1 := conv8 c hS
  have k2 := conv8 c' hS'
  have he := str_eq hb hb'
  clear hS hS'
  go_enter Tryz.func110, Tryz.ntmps110
  go_wp2
  go_ret
  exact ⟨rfl, rfl⟩
/-- bytes of which all but the last four are m: if they are sealed they are opened -/
def OpensP (T : List Nat) (zs : List Int) (m : Nat) (e : Ending) (w' : World) : Prop :=
  if sealed T (zs.take m) = zs then ∃ A' c', e = .returned (.tuple #[.slice A' m c', .int .i64 0]) ∧ Sl w' w'.heap.size A' m (by8 (zs.take m)) else e = .returned (.tuple #[.slice none 0 0, .int .i64 12])
end Go.Proofs.YtondnbnaoacanaaGreatDoor
