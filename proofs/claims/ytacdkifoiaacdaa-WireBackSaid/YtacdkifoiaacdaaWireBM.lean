/- Layer 3: lists of numbers and texts, put one behind the other, cut off, and read. -/
import Derived.Test.YtacdkifoiaacdaaWireN
namespace Go.Proofs.Ytacdkifoiaacdaa
open Fb

/-- where a reader stands, its error, and whether all was as it was put -/
abbrev St := Int × Int × Bool
def stU (zs : List Int) (s : St) (x : Int) : St := ((uintS zs s.1 s.2.1).1, (uintS zs s.1 s.2.1).2.1, s.2.2 && decide (((uintS zs s.1 s.2.1).2.2 : Int) = x))
def stI (zs : List Int) (s : St) (x : Int) : St := ((uintS zs s.1 s.2.1).1, (uintS zs s.1 s.2.1).2.1, s.2.2 && decide (zag (uintS zs s.1 s.2.1).2.2 = x))
def stT (zs : List Int) (s : St) (x : ByteArray) : St := ((textS zs s.1 s.2.1 200).1, (textS zs s.1 s.2.1 200).2.1, s.2.2 && ((strOfNums (textS zs s.1 s.2.1 200).2.2).toList == x.toList))
def eU (x : Int) : List Int := leb x.toNat
def eI (x : Int) : List Int := leb (zig x)
def eT (x : ByteArray) : List Int := leb x.size ++ sI x
/-- a step reads what was put, and finds too little where that is cut -/
def Good {α : Type} (f : List Int → St → α → St) (e : α → List Int) (x : α) : Prop :=
  (∀ zs p b, ∃ p' b', f zs (p, 10, b) x = (p', 10, b')) ∧
  ∀ (pre rest : List Int) (K : Nat) (b : Bool), pre.length ≤ K →
    (K < pre.length + (e x).length → ∃ p' b', f ((pre ++ (e x ++ rest)).take K) ((pre.length : Int), 0, b) x = (p', 10, b')) ∧
    (pre.length + (e x).length ≤ K → f ((pre ++ (e x ++ rest)).take K) ((pre.length : Int), 0, b) x = (((pre.length + (e x).length : Nat) : Int), 0, b))

theorem cut_take {pre e rest : List Int} {K : Nat} (h : pre.length + e.length ≤ K) : (pre ++ (e ++ rest)).take K = pre ++ (e ++ rest.take (K - (pre.length + e.length))) := by
  rw [List.take_append, List.take_of_length_le (show pre.length ≤ K by omega), List.take_append, List.take_of_length_le (show e.length ≤ K - pre.length by omega), Nat.sub_sub]
theorem cut_short {pre e rest : List Int} {K : Nat} (h0 : pre.length ≤ K) (h : K < pre.length + e.length) : (pre ++ (e ++ rest)).take K = pre ++ e.take (K - pre.length) := by
  rw [List.take_append, List.take_of_length_le h0, List.take_append, show K - pre.length - e.length = 0 by omega, List.take_zero, List.append_nil]
theorem uS_ten (zs : List Int) (p : Int) : uintS zs p 10 = (p, 10, 0) := by rw [uintS_no (by omega)]; rfl
theorem uS_cut {pre : List Int} {n j : Nat} (hn : n < 18446744073709551616) (hj : j < (leb n).length) : uintS (pre ++ (leb n).take j) pre.length 0 = ((pre.length : Int), 10, 0) := by
  have hw : win (pre ++ (leb n).take j) pre.length = ((leb n).take j).take 10 := by
    unfold win; rw [Int.toNat_natCast, List.drop_left]
  have h := uE_cut hn hj
  rw [uintS_bad (by simp; omega) (by rw [hw, h]; decide), hw, h]
theorem goodU {x : Int} (h0 : 0 ≤ x) (h1 : x < 18446744073709551616) : Good stU eU x := by
  refine ⟨fun zs p b => ⟨p, _, by unfold stU; rw [uS_ten]⟩, fun pre rest K b hK => ⟨fun h => ?_, fun h => ?_⟩⟩
  · rw [cut_short hK h]
    refine ⟨pre.length, b && decide (((0 : Nat) : Int) = x), ?_⟩
    unfold stU
    simp only
    rw [show eU x = leb x.toNat from rfl] at *
    rw [uS_cut (by omega) (by omega)]
  · rw [cut_take h]
    unfold stU
    simp only
    rw [show eU x = leb x.toNat from rfl] at *
    rw [uS_at (by omega)]
    simp only [Prod.mk.injEq, true_and]
    have : ((x.toNat : Nat) : Int) = x := by omega
    simp [this]
theorem goodI {x : Int} (h0 : -9223372036854775808 ≤ x) (h1 : x ≤ 9223372036854775807) : Good stI eI x := by
  have hz := zig_lt h0 h1
  refine ⟨fun zs p b => ⟨p, _, by unfold stI; rw [uS_ten]⟩, fun pre rest K b hK => ⟨fun h => ?_, fun h => ?_⟩⟩
  · rw [cut_short hK h]
    refine ⟨pre.length, b && decide (zag 0 = x), ?_⟩
    unfold stI
    simp only
    rw [show eI x = leb (zig x) from rfl] at *
    rw [uS_cut hz (by omega)]
  · rw [cut_take h]
    unfold stI
    simp only
    rw [show eI x = leb (zig x) from rfl] at *
    rw [uS_at hz]
    simp [zag_zig]
theorem goodT {x : ByteArray} (h : x.size ≤ 200) : Good stT eT x := by
  have hl : (sI x).length = x.size := sI_len x
  have he : eT x = leb (sI x).length ++ sI x := by rw [hl]; rfl
  refine ⟨fun zs p b => ⟨p, _, by unfold stT; simp only; rw [tx_err (uS_ten zs p) (by decide)]⟩, fun pre rest K b hK => ⟨fun hc => ?_, fun hc => ?_⟩⟩
  · rw [cut_short hK hc]
    rw [he] at hc ⊢
    by_cases hj : K - pre.length < (leb (sI x).length).length
    · rw [List.take_append_of_le_length (by omega)]
      refine ⟨pre.length, b && ((strOfNums []).toList == x.toList), ?_⟩
      unfold stT
      simp only
      rw [tx_err (uS_cut (by omega) hj) (by decide)]
    · have e1 : (leb (sI x).length ++ sI x).take (K - pre.length) = leb (sI x).length ++ (sI x).take (K - pre.length - (leb (sI x).length).length) := by
        rw [List.take_append, List.take_of_length_le (by omega)]
      rw [e1]
      have hu := uS_at (pre := pre) (rest := (sI x).take (K - pre.length - (leb (sI x).length).length)) (m := (sI x).length) (by omega)
      refine ⟨pre.length, b && ((strOfNums []).toList == x.toList), ?_⟩
      unfold stT
      simp only
      rw [List.length_append] at hc
      rw [tx_short hu (by omega) (by simp only [List.length_append, List.length_take]; omega)]
  · rw [cut_take hc]
    rw [he] at hc ⊢
    unfold stT
    simp only
    rw [tx_at (by omega) (by omega), str_sI]
    simp

section
variable {α : Type} {f : List Int → St → α → St} {e : α → List Int}
theorem fold_ten : ∀ (xs : List α), (∀ x ∈ xs, Good f e x) → ∀ zs p b, ∃ p' b', xs.foldl (f zs) (p, 10, b) = (p', 10, b')
  | [], _, zs, p, b => ⟨p, b, rfl⟩
  | x :: xs, h, zs, p, b => by
    obtain ⟨p', b', hx⟩ := (h x (by simp)).1 zs p b
    rw [List.foldl_cons, hx]
    exact fold_ten xs (fun y hy => h y (by simp [hy])) zs p' b'
theorem fold_good : ∀ (xs : List α), (∀ x ∈ xs, Good f e x) → ∀ (pre rest : List Int) (K : Nat) (b : Bool), pre.length ≤ K →
    (K < pre.length + (xs.flatMap e).length → ∃ p' b', xs.foldl (f ((pre ++ (xs.flatMap e ++ rest)).take K)) ((pre.length : Int), 0, b) = (p', 10, b')) ∧
    (pre.length + (xs.flatMap e).length ≤ K → xs.foldl (f ((pre ++ (xs.flatMap e ++ rest)).take K)) ((pre.length : Int), 0, b) = (((pre.length + (xs.flatMap e).length : Nat) : Int), 0, b))
  | [], _, pre, rest, K, b, hK => ⟨fun h => by simp at h; omega, fun _ => by simp⟩
  | x :: xs, h, pre, rest, K, b, hK => by
    have hx := (h x (by simp)).2 pre (xs.flatMap e ++ rest) K b hK
    have e1 : (x :: xs).flatMap e = e x ++ xs.flatMap e := by simp
    have e2 : pre ++ ((e x ++ xs.flatMap e) ++ rest) = (pre ++ e x) ++ (xs.flatMap e ++ rest) := by simp
    have e3 : pre ++ (e x ++ (xs.flatMap e ++ rest)) = (pre ++ e x) ++ (xs.flatMap e ++ rest) := by simp
    rw [e1]
    by_cases hc : K < pre.length + (e x).length
    · obtain ⟨p', b', hx1⟩ := hx.1 hc
      rw [e3] at hx1
      refine ⟨fun _ => ?_, fun h2 => by rw [List.length_append] at h2; omega⟩
      rw [e2, List.foldl_cons, hx1]
      exact fold_ten xs (fun y hy => h y (by simp [hy])) _ p' b'
    · have hx2 := hx.2 (by omega)
      rw [e3] at hx2
      have ih := fold_good xs (fun y hy => h y (by simp [hy])) (pre ++ e x) rest K b (by rw [List.length_append]; omega)
      rw [List.length_append] at ih
      rw [e2, List.foldl_cons, hx2, List.length_append]
      refine ⟨fun h2 => ih.1 (by omega), fun h2 => ?_⟩
      rw [ih.2 (by omega)]
      simp only [Prod.mk.injEq, and_true]; omega
end

def enc (l m : List Int) (ts : List ByteArray) : List Int := l.flatMap eU ++ (m.flatMap eI ++ ts.flatMap eT)
/-- what is read of some bytes -/
def readF (zs : List Int) (l m : List Int) (ts : List ByteArray) : St := ts.foldl (stT zs) (m.foldl (stI zs) (l.foldl (stU zs) (0, 0, true)))
theorem read_enc {l m : List Int} {ts : List ByteArray} (hl : ∀ x ∈ l, 0 ≤ x ∧ x < 18446744073709551616) (hm : ∀ x ∈ m, -9223372036854775808 ≤ x ∧ x ≤ 9223372036854775807) (ht : ∀ x ∈ ts, x.size ≤ 200) (K : Nat) :
    (K < (enc l m ts).length → ∃ p b, readF ((enc l m ts).take K) l m ts = (p, 10, b)) ∧
    ((enc l m ts).length ≤ K → readF ((enc l m ts).take K) l m ts = (((enc l m ts).length : Int), 0, true)) := by
  have gl : ∀ x ∈ l, Good stU eU x := fun x hx => goodU (hl x hx).1 (hl x hx).2
  have gm : ∀ x ∈ m, Good stI eI x := fun x hx => goodI (hm x hx).1 (hm x hx).2
  have gt : ∀ x ∈ ts, Good stT eT x := fun x hx => goodT (ht x hx)
  have f1 := fold_good l gl [] (m.flatMap eI ++ ts.flatMap eT) K true (Nat.zero_le _)
  have f2 := fun h => fold_good m gm (l.flatMap eU) (ts.flatMap eT) K true h
  have f3 := fun h => fold_good ts gt (l.flatMap eU ++ m.flatMap eI) [] K true h
  rw [List.append_assoc, List.append_nil] at f3
  have e0 : [] ++ (l.flatMap eU ++ (m.flatMap eI ++ ts.flatMap eT)) = enc l m ts := rfl
  have e1 : l.flatMap eU ++ (m.flatMap eI ++ ts.flatMap eT) = enc l m ts := rfl
  rw [e0] at f1
  rw [e1] at f2 f3
  have hlen : (enc l m ts).length = (l.flatMap eU).length + (m.flatMap eI).length + (ts.flatMap eT).length := by
    unfold enc; simp only [List.length_append]; omega
  simp only [List.length_nil, Nat.zero_add, List.length_append] at f1 f2 f3
  unfold readF
  by_cases h1 : K < (l.flatMap eU).length
  · obtain ⟨p, b, h⟩ := f1.1 h1
    obtain ⟨p2, b2, h2⟩ := fold_ten m gm ((enc l m ts).take K) p b
    obtain ⟨p3, b3, h3⟩ := fold_ten ts gt ((enc l m ts).take K) p2 b2
    refine ⟨fun _ => ⟨p3, b3, ?_⟩, fun h' => by omega⟩
    have : ((0 : Int), (0 : Int), true) = (((0 : Nat) : Int), 0, true) := rfl
    rw [this, h, h2, h3]
  · have h := f1.2 (by omega)
    have h00 : ((0 : Int), (0 : Int), true) = (((0 : Nat) : Int), 0, true) := rfl
    rw [h00, h]
    by_cases h2 : K < (l.flatMap eU).length + (m.flatMap eI).length
    · obtain ⟨p2, b2, h2⟩ := (f2 (by omega)).1 h2
      obtain ⟨p3, b3, h3⟩ := fold_ten ts gt ((enc l m ts).take K) p2 b2
      refine ⟨fun _ => ⟨p3, b3, ?_⟩, fun h' => by omega⟩
      rw [h2, h3]
    · rw [(f2 (by omega)).2 (by omega)]
      refine ⟨fun h3 => ?_, fun h3 => ?_⟩
      · obtain ⟨p, b, h4⟩ := (f3 (by omega)).1 (by omega)
        exact ⟨p, b, h4⟩
      · rw [(f3 (by omega)).2 (by omega), hlen]
theorem enc_len {l m : List Int} {ts : List ByteArray} (hl : ∀ x ∈ l, 0 ≤ x ∧ x < 18446744073709551616) (hm : ∀ x ∈ m, -9223372036854775808 ≤ x ∧ x ≤ 9223372036854775807) (ht : ∀ x ∈ ts, x.size ≤ 200) :
    (l.flatMap eU).length ≤ l.length * 10 ∧ (m.flatMap eI).length ≤ m.length * 10 ∧ (ts.flatMap eT).length ≤ ts.length * 210 := by
  have key : ∀ {α : Type} (e : α → List Int) (N : Nat) (xs : List α), (∀ x ∈ xs, (e x).length ≤ N) → (xs.flatMap e).length ≤ xs.length * N := by
    intro α e N xs
    induction xs with
    | nil => intro _; simp
    | cons x xs ih =>
      intro h
      have h1 := h x (by simp)
      have h2 := ih fun y hy => h y (by simp [hy])
      rw [List.flatMap_cons, List.length_append, List.length_cons, Nat.add_mul]; omega
  refine ⟨key eU 10 l fun x hx => leb_ten (by have := hl x hx; omega), key eI 10 m fun x hx => leb_ten (zig_lt (hm x hx).1 (hm x hx).2), key eT 210 ts fun x hx => ?_⟩
  have h1 := ht x hx
  have h2 := leb_ten (n := x.size) (by omega)
  unfold eT
  rw [List.length_append, sI_len]; omega
end Go.Proofs.Ytacdkifoiaacdaa
