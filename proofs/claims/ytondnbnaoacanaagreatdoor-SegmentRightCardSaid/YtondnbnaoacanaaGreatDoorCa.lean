/- Texts laid together: CodecM, CodecN. -/
import Derived.Test.YtondnbnaoacanaaGreatDoorWc
import Derived.Test.YtondnbnaoacanaaGreatDoorEb
import Derived.Test.YtondnbnaoacanaaGreatDoorNa
/- Layer 7: events as bytes: plain words. -/
namespace Go.Proofs.YtondnbnaoacanaaGreatDoor
open Fb

/-- an event -/
structure Ev where
  q : Int
  t : Int
  k : Int
  s : ByteArray
  a : Int
  b : Int
  c : Int
/-- was what was ahead right? -/
def rcB (q0 t0 : Int) (ss : List ByteArray) : Bool := decide (0 ≤ q0 ∧ q0 ≤ 4294967296) && (decide (0 ≤ t0 ∧ t0 ≤ 1099511627776) && rgB ss)
/-- why an event may not follow; 0: it may -/
def flE (q0 t0 : Int) (ss : List ByteArray) (x : Ev) : Int :=
  if chI x.q x.t x.k x.s x.a x.b x.c = 0 then (if x.q ≤ q0 then 1 else if x.t < t0 then 5 else if plc x.s ss = 0 then puE ss x.s else 0) else chI x.q x.t x.k x.s x.a x.b x.c
/-- the names behind it -/
def flL (ss : List ByteArray) (x : Ev) : List ByteArray := if plc x.s ss = 0 then puL ss x.s else ss
def nmL (x : Ev) : List Int := [x.a, x.b, x.c].take (mnI x.k).toNat
def lebs (l : List Int) : List Int := l.flatMap fun n => leb n.toNat
def tx (ss : List ByteArray) (x : Ev) : List Int := if plc x.s ss = 0 then leb x.s.size ++ sI x.s else []
def h4 (q0 t0 : Int) (ss : List ByteArray) (x : Ev) : List Int := (((([] ++ leb x.k.toNat) ++ leb (x.q - q0).toNat) ++ leb (x.t - t0).toNat) ++ leb (plc x.s ss))
/-- its bytes -/
def spB (q0 t0 : Int) (ss : List ByteArray) (x : Ev) : List Int := (h4 q0 t0 ss x ++ tx ss x) ++ lebs (nmL x)
/-- an event that may follow, whose bytes these are -/
def Fo (q0 t0 : Int) (ss : List ByteArray) (x : Ev) (zs : List Int) : Prop := flE q0 t0 ss x = 0 ∧ spB q0 t0 ss x = zs

theorem rc_iff (q0 t0 : Int) (ss : List ByteArray) : rcB q0 t0 ss = true ↔ (0 ≤ q0 ∧ q0 ≤ 4294967296) ∧ (0 ≤ t0 ∧ t0 ≤ 1099511627776) ∧ rgB ss = true := by
  unfold rcB
  simp only [Bool.and_eq_true, decide_eq_true_eq]

theorem vl7_of {k a b c : Int} (h : vlB k a b c = true) : loI k ≤ a ∧ a ≤ hiI k ∧ 0 ≤ b ∧ b ≤ hjI k ∧ 0 ≤ c ∧ c ≤ hkI k := of_decide_eq_true h
theorem fill7 {k a b c : Int} (hk : ¬ (k < 1 ∨ 10 < k)) (h : vlB k a b c = true) {m : Nat} (hm : mnI k = m) : at3 ([a, b, c].take m) 0 = a ∧ at3 ([a, b, c].take m) 1 = b ∧ at3 ([a, b, c].take m) 2 = c := by
  have hv := vl7_of h
  unfold hjI hkI at hv
  unfold mnI at hm
  rcases (show m = 1 ∨ m = 2 ∨ m = 3 by split at hm <;> (try split at hm) <;> (try split at hm) <;> omega) with rfl | rfl | rfl
  · have hb : b = 0 := by omega
    have hc : c = 0 := by omega
    exact ⟨rfl, hb.symm, hc.symm⟩
  · have hc : c = 0 := by omega
    exact ⟨rfl, rfl, hc.symm⟩
  · exact ⟨rfl, rfl, rfl⟩

/-- what is known of an event that may follow what was right -/
structure Okk (q0 t0 : Int) (ss : List ByteArray) (x : Ev) : Prop where
  k1 : 1 ≤ x.k
  k2 : x.k ≤ 10
  nm : nmB x.s = true
  vl : vlB x.k x.a x.b x.c = true
  t2 : x.t ≤ 1099511627776
  q2 : x.q ≤ 4294967296
  q : q0 < x.q
  t : t0 ≤ x.t
  q0 : 0 ≤ q0
  t0 : 0 ≤ t0
  pu : plc x.s ss = 0 → puE ss x.s = 0
  rg : rgB ss = true

theorem ch_zero {q t k : Int} {s : ByteArray} {a b c : Int} (h0 : chI q t k s a b c = 0) : ¬ (k < 1 ∨ 10 < k) ∧ nmB s = true ∧ vlB k a b c = true ∧ inB 0 1099511627776 t = true ∧ inB 0 4294967296 q = true := by
  rcases ch_all q t k s a b c with h | ⟨h, h1⟩ | ⟨h, h1, h2⟩ | ⟨h, h1, h2, hx⟩ | ⟨h, h1, h2, hx, hy⟩ | ⟨h, h1, h2, hx, hy⟩
  · rw [ch_kind h] at h0; omega
  · rw [ch_name h h1] at h0; omega
  · rw [ch_value h h1 h2] at h0; omega
  · rw [ch_time h h1 h2 hx] at h0; omega
  · rw [ch_seq h h1 h2 hx hy] at h0; omega
  · exact ⟨h, h1, h2, hx, hy⟩
theorem fl_ok {q0 t0 : Int} {ss : List ByteArray} {x : Ev} (hr : rcB q0 t0 ss = true) (h : flE q0 t0 ss x = 0) : Okk q0 t0 ss x := by
  obtain ⟨h1, h2, h3⟩ := (rc_iff q0 t0 ss).1 hr
  unfold flE at h
  by_cases hc : chI x.q x.t x.k x.s x.a x.b x.c = 0
  · rw [if_pos hc] at h
    obtain ⟨c1, c2, c3, c4, c5⟩ := ch_zero hc
    unfold inB at c4 c5
    have c4 := of_decide_eq_true c4
    have c5 := of_decide_eq_true c5
    by_cases hq : x.q ≤ q0
    · rw [if_pos hq] at h; omega
    · rw [if_neg hq] at h
      by_cases ht : x.t < t0
      · rw [if_pos ht] at h; omega
      · rw [if_neg ht] at h
        exact ⟨by omega, by omega, c2, c3, c4.2, c5.2, by omega, by omega, h1.1, h2.1, fun hp => by rw [if_pos hp] at h; exact h, h3⟩
  · rw [if_neg hc] at h; exact absurd h hc

theorem nm_in {x : Ev} (h : vlB x.k x.a x.b x.c = true) : ∀ n ∈ nmL x, 0 ≤ n ∧ n ≤ 2147483647 := by
  have hv := vl7_of h
  have h1 : 0 ≤ loI x.k := by unfold loI; split <;> omega
  have h2 : hiI x.k ≤ 2147483647 := by unfold hiI; split <;> (try split) <;> (try split) <;> omega
  have h3 : hjI x.k ≤ 2147483647 := by unfold hjI; split <;> omega
  have h4 : hkI x.k ≤ 2147483647 := by unfold hkI; split <;> omega
  intro n hn
  have := List.mem_of_mem_take hn
  simp only [List.mem_cons, List.not_mem_nil, or_false] at this
  rcases this with rfl | rfl | rfl <;> omega
theorem mn_le (k : Int) : 0 ≤ mnI k ∧ mnI k ≤ 3 := by unfold mnI; split <;> (try split) <;> (try split) <;> omega
theorem nm_len (x : Ev) : (nmL x).length = (mnI x.k).toNat := by
  have := mn_le x.k
  unfold nmL
  rw [List.length_take]
  simp
  omega
theorem lebs_len : ∀ (l : List Int), (∀ n ∈ l, 0 ≤ n ∧ n ≤ 2147483647) → (lebs l).length ≤ 5 * l.length
  | [], _ => by simp [lebs]
  | n :: r, h => by
    have ih := lebs_len r (fun x hx => h x (by simp [hx]))
    have h1 := h n (by simp)
    have h2 := leb_len n.toNat 4 (by omega)
    unfold lebs at ih ⊢
    rw [List.flatMap_cons, List.length_append, List.length_cons]
    omega
theorem lebs_bytes (l : List Int) : Bytes (lebs l) := by
  intro x hx
  unfold lebs at hx
  obtain ⟨n, -, h⟩ := List.mem_flatMap.1 hx
  exact leb_bytes _ x h
theorem Bytes.app {a b : List Int} (ha : Bytes a) (hb : Bytes b) : Bytes (a ++ b) := fun x hx => (List.mem_append.1 hx).elim (ha x) (hb x)
theorem nm_size {s : ByteArray} (h : nmB s = true) : 1 ≤ s.size ∧ s.size ≤ 24 := of_decide_eq_true h
theorem sp_bytes (q0 t0 : Int) (ss : List ByteArray) (x : Ev) : Bytes (spB q0 t0 ss x) := by
  unfold spB h4 tx
  refine Bytes.app (Bytes.app (Bytes.app (Bytes.app (Bytes.app (Bytes.app (fun _ h => by cases h) (leb_bytes _)) (leb_bytes _)) (leb_bytes _)) (leb_bytes _)) ?_) (lebs_bytes _)
  split
  · exact Bytes.app (leb_bytes _) (sI_bytes _)
  · exact fun _ h => by cases h
/-- how long its bytes are -/
theorem sp_len {q0 t0 : Int} {ss : List ByteArray} {x : Ev} (ok : Okk q0 t0 ss x) :
    (h4 q0 t0 ss x).length ≤ 13 ∧ (plc x.s ss ≠ 0 → (spB q0 t0 ss x).length ≤ 28) ∧ (plc x.s ss = 0 → x.s.size ≤ (spB q0 t0 ss x).length) ∧ (spB q0 t0 ss x).length ≤ 60 ∧ 1 ≤ (spB q0 t0 ss x).length := by
  have a1 := leb_len x.k.toNat 0 (by have := ok.k1; have := ok.k2; omega)
  have a2 := leb_len (x.q - q0).toNat 4 (by have := ok.q; have := ok.q2; have := ok.q0; omega)
  have a3 := leb_len (x.t - t0).toNat 5 (by have := ok.t; have := ok.t2; have := ok.t0; omega)
  have a4 := leb_len (plc x.s ss) 0 (by have := plc_le x.s ss; have := ((rgB_iff ss).1 ok.rg).1; omega)
  have a5 := lebs_len (nmL x) (nm_in ok.vl)
  have a6 : (nmL x).length ≤ 3 := by rw [nm_len]; have := mn_le x.k; omega
  have a7 := nm_size ok.nm
  have a8 := leb_len x.s.size 0 (by omega)
  have a9 := leb_pos x.k.toNat
  have e1 : (h4 q0 t0 ss x).length = (leb x.k.toNat).length + (leb (x.q - q0).toNat).length + (leb (x.t - t0).toNat).length + (leb (plc x.s ss)).length := by unfold h4; simp only [List.length_append, List.length_nil]; omega
  have e2 : (spB q0 t0 ss x).length = (h4 q0 t0 ss x).length + (tx ss x).length + (lebs (nmL x)).length := by unfold spB; simp only [List.length_append]
  by_cases h0 : plc x.s ss = 0
  · have e3 : (tx ss x).length = (leb x.s.size).length + x.s.size := by unfold tx; rw [if_pos h0, List.length_append, sI_len]
    refine ⟨by omega, fun h => absurd h0 h, fun _ => by omega, by omega, by omega⟩
  · have e3 : (tx ss x).length = 0 := by unfold tx; rw [if_neg h0]; rfl
    refine ⟨by omega, fun _ => by omega, fun h => absurd h h0, by omega, by omega⟩

/-- the cursor behind so many numbers, and the number there -/
def cu (zs : List Int) (p er : Int) : Nat → Int × Int
  | 0 => (p, er)
  | m + 1 => ((uintS zs (cu zs p er m).1 (cu zs p er m).2).1, (uintS zs (cu zs p er m).1 (cu zs p er m).2).2.1)
def va (zs : List Int) (p er : Int) (m : Nat) : Nat := (uintS zs (cu zs p er m).1 (cu zs p er m).2).2.2
theorem cu_zero (zs : List Int) (p er : Int) : cu zs p er 0 = (p, er) := rfl
theorem cu_succ {zs : List Int} {p er : Int} {m : Nat} {p1 e1 p2 e2 : Int} {v : Nat} (h : cu zs p er m = (p1, e1)) (hu : uintS zs p1 e1 = (p2, e2, v)) : cu zs p er (m + 1) = (p2, e2) ∧ va zs p er m = v := by
  unfold va
  simp only [cu, h, hu, and_self]
theorem lebs_nil : lebs [] = [] := rfl
theorem lebs_app (a b : List Int) : lebs (a ++ b) = lebs a ++ lebs b := by simp [lebs]
theorem lebs_one (n : Int) : lebs [n] = leb n.toNat := by simp [lebs]
theorem cu_lebs {L pre rest zs : List Int} (hz : zs = pre ++ (lebs L ++ rest)) (hL : ∀ n ∈ L, 0 ≤ n ∧ n ≤ 2147483647) :
    ∀ m, m ≤ L.length → cu zs ((pre.length : Nat) : Int) 0 m = ((((pre ++ lebs (L.take m)).length : Nat) : Int), 0) ∧ ∀ n, L[m]? = some n → va zs ((pre.length : Nat) : Int) 0 m = n.toNat := by
  have key : ∀ m n, L[m]? = some n → uintS zs (((pre ++ lebs (L.take m)).length : Nat) : Int) 0 = ((((pre ++ lebs (L.take (m + 1))).length : Nat) : Int), 0, n.toNat) := by
    intro m n hn
    have hlt : m < L.length := by
      rcases Nat.lt_or_ge m L.length with h | h
      · exact h
      · rw [List.getElem?_eq_none h] at hn; cases hn
    have hx : L[m] = n := by rw [List.getElem?_eq_getElem hlt] at hn; exact Option.some.inj hn
    have e1 : L.take (m + 1) = L.take m ++ [n] := by rw [List.take_succ_eq_append_getElem hlt, hx]
    have e2 : lebs L = lebs (L.take m) ++ (leb n.toNat ++ lebs (L.drop (m + 1))) := by
      rw [← lebs_one, ← lebs_app, ← lebs_app, ← List.append_assoc, ← e1, List.take_append_drop]
    have h1 := hL n (hx ▸ List.getElem_mem hlt)
    have h2 := uS_at (pre := pre ++ lebs (L.take m)) (rest := lebs (L.drop (m + 1)) ++ rest) (m := n.toNat) (by omega)
    have e3 : pre ++ lebs (L.take m) ++ (leb n.toNat ++ (lebs (L.drop (m + 1)) ++ rest)) = zs := by rw [hz, e2]; simp only [List.append_assoc]
    rw [e3] at h2
    rw [h2, e1, lebs_app, lebs_one, ← List.append_assoc]
    simp only [List.length_append]
  intro m
  induction m with
  | zero =>
    intro _
    have h0 : cu zs ((pre.length : Nat) : Int) 0 0 = ((((pre ++ lebs (L.take 0)).length : Nat) : Int), 0) := by simp [cu, lebs_nil]
    refine ⟨h0, fun n hn => ?_⟩
    exact (cu_succ h0 (key 0 n hn)).2
  | succ m ih =>
    intro hm
    obtain ⟨ih1, ih2⟩ := ih (by omega)
    have hn : L[m]? = some L[m] := List.getElem?_eq_getElem (by omega)
    have h1 := (cu_succ ih1 (key m _ hn)).1
    exact ⟨h1, fun n hn => (cu_succ h1 (key (m + 1) n hn)).2⟩

theorem i64_in {x : Int} (h0 : -9223372036854775808 ≤ x) (h1 : x ≤ 9223372036854775807) : Go.IntKind.i64.wrap x = x := by
  unfold Go.IntKind.wrap
  simp [Go.IntKind.bits, Go.IntKind.signed]
  omega

/-- what is read of an event's bytes, whatever stands behind them -/
theorem reads {q0 t0 : Int} {ss : List ByteArray} {x : Ev} (ok : Okk q0 t0 ss x) {zs rest : List Int} (hz : spB q0 t0 ss x ++ rest = zs) :
    ∃ n1 n2 n3 : Int, uintS zs 0 0 = (n1, 0, x.k.toNat) ∧ uintS zs n1 0 = (n2, 0, (x.q - q0).toNat) ∧ uintS zs n2 0 = (n3, 0, (x.t - t0).toNat) ∧ uintS zs n3 0 = ((((h4 q0 t0 ss x).length : Nat) : Int), 0, plc x.s ss) ∧
      (plc x.s ss = 0 → textS zs (((h4 q0 t0 ss x).length : Nat) : Int) 0 24 = ((((h4 q0 t0 ss x ++ tx ss x).length : Nat) : Int), 0, sI x.s)) ∧ (plc x.s ss ≠ 0 → h4 q0 t0 ss x ++ tx ss x = h4 q0 t0 ss x) ∧
      ∀ m, m ≤ (nmL x).length → cu zs (((h4 q0 t0 ss x ++ tx ss x).length : Nat) : Int) 0 m = ((((h4 q0 t0 ss x ++ tx ss x ++ lebs ((nmL x).take m)).length : Nat) : Int), 0) ∧ ∀ n, (nmL x)[m]? = some n → va zs (((h4 q0 t0 ss x ++ tx ss x).length : Nat) : Int) 0 m = n.toNat := by
  have b1 : x.k.toNat < 18446744073709551616 := by have := ok.k2; omega
  have b2 : (x.q - q0).toNat < 18446744073709551616 := by have := ok.q2; have := ok.q0; omega
  have b3 : (x.t - t0).toNat < 18446744073709551616 := by have := ok.t2; have := ok.t0; omega
  have b4 : plc x.s ss < 18446744073709551616 := by have := plc_le x.s ss; have := ((rgB_iff ss).1 ok.rg).1; omega
  have hs := nm_size ok.nm
  obtain ⟨K, hK⟩ : ∃ K, leb x.k.toNat = K := ⟨_, rfl⟩
  have u1 := uS_at (pre := []) (rest := leb (x.q - q0).toNat ++ (leb (x.t - t0).toNat ++ (leb (plc x.s ss) ++ (tx ss x ++ (lebs (nmL x) ++ rest))))) b1
  have u2 := uS_at (pre := [] ++ leb x.k.toNat) (rest := leb (x.t - t0).toNat ++ (leb (plc x.s ss) ++ (tx ss x ++ (lebs (nmL x) ++ rest)))) b2
  have u3 := uS_at (pre := ([] ++ leb x.k.toNat) ++ leb (x.q - q0).toNat) (rest := leb (plc x.s ss) ++ (tx ss x ++ (lebs (nmL x) ++ rest))) b3
  have u4 := uS_at (pre := (([] ++ leb x.k.toNat) ++ leb (x.q - q0).toNat) ++ leb (x.t - t0).toNat) (rest := tx ss x ++ (lebs (nmL x) ++ rest)) b4
  have e0 : zs = h4 q0 t0 ss x ++ (tx ss x ++ (lebs (nmL x) ++ rest)) := by rw [← hz]; unfold spB; simp only [List.append_assoc]
  have e1 : [] ++ (leb x.k.toNat ++ (leb (x.q - q0).toNat ++ (leb (x.t - t0).toNat ++ (leb (plc x.s ss) ++ (tx ss x ++ (lebs (nmL x) ++ rest)))))) = zs := by rw [e0]; unfold h4; simp only [List.append_assoc, List.nil_append]
  have e2 : [] ++ leb x.k.toNat ++ (leb (x.q - q0).toNat ++ (leb (x.t - t0).toNat ++ (leb (plc x.s ss) ++ (tx ss x ++ (lebs (nmL x) ++ rest))))) = zs := by rw [e0]; unfold h4; simp only [List.append_assoc, List.nil_append]
  have e3 : [] ++ leb x.k.toNat ++ leb (x.q - q0).toNat ++ (leb (x.t - t0).toNat ++ (leb (plc x.s ss) ++ (tx ss x ++ (lebs (nmL x) ++ rest)))) = zs := by rw [e0]; unfold h4; simp only [List.append_assoc, List.nil_append]
  have e4 : [] ++ leb x.k.toNat ++ leb (x.q - q0).toNat ++ leb (x.t - t0).toNat ++ (leb (plc x.s ss) ++ (tx ss x ++ (lebs (nmL x) ++ rest))) = zs := by rw [e0]; unfold h4; simp only [List.append_assoc, List.nil_append]
  rw [e1] at u1
  rw [e2, List.length_append] at u2
  rw [e3, List.length_append, List.length_append] at u3
  rw [e4] at u4
  rw [← List.length_append] at u4
  refine ⟨_, _, _, u1, u2, u3, ?_, ?_, ?_, ?_⟩
  · simp only [List.length_append] at u4 ⊢
    unfold h4
    simp only [List.length_append]
    exact u4
  · intro h0
    have e5 : tx ss x = leb (sI x.s).length ++ sI x.s := by unfold tx; rw [if_pos h0, sI_len]
    have h := tx_at (pre := h4 q0 t0 ss x) (rest := lebs (nmL x) ++ rest) (s := sI x.s) (most := 24) (by rw [sI_len]; omega) (by rw [sI_len]; omega)
    rw [← e5, ← e0, ← List.length_append] at h
    exact h
  · intro h0
    unfold tx
    rw [if_neg h0, List.append_nil]
  · exact cu_lebs (rest := rest) (by rw [e0]; simp only [List.append_assoc]) (nm_in ok.vl)
end Go.Proofs.YtondnbnaoacanaaGreatDoor
/- Layer 7: what is read of bytes, and whose bytes they are: plain words. -/
namespace Go.Proofs.YtondnbnaoacanaaGreatDoor
open Fb
open Go (IntKind)

/-- what was read is the event whose bytes stand there, if there is one -/
theorem rd_eq {q0 t0 : Int} {ss : List ByteArray} {zs L : List Int} {p1 e1 p2 e2 p3 e3 p4 e4 p5 e5 : Int} {v1 v2 v3 v4 : Nat} {s : ByteArray}
    (hu1 : uintS zs 0 0 = (p1, e1, v1)) (hu2 : uintS zs p1 e1 = (p2, e2, v2)) (hu3 : uintS zs p2 e2 = (p3, e3, v3)) (hu4 : uintS zs p3 e3 = (p4, e4, v4))
    (hn : v4 = 0 → ∃ bs, textS zs p4 e4 24 = (p5, e5, bs) ∧ s = strOfNums bs) (hm : v4 ≠ 0 → p5 = p4 ∧ e5 = e4 ∧ ∀ z, ss[v4 - 1]? = some z → s = z)
    (hL : L = (List.range (mnI (IntKind.i64.wrap v1)).toNat).map fun j => IntKind.i64.wrap (va zs p5 e5 j))
    {y : Ev} (ok : Okk q0 t0 ss y) {rest : List Int} (hz : spB q0 t0 ss y ++ rest = zs) :
    (⟨IntKind.i64.wrap (q0 + IntKind.i64.wrap v2), IntKind.i64.wrap (t0 + IntKind.i64.wrap v3), IntKind.i64.wrap v1, s, at3 L 0, at3 L 1, at3 L 2⟩ : Ev) = y ∧
    v1 = y.k.toNat ∧ v2 = (y.q - q0).toNat ∧ v3 = (y.t - t0).toNat ∧ v4 = plc y.s ss ∧ e4 = 0 ∧ e5 = 0 ∧ p5 = (((h4 q0 t0 ss y ++ tx ss y).length : Nat) : Int) ∧ s = y.s := by
  obtain ⟨n1, n2, n3, r1, r2, r3, r4, r5, r6, r7⟩ := reads ok hz
  rw [hu1] at r1
  simp only [Prod.mk.injEq] at r1
  obtain ⟨rfl, rfl, rfl⟩ := r1
  rw [hu2] at r2
  simp only [Prod.mk.injEq] at r2
  obtain ⟨rfl, rfl, rfl⟩ := r2
  rw [hu3] at r3
  simp only [Prod.mk.injEq] at r3
  obtain ⟨rfl, rfl, rfl⟩ := r3
  rw [hu4] at r4
  simp only [Prod.mk.injEq] at r4
  obtain ⟨rfl, rfl, rfl⟩ := r4
  have hs : s = y.s ∧ p5 = (((h4 q0 t0 ss y ++ tx ss y).length : Nat) : Int) ∧ e5 = 0 := by
    by_cases h0 : plc y.s ss = 0
    · obtain ⟨bs, h1, h2⟩ := hn h0
      rw [r5 h0] at h1
      simp only [Prod.mk.injEq] at h1
      obtain ⟨rfl, rfl, rfl⟩ := h1
      exact ⟨by rw [h2, str_sI], rfl, rfl⟩
    · obtain ⟨h1, h2, h3⟩ := hm h0
      exact ⟨h3 _ (plc_at y.s ss (by omega)), by rw [h1, r6 h0], h2⟩
  obtain ⟨rfl, rfl, rfl⟩ := hs
  have k1 : IntKind.i64.wrap (y.k.toNat : Nat) = y.k := by have := ok.k1; have := ok.k2; rw [i64_in (by omega) (by omega)]; omega
  have k2 : IntKind.i64.wrap ((y.q - q0).toNat : Nat) = y.q - q0 := by have := ok.q; have := ok.q2; have := ok.q0; rw [i64_in (by omega) (by omega)]; omega
  have k3 : IntKind.i64.wrap ((y.t - t0).toNat : Nat) = y.t - t0 := by have := ok.t; have := ok.t2; have := ok.t0; rw [i64_in (by omega) (by omega)]; omega
  have k4 : IntKind.i64.wrap (q0 + (y.q - q0)) = y.q := by have := ok.q; have := ok.q2; have := ok.q0; rw [i64_in (by omega) (by omega)]; omega
  have k5 : IntKind.i64.wrap (t0 + (y.t - t0)) = y.t := by have := ok.t; have := ok.t2; have := ok.t0; rw [i64_in (by omega) (by omega)]; omega
  have hLn : L = nmL y := by
    rw [hL, k1, ← nm_len]
    apply List.ext_getElem?
    intro j
    rcases Nat.lt_or_ge j (nmL y).length with h | h
    · have hj : (nmL y)[j]? = some (nmL y)[j] := List.getElem?_eq_getElem h
      have h1 := (r7 j (by omega)).2 _ hj
      have h2 := nm_in ok.vl _ (List.getElem_mem h)
      rw [List.getElem?_map, List.getElem?_range h, hj, Option.map_some, h1, i64_in (by omega) (by omega)]
      congr 1
      omega
    · rw [List.getElem?_eq_none (by simpa using h), List.getElem?_eq_none h]
  have hf := fill7 (k := y.k) (a := y.a) (b := y.b) (c := y.c) (by have := ok.k1; have := ok.k2; omega) ok.vl (m := (mnI y.k).toNat) (by have := mn_le y.k; omega)
  have hf1 : at3 L 0 = y.a ∧ at3 L 1 = y.b ∧ at3 L 2 = y.c := by rw [hLn]; exact hf
  rw [k1, k2, k3, k4, k5, hf1.1, hf1.2.1, hf1.2.2]
  exact ⟨rfl, rfl, rfl, rfl, rfl, rfl, rfl, rfl, rfl⟩

/-- no event's bytes begin another one's -/
theorem sp_pre {q0 t0 : Int} {ss : List ByteArray} {x y : Ev} (hx : Okk q0 t0 ss x) (hy : Okk q0 t0 ss y) {r r' : List Int} (h : spB q0 t0 ss x ++ r = spB q0 t0 ss y ++ r') : x = y ∧ r = r' := by
  have e : x = y := by
    obtain ⟨zs, hz⟩ : ∃ zs, spB q0 t0 ss x ++ r = zs := ⟨_, rfl⟩
    have hz' := h.symm.trans hz
    obtain ⟨p1, e1, v1, hu1⟩ : ∃ p1 e1 v1, uintS zs 0 0 = (p1, e1, v1) := ⟨_, _, _, rfl⟩
    obtain ⟨p2, e2, v2, hu2⟩ : ∃ p2 e2 v2, uintS zs p1 e1 = (p2, e2, v2) := ⟨_, _, _, rfl⟩
    obtain ⟨p3, e3, v3, hu3⟩ : ∃ p3 e3 v3, uintS zs p2 e2 = (p3, e3, v3) := ⟨_, _, _, rfl⟩
    obtain ⟨p4, e4, v4, hu4⟩ : ∃ p4 e4 v4, uintS zs p3 e3 = (p4, e4, v4) := ⟨_, _, _, rfl⟩
    obtain ⟨p5, e5, s, hn, hm⟩ : ∃ (p5 e5 : Int) (s : ByteArray), (v4 = 0 → ∃ bs, textS zs p4 e4 24 = (p5, e5, bs) ∧ s = strOfNums bs) ∧ (v4 ≠ 0 → p5 = p4 ∧ e5 = e4 ∧ ∀ z, ss[v4 - 1]? = some z → s = z) := by
      by_cases h0 : v4 = 0
      · exact ⟨_, _, _, fun _ => ⟨_, rfl, rfl⟩, fun h1 => absurd h0 h1⟩
      · exact ⟨p4, e4, (ss[v4 - 1]?).getD default, fun h1 => absurd h1 h0, fun _ => ⟨rfl, rfl, fun z hz => by rw [hz]; rfl⟩⟩
    have a := (rd_eq hu1 hu2 hu3 hu4 hn hm rfl hx hz).1
    have b := (rd_eq hu1 hu2 hu3 hu4 hn hm rfl hy hz').1
    exact a.symm.trans b
  subst e
  exact ⟨rfl, List.append_cancel_left h⟩
theorem Fo_one {q0 t0 : Int} {ss : List ByteArray} {x y : Ev} {zs : List Int} (hr : rcB q0 t0 ss = true) (hx : Fo q0 t0 ss x zs) (hy : Fo q0 t0 ss y zs) : x = y :=
  (sp_pre (r := []) (r' := []) (fl_ok hr hx.1) (fl_ok hr hy.1) (by rw [hx.2, hy.2])).1
/-- what stands behind an event is right -/
theorem rc_next {q0 t0 : Int} {ss : List ByteArray} {x : Ev} (hr : rcB q0 t0 ss = true) (h : flE q0 t0 ss x = 0) : rcB x.q x.t (flL ss x) = true := by
  have ok := fl_ok hr h
  rw [rc_iff]
  refine ⟨⟨by have := ok.q; have := ok.q0; omega, ok.q2⟩, ⟨by have := ok.t; have := ok.t0; omega, ok.t2⟩, ?_⟩
  unfold flL
  split
  · exact puL_right ok.rg
  · exact ok.rg

/-! what Encode and Decode answer -/
def enE (q0 t0 : Int) (ss : List ByteArray) (x : Ev) : Int := if rcB q0 t0 ss = true then flE q0 t0 ss x else 1
def enB (q0 t0 : Int) (ss : List ByteArray) (x : Ev) : List Int := if enE q0 t0 ss x = 0 then spB q0 t0 ss x else []
def enQ (q0 t0 : Int) (ss : List ByteArray) (x : Ev) : Int := if enE q0 t0 ss x = 0 then x.q else q0
def enT (q0 t0 : Int) (ss : List ByteArray) (x : Ev) : Int := if enE q0 t0 ss x = 0 then x.t else t0
def enL (q0 t0 : Int) (ss : List ByteArray) (x : Ev) : List ByteArray := if enE q0 t0 ss x = 0 then flL ss x else ss
theorem en_zero {q0 t0 : Int} {ss : List ByteArray} {x : Ev} (h : enE q0 t0 ss x = 0) : rcB q0 t0 ss = true ∧ flE q0 t0 ss x = 0 ∧ enB q0 t0 ss x = spB q0 t0 ss x ∧ enQ q0 t0 ss x = x.q ∧ enT q0 t0 ss x = x.t ∧ enL q0 t0 ss x = flL ss x := by
  have h1 : rcB q0 t0 ss = true ∧ flE q0 t0 ss x = 0 := by
    unfold enE at h
    by_cases hr : rcB q0 t0 ss = true
    · rw [if_pos hr] at h; exact ⟨hr, h⟩
    · rw [if_neg hr] at h; omega
  refine ⟨h1.1, h1.2, ?_, ?_, ?_, ?_⟩
  · unfold enB; rw [if_pos h]
  · unfold enQ; rw [if_pos h]
  · unfold enT; rw [if_pos h]
  · unfold enL; rw [if_pos h]
theorem en_not {q0 t0 : Int} {ss : List ByteArray} {x : Ev} (h : enE q0 t0 ss x ≠ 0) : enB q0 t0 ss x = [] ∧ enQ q0 t0 ss x = q0 ∧ enT q0 t0 ss x = t0 ∧ enL q0 t0 ss x = ss := by
  refine ⟨?_, ?_, ?_, ?_⟩
  · unfold enB; rw [if_neg h]
  · unfold enQ; rw [if_neg h]
  · unfold enT; rw [if_neg h]
  · unfold enL; rw [if_neg h]

/-- are these bytes an event's? -/
def deO (q0 t0 : Int) (ss : List ByteArray) (zs : List Int) : Prop := rcB q0 t0 ss = true ∧ ∃ y, Fo q0 t0 ss y zs
def ev0 : Ev := ⟨0, 0, 0, ⟨#[]⟩, 0, 0, 0⟩
open Classical in
noncomputable def deX (q0 t0 : Int) (ss : List ByteArray) (zs : List Int) : Ev := if h : deO q0 t0 ss zs then h.2.choose else ev0
open Classical in
noncomputable def deE (q0 t0 : Int) (ss : List ByteArray) (zs : List Int) : Int := if deO q0 t0 ss zs then 0 else if rcB q0 t0 ss = true then 11 else 1
open Classical in
noncomputable def deQ (q0 t0 : Int) (ss : List ByteArray) (zs : List Int) : Int := if deO q0 t0 ss zs then (deX q0 t0 ss zs).q else q0
open Classical in
noncomputable def deT (q0 t0 : Int) (ss : List ByteArray) (zs : List Int) : Int := if deO q0 t0 ss zs then (deX q0 t0 ss zs).t else t0
open Classical in
noncomputable def deL (q0 t0 : Int) (ss : List ByteArray) (zs : List Int) : List ByteArray := if deO q0 t0 ss zs then flL ss (deX q0 t0 ss zs) else ss
theorem de_yes {q0 t0 : Int} {ss : List ByteArray} {zs : List Int} {y : Ev} (hr : rcB q0 t0 ss = true) (h : Fo q0 t0 ss y zs) :
    deX q0 t0 ss zs = y ∧ deE q0 t0 ss zs = 0 ∧ deQ q0 t0 ss zs = y.q ∧ deT q0 t0 ss zs = y.t ∧ deL q0 t0 ss zs = flL ss y := by
  have ho : deO q0 t0 ss zs := ⟨hr, y, h⟩
  have e : deX q0 t0 ss zs = y := by
    unfold deX
    rw [dif_pos ho]
    exact Fo_one hr ho.2.choose_spec h
  refine ⟨e, ?_, ?_, ?_, ?_⟩
  · unfold deE; rw [if_pos ho]
  · unfold deQ; rw [if_pos ho, e]
  · unfold deT; rw [if_pos ho, e]
  · unfold deL; rw [if_pos ho, e]
theorem de_not {q0 t0 : Int} {ss : List ByteArray} {zs : List Int} (h : ¬ deO q0 t0 ss zs) :
    deX q0 t0 ss zs = ev0 ∧ deE q0 t0 ss zs = (if rcB q0 t0 ss = true then 11 else 1) ∧ deQ q0 t0 ss zs = q0 ∧ deT q0 t0 ss zs = t0 ∧ deL q0 t0 ss zs = ss := by
  refine ⟨?_, ?_, ?_, ?_, ?_⟩
  · unfold deX; rw [dif_neg h]
  · unfold deE; rw [if_neg h]
  · unfold deQ; rw [if_neg h]
  · unfold deT; rw [if_neg h]
  · unfold deL; rw [if_neg h]
theorem de_none {q0 t0 : Int} {ss : List ByteArray} {zs : List Int} (hr : rcB q0 t0 ss = true) (h : ∀ y, ¬ Fo q0 t0 ss y zs) :
    deX q0 t0 ss zs = ev0 ∧ deE q0 t0 ss zs = 11 ∧ deQ q0 t0 ss zs = q0 ∧ deT q0 t0 ss zs = t0 ∧ deL q0 t0 ss zs = ss := by
  have := de_not (fun ho : deO q0 t0 ss zs => h _ ho.2.choose_spec)
  rwa [if_pos hr] at this
theorem de_bad {q0 t0 : Int} {ss : List ByteArray} {zs : List Int} (hr : rcB q0 t0 ss = false) :
    deX q0 t0 ss zs = ev0 ∧ deE q0 t0 ss zs = 1 ∧ deQ q0 t0 ss zs = q0 ∧ deT q0 t0 ss zs = t0 ∧ deL q0 t0 ss zs = ss := by
  have := de_not (fun ho : deO q0 t0 ss zs => by rw [ho.1] at hr; cases hr)
  rwa [if_neg (by simp [hr])] at this
theorem de_zero {q0 t0 : Int} {ss : List ByteArray} {zs : List Int} (h : deE q0 t0 ss zs = 0) : rcB q0 t0 ss = true ∧ Fo q0 t0 ss (deX q0 t0 ss zs) zs := by
  by_cases ho : deO q0 t0 ss zs
  · refine ⟨ho.1, ?_⟩
    unfold deX
    rw [dif_pos ho]
    exact ho.2.choose_spec
  · rw [(de_not ho).2.1] at h
    split at h <;> omega
end Go.Proofs.YtondnbnaoacanaaGreatDoor
