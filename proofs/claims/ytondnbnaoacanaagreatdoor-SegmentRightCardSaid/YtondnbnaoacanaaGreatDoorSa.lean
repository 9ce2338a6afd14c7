/- Texts laid together: SegM, SegN, SegO. -/
import Derived.Test.YtondnbnaoacanaaGreatDoorFa
import Derived.Test.YtondnbnaoacanaaGreatDoorCa
/- Layer 9, plain: a segment's bytes, and how far some bytes are the beginning of a segment's. -/
namespace Go.Proofs.YtondnbnaoacanaaGreatDoor
open Fb

/-- what was ahead of an event -/
structure Ahd where
  q : Int
  t : Int
  l : List ByteArray
def Ahd.rc (c : Ahd) : Bool := rcB c.q c.t c.l
def Ahd.nx (c : Ahd) (x : Ev) : Ahd := ⟨x.q, x.t, flL c.l x⟩
def Ahd.fl (c : Ahd) (x : Ev) : Int := flE c.q c.t c.l x
def Ahd.sp (c : Ahd) (x : Ev) : List Int := spB c.q c.t c.l x
/-- events in a row: their frames, what stands behind them, whether each may follow -/
def evB (c : Ahd) : List Ev → List Int
  | [] => []
  | x :: l => frB 2 (c.sp x) ++ evB (c.nx x) l
def bhC (c : Ahd) : List Ev → Ahd
  | [] => c
  | x :: l => bhC (c.nx x) l
def okL (c : Ahd) : List Ev → Prop
  | [] => True
  | x :: l => c.fl x = 0 ∧ okL (c.nx x) l
def mayN (n : Int) : Prop := 1 ≤ n ∧ n ≤ 99999999
/-- payloads of a Head and of a Seal, and their frames -/
def hpB (n : Int) (c : Ahd) : List Int := (([102, 98, 120, 49] ++ leb n.toNat) ++ leb c.q.toNat) ++ leb c.t.toNat
def zpB (m : Nat) (c : Ahd) : List Int := (([] ++ leb m) ++ leb c.q.toNat) ++ leb c.t.toNat
def sgH (n : Int) (c : Ahd) : List Int := frB 1 (hpB n c)
def sgZ (m : Nat) (c : Ahd) : List Int := frB 3 (zpB m c)
/-- a segment's bytes -/
def mkB (n : Int) (c : Ahd) (l : List Ev) (sd : Bool) : List Int := (sgH n c ++ evB c l) ++ (if sd then sgZ l.length (bhC c l) else [])
/-- why there is none; 0: there is -/
def errL (c : Ahd) : List Ev → Int
  | [] => 0
  | x :: l => if c.fl x = 0 then errL (c.nx x) l else c.fl x

theorem evB_app (c : Ahd) (a b : List Ev) : evB c (a ++ b) = evB c a ++ evB (bhC c a) b := by
  induction a generalizing c with
  | nil => rfl
  | cons x a ih => simp only [List.cons_append, evB, bhC, ih, List.append_assoc]
theorem bhC_app (c : Ahd) (a b : List Ev) : bhC c (a ++ b) = bhC (bhC c a) b := by
  induction a generalizing c with
  | nil => rfl
  | cons x a ih => simp only [List.cons_append, bhC, ih]
theorem okL_app (c : Ahd) (a b : List Ev) : okL c (a ++ b) ↔ okL c a ∧ okL (bhC c a) b := by
  induction a generalizing c with
  | nil => simp [okL, bhC]
  | cons x a ih => simp only [List.cons_append, okL, bhC, ih, and_assoc]
theorem okL_one (c : Ahd) (x : Ev) : okL c [x] ↔ c.fl x = 0 := by simp [okL]
theorem evB_one (c : Ahd) (x : Ev) : evB c [x] = frB 2 (c.sp x) := by simp [evB]
theorem rc_bh {c : Ahd} {l : List Ev} (hr : c.rc = true) (h : okL c l) : (bhC c l).rc = true := by
  induction l generalizing c with
  | nil => exact hr
  | cons x l ih => exact ih (rc_next hr h.1) h.2
theorem errL_ok {c : Ahd} {l : List Ev} : errL c l = 0 ↔ okL c l := by
  induction l generalizing c with
  | nil => simp [errL, okL]
  | cons x l ih =>
    unfold errL okL
    by_cases h : c.fl x = 0
    · rw [if_pos h, ih]; exact ⟨fun k => ⟨h, k⟩, fun k => k.2⟩
    · rw [if_neg h]; exact ⟨fun k => absurd k h, fun k => absurd k.1 h⟩
theorem errL_app {c : Ahd} {a : List Ev} (h : okL c a) (b : List Ev) : errL c (a ++ b) = errL (bhC c a) b := by
  induction a generalizing c with
  | nil => rfl
  | cons x a ih => show (if c.fl x = 0 then errL (c.nx x) (a ++ b) else c.fl x) = _; rw [if_pos h.1]; exact ih h.2

/-- sizes -/
theorem hp_len {n : Int} {c : Ahd} (hn : n ≤ 99999999) (hq : c.q ≤ 4294967296) (ht : c.t ≤ 1099511627776) : (hpB n c).length ≤ 200 := by
  have h1 := leb_ten (n := n.toNat) (by omega)
  have h2 := leb_ten (n := c.q.toNat) (by omega)
  have h3 := leb_ten (n := c.t.toNat) (by omega)
  simp only [hpB, List.length_append, List.length_cons, List.length_nil]
  omega
theorem zp_len {m : Nat} {c : Ahd} (hm : m < 18446744073709551616) (hq : c.q ≤ 4294967296) (ht : c.t ≤ 1099511627776) : (zpB m c).length ≤ 200 := by
  have h1 := leb_ten hm
  have h2 := leb_ten (n := c.q.toNat) (by omega)
  have h3 := leb_ten (n := c.t.toNat) (by omega)
  simp only [zpB, List.length_append, List.length_nil]
  omega
theorem rc_q {c : Ahd} (h : c.rc = true) : 0 ≤ c.q ∧ c.q ≤ 4294967296 ∧ 0 ≤ c.t ∧ c.t ≤ 1099511627776 := by
  have := (rc_iff _ _ _).1 h
  omega
theorem sp_200 {c : Ahd} {x : Ev} (hr : c.rc = true) (h : c.fl x = 0) : (c.sp x).length ≤ 200 := by
  have := sp_len (fl_ok hr h)
  unfold Ahd.sp
  omega
theorem hp_bytes (n : Int) (c : Ahd) : Bytes (hpB n c) := by
  refine bytes_append (bytes_append (bytes_append ?_ (leb_bytes _)) (leb_bytes _)) (leb_bytes _)
  intro x hx
  simp only [List.mem_cons, List.not_mem_nil, or_false] at hx
  omega
theorem zp_bytes (m : Nat) (c : Ahd) : Bytes (zpB m c) := bytes_append (bytes_append (bytes_append (fun x hx => by cases hx) (leb_bytes _)) (leb_bytes _)) (leb_bytes _)

/-- a number's bytes are no beginning of another one's -/
theorem leb_pre {m n : Nat} {r s : List Int} (h : leb m ++ r = leb n ++ s) : m = n ∧ r = s := by
  have h1 := fi_leb m r
  have h2 := fi_leb n s
  rw [h] at h1
  have hl : (leb m).length = (leb n).length := by omega
  obtain ⟨h3, h4⟩ := List.append_inj h hl
  refine ⟨?_, h4⟩
  have := congrArg vl h3
  rwa [vl_leb, vl_leb] at this
theorem hp_inj {n n' : Int} {c c' : Ahd} (hn : mayN n) (hn' : mayN n') (hr : c.rc = true) (hr' : c'.rc = true) (hl : c.l = []) (hl' : c'.l = []) (h : hpB n c = hpB n' c') : n = n' ∧ c = c' := by
  unfold hpB at h
  simp only [List.append_assoc] at h
  have h1 := List.append_cancel_left h
  obtain ⟨e1, h2⟩ := leb_pre h1
  obtain ⟨e2, h3⟩ := leb_pre h2
  have h4 : leb c.t.toNat ++ [] = leb c'.t.toNat ++ [] := by simpa using h3
  obtain ⟨e3, -⟩ := leb_pre h4
  have q1 := rc_q hr
  have q2 := rc_q hr'
  obtain ⟨n1, n2⟩ := hn
  obtain ⟨n3, n4⟩ := hn'
  obtain ⟨cq, ct, cl⟩ := c
  obtain ⟨cq', ct', cl'⟩ := c'
  simp only at *
  subst hl hl'
  have a1 : n = n' := by omega
  have a2 : cq = cq' := by omega
  have a3 : ct = ct' := by omega
  subst a1 a2 a3
  exact ⟨rfl, rfl⟩
/-- frames are told by their bytes, whatever is behind them -/
theorem fr_eq {k k' : Int} {z z' r r' : List Int} (hk : 1 ≤ k ∧ k ≤ 3) (hk' : 1 ≤ k' ∧ k' ≤ 3) (hz : z.length ≤ 200) (hz' : z'.length ≤ 200) (h : frB k z ++ r = frB k' z' ++ r') : k = k' ∧ z = z' ∧ r = r' := by
  obtain ⟨-, -, p1, k1⟩ := fi_frame (rest := r) hk hz
  obtain ⟨-, -, p2, k2⟩ := fi_frame (rest := r') hk' hz'
  rw [h] at p1 k1
  obtain rfl : z = z' := p1.symm.trans p2
  obtain rfl : k = k' := k1.symm.trans k2
  exact ⟨rfl, rfl, List.append_cancel_left h⟩
theorem fr_pos (k : Int) (z : List Int) : 7 ≤ (frB k z).length := by rw [frB_len]; omega

/-- how far some bytes were read as a segment's -/
structure Sc where
  num : Int
  before : Ahd
  evs : List Ev
  after : Ahd
  size : Nat
  sd : Bool
def sc0 : Sc := ⟨0, ⟨0, 0, []⟩, [], ⟨0, 0, []⟩, 0, false⟩
/-- a frame's bytes take what was read further -/
inductive Nxt (s : Sc) (F : List Int) : Sc → Prop
  | head (n : Int) (c : Ahd) (h0 : s.num = 0) (hn : mayN n) (hr : c.rc = true) (hl : c.l = []) (hF : F = sgH n c) : Nxt s F ⟨n, c, [], c, s.size + F.length, false⟩
  | event (x : Ev) (h0 : s.num ≠ 0) (hr : s.after.rc = true) (hx : s.after.fl x = 0) (hF : F = frB 2 (s.after.sp x)) : Nxt s F ⟨s.num, s.before, s.evs ++ [x], s.after.nx x, s.size + F.length, false⟩
  | shut (h0 : s.num ≠ 0) (hr : s.after.rc = true) (hm : s.evs.length < 18446744073709551616) (hF : F = sgZ s.evs.length s.after) : Nxt s F ⟨s.num, s.before, s.evs, s.after, s.size + F.length, true⟩
/-- the next step over some bytes -/
def Stp (b : List Int) (s s' : Sc) : Prop := s.sd = false ∧ s.size ≤ b.length ∧ ∃ F r, b.drop s.size = F ++ r ∧ Nxt s F s'
theorem Nxt.frame {s s' : Sc} {F : List Int} (h : Nxt s F s') : ∃ k z, (1 ≤ k ∧ k ≤ 3) ∧ z.length ≤ 200 ∧ F = frB k z := by
  cases h with
  | head n c h0 hn hr hl hF => exact ⟨1, _, by omega, hp_len hn.2 (rc_q hr).2.1 (rc_q hr).2.2.2, hF⟩
  | event x h0 hr hx hF => exact ⟨2, _, by omega, sp_200 hr hx, hF⟩
  | shut h0 hr hm hF => exact ⟨3, _, by omega, zp_len hm (rc_q hr).2.1 (rc_q hr).2.2.2, hF⟩
theorem Nxt.one {s s1 s2 : Sc} {F : List Int} (h1 : Nxt s F s1) (h2 : Nxt s F s2) : s1 = s2 := by
  cases h1 with
  | head n c h0 hn hr hl hF =>
    cases h2 with
    | head n' c' h0' hn' hr' hl' hF' =>
      have e : frB 1 (hpB n c) ++ [] = frB 1 (hpB n' c') ++ [] := by simp only [List.append_nil]; exact hF.symm.trans hF'
      obtain ⟨-, h3, -⟩ := fr_eq (by omega) (by omega) (hp_len hn.2 (rc_q hr).2.1 (rc_q hr).2.2.2) (hp_len hn'.2 (rc_q hr').2.1 (rc_q hr').2.2.2) e
      obtain ⟨rfl, rfl⟩ := hp_inj hn hn' hr hr' hl hl' h3
      rfl
    | event x h0' => exact absurd h0 h0'
    | shut h0' => exact absurd h0 h0'
  | event x h0 hr hx hF =>
    cases h2 with
    | head n' c' h0' => exact absurd h0' h0
    | event x' h0' hr' hx' hF' =>
      have e : frB 2 (s.after.sp x) ++ [] = frB 2 (s.after.sp x') ++ [] := by simp only [List.append_nil]; exact hF.symm.trans hF'
      obtain ⟨-, h3, -⟩ := fr_eq (by omega) (by omega) (sp_200 hr hx) (sp_200 hr hx') e
      have h4 : spB s.after.q s.after.t s.after.l x ++ [] = spB s.after.q s.after.t s.after.l x' ++ [] := by simp only [List.append_nil]; exact h3
      obtain ⟨rfl, -⟩ := sp_pre (fl_ok hr hx) (fl_ok hr hx') h4
      rfl
    | shut h0' hr' hm' hF' =>
      exfalso
      have e : frB 2 (s.after.sp x) ++ [] = frB 3 (zpB s.evs.length s.after) ++ [] := by simp only [List.append_nil]; exact hF.symm.trans hF'
      obtain ⟨h3, -, -⟩ := fr_eq (by omega) (by omega) (sp_200 hr hx) (zp_len hm' (rc_q hr).2.1 (rc_q hr).2.2.2) e
      omega
  | shut h0 hr hm hF =>
    cases h2 with
    | head n' c' h0' => exact absurd h0' h0
    | event x' h0' hr' hx' hF' =>
      exfalso
      have e : frB 2 (s.after.sp x') ++ [] = frB 3 (zpB s.evs.length s.after) ++ [] := by simp only [List.append_nil]; exact hF'.symm.trans hF
      obtain ⟨h3, -, -⟩ := fr_eq (by omega) (by omega) (sp_200 hr' hx') (zp_len hm (rc_q hr).2.1 (rc_q hr).2.2.2) e
      omega
    | shut => rfl
theorem Stp.one {b : List Int} {s s1 s2 : Sc} (h1 : Stp b s s1) (h2 : Stp b s s2) : s1 = s2 := by
  obtain ⟨-, -, F, r, e, n1⟩ := h1
  obtain ⟨-, -, F', r', e', n2⟩ := h2
  obtain ⟨k, z, hk, hz, rfl⟩ := n1.frame
  obtain ⟨k', z', hk', hz', rfl⟩ := n2.frame
  obtain ⟨rfl, rfl, -⟩ := fr_eq hk hk' hz hz' (e.symm.trans e')
  exact n1.one n2
theorem Nxt.size {s s' : Sc} {F : List Int} (h : Nxt s F s') : s'.size = s.size + F.length := by cases h <;> rfl
theorem Nxt.num {s s' : Sc} {F : List Int} (h : Nxt s F s') : s'.num ≠ 0 := by
  cases h with
  | head n c h0 hn => have := hn.1; show n ≠ 0; omega
  | event x h0 => exact h0
  | shut h0 => exact h0

/-- steps, one behind the other -/
inductive Stps (b : List Int) : Sc → Sc → Prop
  | none (s : Sc) : Stps b s s
  | more {s s1 s2 : Sc} : Stps b s s1 → Stp b s1 s2 → Stps b s s2
def Rch (b : List Int) (s : Sc) : Prop := Stps b sc0 s
theorem Stps.trans {b : List Int} {s s1 s2 : Sc} (h : Stps b s s1) (k : Stps b s1 s2) : Stps b s s2 := by
  induction k with
  | none => exact h
  | more _ st ih => exact ih.more st
/-- what was read so far is a segment's beginning -/
structure Inv (b : List Int) (s : Sc) : Prop where
  zero : s.num = 0 → s = sc0
  le : s.size ≤ b.length
  may : s.num ≠ 0 → mayN s.num
  rc : s.num ≠ 0 → s.before.rc = true
  nil : s.num ≠ 0 → s.before.l = []
  ok : s.num ≠ 0 → okL s.before s.evs
  bh : s.num ≠ 0 → s.after = bhC s.before s.evs
  is : s.num ≠ 0 → b.take s.size = mkB s.num s.before s.evs s.sd
theorem take_more {b F r : List Int} {n : Nat} (hn : n ≤ b.length) (h : b.drop n = F ++ r) : b.take (n + F.length) = b.take n ++ F ∧ n + F.length ≤ b.length := by
  have h1 : b = b.take n ++ (F ++ r) := by rw [← h, List.take_append_drop]
  have h2 : (b.take n).length = n := by rw [List.length_take]; omega
  have h3 : b.length = n + (F.length + r.length) := by
    have := congrArg List.length h
    rw [List.length_drop, List.length_append] at this
    omega
  refine ⟨?_, by omega⟩
  have h4 : b.take (n + F.length) = (b.take n ++ (F ++ r)).take (n + F.length) := by rw [← h1]
  rw [h4, List.take_append, h2]
  have e : (b.take n).take (n + F.length) = b.take n := by rw [List.take_take]; congr 1; omega
  rw [e]
  congr 1
  have e2 : n + F.length - n = F.length := by omega
  rw [e2, List.take_left]
theorem Inv.next {b : List Int} {s s' : Sc} (h : Inv b s) (st : Stp b s s') : Inv b s' := by
  obtain ⟨hsd, hle, F, r, e, n⟩ := st
  obtain ⟨ht, hl⟩ := take_more hle e
  cases n with
  | head n c h0 hn hr hlc hF =>
    obtain rfl := h.zero h0
    refine ⟨fun h9 => ?_, hl, fun _ => hn, fun _ => hr, fun _ => hlc, fun _ => trivial, fun _ => rfl, fun _ => ?_⟩
    · exfalso; have := hn.1; simp only at h9; omega
    · show b.take (0 + F.length) = _
      have h9 : b.take (0 + F.length) = b.take 0 ++ F := ht
      rw [h9, hF]
      simp [mkB, evB]
  | event x h0 hr hx hF =>
    refine ⟨fun h9 => absurd h9 h0, hl, fun _ => h.may h0, fun _ => h.rc h0, fun _ => h.nil h0, fun _ => ?_, fun _ => ?_, fun _ => ?_⟩
    · exact (okL_app _ _ _).2 ⟨h.ok h0, (okL_one _ _).2 (by rw [← h.bh h0]; exact hx)⟩
    · show s.after.nx x = bhC s.before (s.evs ++ [x])
      rw [bhC_app, ← h.bh h0]; rfl
    · show b.take (s.size + F.length) = mkB s.num s.before (s.evs ++ [x]) false
      have h9 := h.is h0
      rw [hsd] at h9
      rw [ht, h9, hF]
      unfold mkB
      rw [evB_app, ← h.bh h0, evB_one]
      simp
  | shut h0 hr hm hF =>
    refine ⟨fun h9 => absurd h9 h0, hl, fun _ => h.may h0, fun _ => h.rc h0, fun _ => h.nil h0, fun _ => h.ok h0, fun _ => h.bh h0, fun _ => ?_⟩
    show b.take (s.size + F.length) = mkB s.num s.before s.evs true
    have h9 := h.is h0
    rw [hsd] at h9
    rw [ht, h9, hF]
    unfold mkB
    rw [← h.bh h0]
    simp
theorem inv0 (b : List Int) : Inv b sc0 := ⟨fun _ => rfl, Nat.zero_le _, fun h => absurd rfl h, fun h => absurd rfl h, fun h => absurd rfl h, fun h => absurd rfl h, fun h => absurd rfl h, fun h => absurd rfl h⟩
theorem Stps.inv {b : List Int} {s s' : Sc} (h : Inv b s) (k : Stps b s s') : Inv b s' := by
  induction k with
  | none => exact h
  | more _ st ih => exact ih.next st
theorem Rch.inv {b : List Int} {s : Sc} (h : Rch b s) : Inv b s := Stps.inv (inv0 b) h
/-- what is right behind what was read -/
theorem Inv.rcA {b : List Int} {s : Sc} (h : Inv b s) (h0 : s.num ≠ 0) : s.after.rc = true := by rw [h.bh h0]; exact rc_bh (h.rc h0) (h.ok h0)

/-- of two that are reached one goes on to the other -/
theorem Stps.first {b : List Int} {s s' : Sc} (h : Stps b s s') : s = s' ∨ ∃ s1, Stp b s s1 ∧ Stps b s1 s' := by
  induction h with
  | none => exact .inl rfl
  | more k st ih =>
    rcases ih with rfl | ⟨s1, h1, h2⟩
    · exact .inr ⟨_, st, .none _⟩
    · exact .inr ⟨s1, h1, h2.more st⟩
theorem Stps.meet {b : List Int} {s s1 s2 : Sc} (h1 : Stps b s s1) (h2 : Stps b s s2) : Stps b s1 s2 ∨ Stps b s2 s1 := by
  induction h1 with
  | none => exact .inl h2
  | more k st ih =>
    rcases ih with h | h
    · rcases h.first with rfl | ⟨s3, h3, h4⟩
      · exact .inr ((Stps.none _).more st)
      · obtain rfl := st.one h3
        exact .inl h4
    · exact .inr (h.more st)
/-- all was read -/
def Fin (b : List Int) (s : Sc) : Prop := Rch b s ∧ ¬ ∃ s', Stp b s s'
theorem Fin.one {b : List Int} {s s' : Sc} (h : Fin b s) (k : Fin b s') : s = s' := by
  rcases h.1.meet k.1 with h1 | h1
  · rcases h1.first with rfl | ⟨s1, h2, -⟩
    · rfl
    · exact absurd ⟨_, h2⟩ h.2
  · rcases h1.first with rfl | ⟨s1, h2, -⟩
    · rfl
    · exact absurd ⟨_, h2⟩ k.2
theorem Fin.last {b : List Int} {s s' : Sc} (h : Fin b s) (k : Rch b s') : Stps b s' s := by
  rcases h.1.meet k with h1 | h1
  · rcases h1.first with rfl | ⟨s1, h2, -⟩
    · exact .none _
    · exact absurd ⟨_, h2⟩ h.2
  · exact h1
/-- further steps leave what was read -/
theorem Stps.grow {b : List Int} {s s' : Sc} (h : Stps b s s') (h0 : s.num ≠ 0) : s'.num = s.num ∧ s'.before = s.before ∧ (∃ m, s'.evs = s.evs ++ m) ∧ s.size ≤ s'.size := by
  induction h with
  | none => exact ⟨rfl, rfl, ⟨[], by simp⟩, Nat.le_refl _⟩
  | more k st ih =>
    obtain ⟨i1, i2, ⟨m, i3⟩, i4⟩ := ih
    obtain ⟨-, -, F, r, -, n⟩ := st
    have hs := n.size
    cases n with
    | head n c h9 => exact absurd (i1.symm.trans h9) h0
    | event x => exact ⟨i1, i2, ⟨m ++ [x], by rw [i3, List.append_assoc]⟩, by omega⟩
    | shut => exact ⟨i1, i2, ⟨m, i3⟩, by omega⟩
/-- what is reached of a beginning is reached of the whole -/
theorem Stp.more {b m : List Int} {s s' : Sc} (h : Stp b s s') : Stp (b ++ m) s s' := by
  obtain ⟨h1, h2, F, r, h3, h4⟩ := h
  refine ⟨h1, by rw [List.length_append]; omega, F, r ++ m, ?_, h4⟩
  rw [List.drop_append_of_le_length h2, h3, List.append_assoc]
theorem Stps.wide {b m : List Int} {s s' : Sc} (h : Stps b s s') : Stps (b ++ m) s s' := by
  induction h with
  | none => exact .none _
  | more _ st ih => exact ih.more st.more
end Go.Proofs.YtondnbnaoacanaaGreatDoor
/- Layer 9, plain: what is read of a whole segment, of one that is cut, and of one with more behind; steps by what stands at a place. -/
namespace Go.Proofs.YtondnbnaoacanaaGreatDoor
open Fb

/-- events are read, one behind the other -/
theorem run {b : List Int} : ∀ (l : List Ev) (s : Sc) (r : List Int), s.num ≠ 0 → s.sd = false → s.size ≤ b.length → b.drop s.size = evB s.after l ++ r → s.after.rc = true → okL s.after l →
    Stps b s ⟨s.num, s.before, s.evs ++ l, bhC s.after l, s.size + (evB s.after l).length, false⟩
  | [], s, r, h0, hs, hle, hd, hr, ok => by
    obtain ⟨n, c, e, a, z, d⟩ := s
    simp only at hs
    subst hs
    simp only [List.append_nil, bhC, evB, List.length_nil, Nat.add_zero]
    exact .none _
  | x :: l, s, r, h0, hs, hle, hd, hr, ok => by
    have hd1 : b.drop s.size = frB 2 (s.after.sp x) ++ (evB (s.after.nx x) l ++ r) := by rw [hd]; simp only [evB, List.append_assoc]
    have st : Stp b s ⟨s.num, s.before, s.evs ++ [x], s.after.nx x, s.size + (frB 2 (s.after.sp x)).length, false⟩ := ⟨hs, hle, _, _, hd1, .event x h0 hr ok.1 rfl⟩
    obtain ⟨-, hle2⟩ := take_more hle hd1
    have hd2 : b.drop (s.size + (frB 2 (s.after.sp x)).length) = evB (s.after.nx x) l ++ r := by
      rw [← List.drop_drop, hd1, List.drop_left]
    have ih := run l ⟨s.num, s.before, s.evs ++ [x], s.after.nx x, s.size + (frB 2 (s.after.sp x)).length, false⟩ r h0 rfl hle2 hd2 (rc_next hr ok.1) ok.2
    have e : s.size + (evB s.after (x :: l)).length = s.size + (frB 2 (s.after.sp x)).length + (evB (s.after.nx x) l).length := by
      simp only [evB, List.length_append]; omega
    have e2 : s.evs ++ x :: l = s.evs ++ [x] ++ l := by simp
    rw [e, e2]
    exact ((Stps.none s).more st).trans ih
/-- a segment that may be -/
structure Sg (n : Int) (c : Ahd) (l : List Ev) : Prop where
  may : mayN n
  rc : c.rc = true
  nil : c.l = []
  ok : okL c l
theorem Sg.num {n : Int} {c : Ahd} {l : List Ev} (h : Sg n c l) : n ≠ 0 := by have := h.may.1; omega
theorem reach {n : Int} {c : Ahd} {l : List Ev} (h : Sg n c l) (r : List Int) : Rch (sgH n c ++ evB c l ++ r) ⟨n, c, l, bhC c l, (sgH n c ++ evB c l).length, false⟩ := by
  have hd : (sgH n c ++ evB c l ++ r).drop sc0.size = sgH n c ++ (evB c l ++ r) := by rw [List.append_assoc]; rfl
  have st : Stp (sgH n c ++ evB c l ++ r) sc0 ⟨n, c, [], c, 0 + (sgH n c).length, false⟩ := ⟨rfl, Nat.zero_le _, _, _, hd, .head n c rfl h.may h.rc h.nil rfl⟩
  have hd2 : (sgH n c ++ evB c l ++ r).drop (0 + (sgH n c).length) = evB c l ++ r := by rw [Nat.zero_add, List.append_assoc, List.drop_left]
  have k := run l ⟨n, c, [], c, 0 + (sgH n c).length, false⟩ r h.num rfl (by simp only [List.length_append]; omega) hd2 h.rc h.ok
  have e : (sgH n c ++ evB c l).length = 0 + (sgH n c).length + (evB c l).length := by rw [List.length_append]; omega
  rw [e]
  exact ((Stps.none sc0).more st).trans k
/-- all of a segment's bytes are read -/
def whole (n : Int) (c : Ahd) (l : List Ev) (sd : Bool) : Sc := ⟨n, c, l, bhC c l, (mkB n c l sd).length, sd⟩
theorem reach_all {n : Int} {c : Ahd} {l : List Ev} (h : Sg n c l) (hm : l.length < 18446744073709551616) (sd : Bool) (r : List Int) : Rch (mkB n c l sd ++ r) (whole n c l sd) := by
  cases sd with
  | false =>
    have e : mkB n c l false = sgH n c ++ evB c l := by simp [mkB]
    unfold whole
    rw [e]
    exact reach h r
  | true =>
    have e : mkB n c l true = sgH n c ++ evB c l ++ sgZ l.length (bhC c l) := by simp [mkB]
    unfold whole
    rw [e]
    have k := reach h (sgZ l.length (bhC c l) ++ r)
    rw [← List.append_assoc] at k
    refine Stps.more k ⟨rfl, ?_, sgZ l.length (bhC c l), r, ?_, ?_⟩
    · simp only [List.length_append]; omega
    · rw [List.append_assoc (sgH n c ++ evB c l), List.drop_left]
    · have e2 : (sgH n c ++ evB c l ++ sgZ l.length (bhC c l)).length = (sgH n c ++ evB c l).length + (sgZ l.length (bhC c l)).length := List.length_append
      rw [e2]
      exact .shut h.num (rc_bh h.rc h.ok) hm rfl
theorem no_bytes {b : List Int} {s : Sc} (h : b.length ≤ s.size) : ¬ ∃ s', Stp b s s' := by
  rintro ⟨s', -, -, F, r, e, n⟩
  obtain ⟨k, z, -, -, rfl⟩ := n.frame
  have h1 := congrArg List.length e
  rw [List.length_drop, List.length_append] at h1
  have := fr_pos k z
  omega
theorem fin_all {n : Int} {c : Ahd} {l : List Ev} (h : Sg n c l) (hm : l.length < 18446744073709551616) (sd : Bool) : Fin (mkB n c l sd) (whole n c l sd) := by
  have k := reach_all h hm sd []
  rw [List.append_nil] at k
  exact ⟨k, no_bytes (Nat.le_refl _)⟩
/-- how it ends -/
def stS (b : List Int) (s : Sc) : Int := if nxS b (s.size : Int) = 1 then (if s.sd then 4 else 1) else if nxS b (s.size : Int) = 2 ∧ s.sd = false then 2 else 3
theorem st_all (n : Int) (c : Ahd) (l : List Ev) (sd : Bool) : stS (mkB n c l sd) (whole n c l sd) = if sd then 4 else 1 := by
  have e : nxS (mkB n c l sd) ((whole n c l sd).size : Int) = 1 := nx_end.2 rfl
  unfold stS
  rw [if_pos e]
  rfl
theorem nx_nat (b : List Int) {k : Nat} (h : k ≤ b.length) : nxS b (k : Int) = fiS (b.drop k) := by
  rw [nx_in (by omega), Int.toNat_natCast]
/-- bytes that end sealed, or at an End, are those of what was read -/
theorem fin_is {b : List Int} {s : Sc} (h : Inv b s) (h0 : s.num ≠ 0) (hs : stS b s = 1 ∨ stS b s = 4) : b = mkB s.num s.before s.evs s.sd ∧ s.size = b.length := by
  have e : nxS b (s.size : Int) = 1 := by
    unfold stS at hs
    by_cases h1 : nxS b (s.size : Int) = 1
    · exact h1
    · rw [if_neg h1] at hs
      split at hs <;> omega
  have e2 : s.size = b.length := by have := nx_end.1 e; omega
  have h3 := h.is h0
  rw [e2, List.take_length] at h3
  exact ⟨h3, e2⟩
/-- a segment that is cut -/
theorem fin_cut {n : Int} {c : Ahd} {l : List Ev} (h : Sg n c l) (hm : l.length < 18446744073709551616) {sd : Bool} {k : Nat} (hk : k < (mkB n c l sd).length) {s : Sc} (f : Fin ((mkB n c l sd).take k) s) :
    (stS ((mkB n c l sd).take k) s = 1 ∧ s.size = k ∨ stS ((mkB n c l sd).take k) s = 2) ∧ s.size ≤ k ∧ (∃ m, l = s.evs ++ m) ∧ (s.num ≠ 0 → s.num = n ∧ s.before = c) := by
  obtain ⟨x, hx⟩ : ∃ x, mkB n c l sd = x := ⟨_, rfl⟩
  have fa := fin_all h hm sd
  rw [hx] at f hk fa ⊢
  have hlt : (x.take k).length = k := by rw [List.length_take]; omega
  have inv := f.1.inv
  have hle := inv.le
  rw [hlt] at hle
  have r1 : Rch x s := by
    have := Stps.wide (m := x.drop k) f.1
    rwa [List.take_append_drop] at this
  have p := fa.last r1
  have hg : (∃ m, l = s.evs ++ m) ∧ (s.num ≠ 0 → s.num = n ∧ s.before = c) := by
    by_cases h0 : s.num = 0
    · rw [inv.zero h0]
      exact ⟨⟨l, rfl⟩, fun h => absurd rfl h⟩
    · obtain ⟨g1, g2, g3, -⟩ := p.grow h0
      exact ⟨g3, fun _ => ⟨g1.symm, g2.symm⟩⟩
  refine ⟨?_, hle, hg⟩
  rcases p.first with e | ⟨s1, ⟨hs, hl, F, r, e, nx⟩, -⟩
  · exfalso
    rw [e] at hle
    have : (whole n c l sd).size = x.length := by rw [← hx]; rfl
    omega
  · have hd : (x.take k).drop s.size = (F ++ r).take (k - s.size) := by rw [List.drop_take, e]
    obtain ⟨kk, z, hkk, hz, hF⟩ := nx.frame
    by_cases hc : F.length ≤ k - s.size
    · exfalso
      refine f.2 ⟨s1, hs, by rw [hlt]; exact hle, F, r.take (k - s.size - F.length), ?_, nx⟩
      rw [hd, List.take_append, List.take_of_length_le hc]
    · have hd2 : (x.take k).drop s.size = F.take (k - s.size) := by
        rw [hd, List.take_append_of_le_length (by omega)]
      by_cases h1 : s.size = k
      · have e1 : nxS (x.take k) (s.size : Int) = 1 := nx_end.2 (by rw [hlt, h1])
        refine .inl ⟨?_, h1⟩
        unfold stS
        rw [if_pos e1, hs]
        rfl
      · have e1 : nxS (x.take k) (s.size : Int) = 2 := by
          rw [nx_nat _ (by rw [hlt]; exact hle), hd2, hF]
          refine fi_cut hkk hz (by omega) ?_
          rw [← hF]
          omega
        refine .inr ?_
        unfold stS
        rw [e1, if_neg (by decide), if_pos ⟨rfl, hs⟩]
/-- what was read, with other bytes behind -/
theorem rch_more {b : List Int} {s : Sc} (h : Rch b s) (h0 : s.num ≠ 0) (hm : s.evs.length < 18446744073709551616) (m : List Int) : Rch (b.take s.size ++ m) s := by
  have inv := h.inv
  have g : Sg s.num s.before s.evs := ⟨inv.may h0, inv.rc h0, inv.nil h0, inv.ok h0⟩
  have k := reach_all g hm s.sd m
  have e := inv.is h0
  rw [← e] at k
  have e2 : whole s.num s.before s.evs s.sd = s := by
    unfold whole
    rw [← e, ← inv.bh h0, List.length_take]
    have := inv.le
    have e3 : min s.size b.length = s.size := by omega
    rw [e3]
  rwa [e2] at k
theorem fin_more {b : List Int} {s t : Sc} (h : Rch b s) (h0 : s.num ≠ 0) (hm : s.evs.length < 18446744073709551616) {m : List Int} (f : Fin (b.take s.size ++ m) t) : t.num = s.num ∧ (∃ e, t.evs = s.evs ++ e) ∧ s.size ≤ t.size := by
  obtain ⟨g1, -, g3, g4⟩ := (f.last (rch_more h h0 hm m)).grow h0
  exact ⟨g1, g3, g4⟩
/-- steps by what stands there -/
theorem stp_nx {b : List Int} {s s' : Sc} (h : Stp b s s') : s.sd = false ∧ nxS b (s.size : Int) = 0 ∧ Nxt s (frB (nxK b (s.size : Int)) (nxP b (s.size : Int))) s' := by
  obtain ⟨h1, h2, F, r, e, n⟩ := h
  obtain ⟨k, z, hk, hz, rfl⟩ := n.frame
  obtain ⟨f1, f2, f3, f4⟩ := fi_frame (rest := r) hk hz
  have hS : nxS b (s.size : Int) = 0 := by rw [nx_nat _ h2, e]; exact f1
  obtain ⟨eK, eP, -⟩ := nx_yes hS
  rw [Int.toNat_natCast, e] at eK eP
  refine ⟨h1, hS, ?_⟩
  rw [eK, eP, f3, f4]
  exact n
theorem nx_stp {b : List Int} {s s' : Sc} (h1 : s.sd = false) (h2 : nxS b (s.size : Int) = 0) (n : Nxt s (frB (nxK b (s.size : Int)) (nxP b (s.size : Int))) s') : Stp b s s' := by
  obtain ⟨-, -, w3, w4, w5, w6⟩ := nx_whole h2
  rw [Int.toNat_natCast, w3, Int.toNat_natCast] at w6
  refine ⟨h1, by omega, _, (b.drop s.size).drop (frB (nxK b (s.size : Int)) (nxP b (s.size : Int))).length, ?_, n⟩
  have := (List.take_append_drop (frB (nxK b (s.size : Int)) (nxP b (s.size : Int))).length (b.drop s.size)).symm
  rwa [w6] at this
theorem no_nx {b : List Int} {s : Sc} (h : nxS b (s.size : Int) ≠ 0) : ¬ ∃ s', Stp b s s' := fun ⟨_, k⟩ => h (stp_nx k).2.1
theorem no_sd {b : List Int} {s : Sc} (h : s.sd = true) : ¬ ∃ s', Stp b s s' := fun ⟨_, k⟩ => by have := k.1; rw [h] at this; cases this
/-- a Head there -/
theorem nxt_head {s s' : Sc} {k : Int} {z : List Int} (hk : 1 ≤ k ∧ k ≤ 3) (hz : z.length ≤ 200) (h0 : s.num = 0) (h : Nxt s (frB k z) s') :
    k = 1 ∧ ∃ n c, mayN n ∧ c.rc = true ∧ c.l = [] ∧ z = hpB n c ∧ s' = ⟨n, c, [], c, s.size + (frB k z).length, false⟩ := by
  cases h with
  | head n c _ hn hr hl hF =>
    have e : frB k z ++ [] = frB 1 (hpB n c) ++ [] := by simp only [List.append_nil]; exact hF
    obtain ⟨rfl, rfl, -⟩ := fr_eq hk (by omega) hz (hp_len hn.2 (rc_q hr).2.1 (rc_q hr).2.2.2) e
    exact ⟨rfl, n, c, hn, hr, hl, rfl, rfl⟩
  | event x h9 => exact absurd h0 h9
  | shut h9 => exact absurd h0 h9
/-- an event, or a Seal, there -/
theorem nxt_more {s s' : Sc} {k : Int} {z : List Int} (hk : 1 ≤ k ∧ k ≤ 3) (hz : z.length ≤ 200) (h0 : s.num ≠ 0) (h : Nxt s (frB k z) s') :
    (k = 2 ∧ ∃ x, s.after.fl x = 0 ∧ z = s.after.sp x ∧ s' = ⟨s.num, s.before, s.evs ++ [x], s.after.nx x, s.size + (frB k z).length, false⟩) ∨
    (k = 3 ∧ z = zpB s.evs.length s.after ∧ s' = ⟨s.num, s.before, s.evs, s.after, s.size + (frB k z).length, true⟩) := by
  cases h with
  | head n c h9 => exact absurd h9 h0
  | event x _ hr hx hF =>
    have e : frB k z ++ [] = frB 2 (s.after.sp x) ++ [] := by simp only [List.append_nil]; exact hF
    obtain ⟨rfl, rfl, -⟩ := fr_eq hk (by omega) hz (sp_200 hr hx) e
    exact .inl ⟨rfl, x, hx, rfl, rfl⟩
  | shut _ hr hm hF =>
    have e : frB k z ++ [] = frB 3 (zpB s.evs.length s.after) ++ [] := by simp only [List.append_nil]; exact hF
    obtain ⟨rfl, rfl, -⟩ := fr_eq hk (by omega) hz (zp_len hm (rc_q hr).2.1 (rc_q hr).2.2.2) e
    exact .inr ⟨rfl, rfl, rfl⟩
end Go.Proofs.YtondnbnaoacanaaGreatDoor
/- Layer 9, plain: the payload of a Head, as it is read; how many events there may be; each event follows the one ahead. -/
namespace Go.Proofs.YtondnbnaoacanaaGreatDoor
open Fb

/-- three numbers behind four bytes -/
theorem hp_reads {n : Int} {c : Ahd} (hn : mayN n) (hr : c.rc = true) :
    ∃ p1 p2 : Int, uintS (hpB n c) 4 0 = (p1, 0, n.toNat) ∧ uintS (hpB n c) p1 0 = (p2, 0, c.q.toNat) ∧ uintS (hpB n c) p2 0 = ((((hpB n c).length : Nat) : Int), 0, c.t.toNat) := by
  have q := rc_q hr
  have n2 := hn.2
  have b1 : n.toNat < 18446744073709551616 := by omega
  have b2 : c.q.toNat < 18446744073709551616 := by omega
  have b3 : c.t.toNat < 18446744073709551616 := by omega
  have e1 : hpB n c = [102, 98, 120, 49] ++ (leb n.toNat ++ (leb c.q.toNat ++ leb c.t.toNat)) := by simp only [hpB, List.append_assoc]
  have e2 : hpB n c = ([102, 98, 120, 49] ++ leb n.toNat) ++ (leb c.q.toNat ++ leb c.t.toNat) := by simp only [hpB, List.append_assoc]
  have e3 : hpB n c = (([102, 98, 120, 49] ++ leb n.toNat) ++ leb c.q.toNat) ++ (leb c.t.toNat ++ []) := by simp only [hpB, List.append_nil]
  have h1 := uS_at (pre := [102, 98, 120, 49]) (rest := leb c.q.toNat ++ leb c.t.toNat) b1
  have h2 := uS_at (pre := [102, 98, 120, 49] ++ leb n.toNat) (rest := leb c.t.toNat) b2
  have h3 := uS_at (pre := ([102, 98, 120, 49] ++ leb n.toNat) ++ leb c.q.toNat) (rest := []) b3
  rw [← e1] at h1
  rw [← e2] at h2
  rw [← e3] at h3
  have l0 : ((([102, 98, 120, 49] : List Int).length : Nat) : Int) = 4 := rfl
  have l1 : ((([102, 98, 120, 49] ++ leb n.toNat : List Int).length : Nat) : Int) = ((([102, 98, 120, 49] : List Int).length + (leb n.toNat).length : Nat) : Int) := by rw [List.length_append]
  have l2 : (((([102, 98, 120, 49] ++ leb n.toNat) ++ leb c.q.toNat : List Int).length : Nat) : Int) = ((([102, 98, 120, 49] ++ leb n.toNat : List Int).length + (leb c.q.toNat).length : Nat) : Int) := by rw [List.length_append]
  have l3 : ((hpB n c).length : Nat) = (([102, 98, 120, 49] ++ leb n.toNat) ++ leb c.q.toNat : List Int).length + (leb c.t.toNat).length := by unfold hpB; rw [List.length_append]
  rw [l0] at h1
  rw [l1] at h2
  rw [l2] at h3
  rw [l3]
  have l4 : (([102, 98, 120, 49] ++ leb n.toNat) ++ leb c.q.toNat : List Int).length = ([102, 98, 120, 49] ++ leb n.toNat : List Int).length + (leb c.q.toNat).length := List.length_append
  rw [l4] at h3 ⊢
  exact ⟨_, _, h1, h2, h3⟩
/-- is a payload a Head's, and which one's -/
def hdO (z : List Int) : Prop := ∃ n c, (mayN n ∧ c.rc = true ∧ c.l = []) ∧ z = hpB n c
open Classical in
noncomputable def hdN (z : List Int) : Int := if h : hdO z then h.choose else 0
open Classical in
noncomputable def hdC (z : List Int) : Ahd := if h : hdO z then h.choose_spec.choose else ⟨0, 0, []⟩
theorem hd_yes {n : Int} {c : Ahd} (hn : mayN n) (hr : c.rc = true) (hl : c.l = []) : hdN (hpB n c) = n ∧ hdC (hpB n c) = c := by
  have h : hdO (hpB n c) := ⟨n, c, ⟨hn, hr, hl⟩, rfl⟩
  have hs := h.choose_spec.choose_spec
  have e := hp_inj hs.1.1 hn hs.1.2.1 hr hs.1.2.2 hl hs.2.symm
  unfold hdN hdC
  rw [dif_pos h, dif_pos h]
  exact e
theorem hd_no {z : List Int} (h : ¬ hdO z) : hdN z = 0 ∧ hdC z = ⟨0, 0, []⟩ := by
  unfold hdN hdC
  exact ⟨dif_neg h, dif_neg h⟩
theorem hd_val {z : List Int} (h : hdO z) : mayN (hdN z) ∧ (hdC z).rc = true ∧ (hdC z).l = [] ∧ z = hpB (hdN z) (hdC z) := by
  obtain ⟨n, c, ⟨hn, hr, hl⟩, rfl⟩ := h
  obtain ⟨e1, e2⟩ := hd_yes hn hr hl
  rw [e1, e2]
  exact ⟨hn, hr, hl, rfl⟩
theorem hd_pos {z : List Int} : hdN z ≠ 0 ↔ hdO z := by
  constructor
  · intro h
    by_cases k : hdO z
    · exact k
    · exact absurd (hd_no k).1 h
  · intro h
    have := (hd_val h).1.1
    omega
/-- how many events there may be -/
theorem evB_len (c : Ahd) (l : List Ev) : l.length * 7 ≤ (evB c l).length := by
  induction l generalizing c with
  | nil => simp [evB]
  | cons x l ih =>
    have h1 := ih (c.nx x)
    have h2 := fr_pos 2 (c.sp x)
    simp only [evB, List.length_append, List.length_cons]
    omega
theorem mkB_len (n : Int) (c : Ahd) (l : List Ev) (sd : Bool) : 7 + l.length * 7 ≤ (mkB n c l sd).length := by
  have h1 := evB_len c l
  have h2 := fr_pos 1 (hpB n c)
  unfold mkB sgH
  simp only [List.length_append]
  omega
theorem Inv.few {b : List Int} {s : Sc} (h : Inv b s) : s.evs.length * 7 ≤ b.length := by
  by_cases h0 : s.num = 0
  · rw [h.zero h0]; exact Nat.zero_le _
  · have e := h.is h0
    have h1 := mkB_len s.num s.before s.evs s.sd
    rw [← e, List.length_take] at h1
    omega
/-- each event may be told, and follows the one ahead -/
theorem ok_at {c : Ahd} {l : List Ev} (hr : c.rc = true) (ok : okL c l) {i : Nat} {x : Ev} (h : l[i]? = some x) : (bhC c (l.take i)).fl x = 0 ∧ (bhC c (l.take i)).rc = true := by
  induction l generalizing c i with
  | nil => simp at h
  | cons y l ih =>
    cases i with
    | zero =>
      simp only [List.getElem?_cons_zero, Option.some.injEq] at h
      subst h
      exact ⟨ok.1, hr⟩
    | succ i =>
      simp only [List.getElem?_cons_succ] at h
      exact ih (c := c.nx y) (rc_next hr ok.1) ok.2 h
theorem bh_at {c : Ahd} {l : List Ev} {i : Nat} {x : Ev} (h : l[i]? = some x) : bhC c (l.take (i + 1)) = (bhC c (l.take i)).nx x := by
  rw [List.take_add_one, h, bhC_app]
  rfl
theorem fl_at {c : Ahd} {x : Ev} (hr : c.rc = true) (h : c.fl x = 0) : chI x.q x.t x.k x.s x.a x.b x.c = 0 ∧ c.q < x.q ∧ c.t ≤ x.t := by
  have ok := fl_ok hr h
  refine ⟨?_, ok.q, ok.t⟩
  unfold Ahd.fl flE at h
  by_cases hc : chI x.q x.t x.k x.s x.a x.b x.c = 0
  · exact hc
  · rw [if_neg hc] at h; exact absurd h hc
end Go.Proofs.YtondnbnaoacanaaGreatDoor
