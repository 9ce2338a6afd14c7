/- Two contexts in blocks of the call's own, and two rows of events that grow. -/
import Derived.Test.YtgijhfdlecdijaaCodecS
import Derived.Test.YtgijhfdlecdijaaRowZ
import Derived.Test.YtgijhfdlecdijaaEvs
namespace Go.Proofs.Ytgijhfdlecdijaa
open Go.ChangeShapes Go.WideShapes Go.ChangeAt Go.RowKit Fb Go.Maps

/-- blocks of another type are let be by what grows a row -/
theorem grown_else {w w' : World} {base n size : Nat} {e : TypeId} {v : Value} {xs : List Value} (hg : w.grownBy w' v.ownBlock) (h : w.ownsRow base e size v n xs) {g : Nat} {o : Array Value} {ty : TypeId} (hh : w.heap[g]? = some (.cells o ty (0, 0))) (hne : ty ≠ e) : w'.heap[g]? = some (.cells o ty (0, 0)) := by
  refine (hg.block g (blk_lt hh) fun e1 => ?_).trans hh
  obtain ⟨_, h1 | ⟨b, cap, cur, hv, _, hb, _⟩⟩ := h
  · rw [h1.1] at e1; simp [Value.ownBlock] at e1
  · rw [hv] at e1
    simp [Value.ownBlock] at e1
    subst e1
    rw [hh] at hb
    simp at hb
    exact hne hb.2
theorem Spr.below {w w' : World} {base n size k : Nat} {e : TypeId} {v : Value} {xs : List Value} (h : Spr w v k) (ho : w.ownsRow base e size v n xs) (hb : Below w.heap.size w w') : Spr w' v k := by
  intro g hg i u hi hu
  refine h g hg i u hi ?_
  rw [← World.cell?_of_block (w := w) (w' := w') (a := ⟨g, i, none⟩) (hb.block g (ho.lt g hg).2)]
  exact hu
theorem Spr.sto {w w' : World} {base n size k g3 : Nat} {e : TypeId} {v : Value} {xs : List Value} (h : Spr w v k) (ho : w.ownsRow base e size v n xs) (S : Sto g3 w w') (hg3 : g3 < base) : Spr w' v k := by
  intro g hg i u hi hu
  refine h g hg i u hi ?_
  have := (ho.lt g hg).1
  rw [← World.cell?_of_block (w := w) (w' := w') (a := ⟨g, i, none⟩) (S.block g (by omega))]
  exact hu
theorem Rs.nz {w w' : World} {A : Option Addr} {n c : Nat} {ss : List ByteArray} (h : Rs w A n c ss) (hn : ∀ s ∈ ss, 1 ≤ s.size) (hz : Nz w w') (hs : w.heap.size ≤ w'.heap.size) : Rs w' A n c ss := by
  refine ⟨(hz.sl h.1 fun u hu h0 => ?_).up hs, h.2⟩
  obtain ⟨s, hs, rfl⟩ := List.mem_map.1 hu
  rcases h0 with h0 | h0
  · cases h0
  · injection h0 with h0
    have := hn s hs
    rw [h0] at this
    exact absurd this (by decide)
theorem Rw.nz {w w' : World} {A : Option Addr} {n c : Nat} {zs : List Int} (h : Rw w A n c zs) (hz : Nz w w') (hs : w.heap.size ≤ w'.heap.size) : Rw w' A n c zs := by
  refine ⟨(hz.sl h.1 fun u hu h0 => ?_).up hs, h.2⟩
  obtain ⟨s, hs, rfl⟩ := List.mem_map.1 hu
  rcases h0 with h0 | h0
  · injection h0 with h0; cases h0
  · cases h0

structure RI (w : World) (g : Nat) (wr : World) (q3 t3 : Int) (s3 : List ByteArray) (A3 : Option Addr) (n3 c3 : Nat) (q4 t4 : Int) (s4 : List ByteArray) (A4 : Option Addr) (n4 c4 : Nat) (v5 : Value) (K5 : List Ev) (v6 : Value) (K6 : List Ev) : Prop where
  lo : w.heap.size ≤ g
  bel : Below w.heap.size w wr
  m3 : ∀ s ∈ s3, 1 ≤ s.size
  m4 : ∀ s ∈ s4, 1 ≤ s.size
  k3 : wr.heap[g]? = some (.cells #[.int .i64 q3, .int .i64 t3, .slice A3 n3 c3] 24 (0, 0))
  k4 : wr.heap[g + 1]? = some (.cells #[.int .i64 q4, .int .i64 t4, .slice A4 n4 c4] 24 (0, 0))
  r3 : Rs wr A3 n3 c3 s3
  r4 : Rs wr A4 n4 c4 s4
  o5 : wr.ownsRow (g + 2) 26 7 v5 K5.length (evsC K5)
  o6 : wr.ownsRow (g + 2) 26 7 v6 K6.length (evsC K6)
  z5 : Spr wr v5 (K5.length * 7)
  z6 : Spr wr v6 (K6.length * 7)
  ne : ∀ b, v5.ownBlock = some b → v6.ownBlock ≠ some b

section
variable {w wr w' : World} {g : Nat} {q3 t3 q4 t4 : Int} {s3 s4 : List ByteArray} {A3 A4 : Option Addr} {n3 c3 n4 c4 : Nat} {v5 v6 : Value} {K5 K6 : List Ev}
theorem RI.ne5 (h : RI w g wr q3 t3 s3 A3 n3 c3 q4 t4 s4 A4 n4 c4 v5 K5 v6 K6) : v5.ownBlock = none ∨ v5.ownBlock ≠ v6.ownBlock := by
  cases h5 : v5.ownBlock with
  | none => exact .inl rfl
  | some b => exact .inr fun e => h.ne b h5 e.symm
theorem RI.ne6 (h : RI w g wr q3 t3 s3 A3 n3 c3 q4 t4 s4 A4 n4 c4 v5 K5 v6 K6) : v6.ownBlock = none ∨ v6.ownBlock ≠ v5.ownBlock := by
  cases h6 : v6.ownBlock with
  | none => exact .inl rfl
  | some b => exact .inr fun e => h.ne b e.symm h6
theorem RI.below (h : RI w g wr q3 t3 s3 A3 n3 c3 q4 t4 s4 A4 n4 c4 v5 K5 v6 K6) (hb : Below wr.heap.size wr w') : RI w g w' q3 t3 s3 A3 n3 c3 q4 t4 s4 A4 n4 c4 v5 K5 v6 K6 :=
  ⟨h.lo, h.bel.trans (hb.mono h.bel.size), h.m3, h.m4, (hb.block _ (blk_lt h.k3)).trans h.k3, (hb.block _ (blk_lt h.k4)).trans h.k4, h.r3.below hb, h.r4.below hb, own_below h.o5 hb, own_below h.o6 hb, Spr.below h.z5 h.o5 hb, Spr.below h.z6 h.o6 hb, h.ne⟩
theorem RI.start (hlo : w.heap.size ≤ g) (hb : Below w.heap.size w wr) (hk3 : wr.heap[g]? = some (.cells #[.int .i64 0, .int .i64 0, .slice none 0 0] 24 (0, 0))) (hk4 : wr.heap[g + 1]? = some (.cells #[.int .i64 0, .int .i64 0, .slice none 0 0] 24 (0, 0))) :
    RI w g wr 0 0 [] none 0 0 0 0 [] none 0 0 (.slice none 0 0) [] (.slice none 0 0) [] :=
  ⟨hlo, hb, fun _ h => by simp at h, fun _ h => by simp at h, hk3, hk4, ⟨Sl.nil _ _ _, Nat.le_refl _, Nat.zero_le _, fun _ => rfl⟩, ⟨Sl.nil _ _ _, Nat.le_refl _, Nat.zero_le _, fun _ => rfl⟩, World.ownsRow_nil _ _ _ _, World.ownsRow_nil _ _ _ _, Spr.nil _ _, Spr.nil _ _, fun _ h => by simp [Value.ownBlock] at h⟩
theorem own_bel {w0 w w' : World} {B base n size : Nat} {e : TypeId} {v : Value} {xs : List Value} (hb : Below B w0 w) (hg : w.grownBy w' v.ownBlock) (h : w.ownsRow base e size v n xs) (hB : B ≤ base) (hs : B ≤ w.heap.size) : Below B w0 w' :=
  hb.trans ⟨hg.os, hg.tape, hg.output, hg.size, fun k hk => hg.block k (by omega) fun e1 => by have := (h.lt k e1.symm).1; omega⟩
theorem RI.push5 (h : RI w g wr q3 t3 s3 A3 n3 c3 q4 t4 s4 A4 n4 c4 v5 K5 v6 K6) {v' : Value} {x : Ev} (ho : w'.ownsRow (g + 2) 26 7 v' (K5.length + 1) (evsC K5 ++ evC x)) (hz : Spr w' v' ((K5.length + 1) * 7)) (hg : wr.grownBy w' v5.ownBlock) (hn : Nz wr w') (hat : v'.ownBlock = v5.ownBlock ∨ v'.ownBlock = some (wr.heap.size + 1)) :
    RI w g w' q3 t3 s3 A3 n3 c3 q4 t4 s4 A4 n4 c4 v' (K5 ++ [x]) v6 K6 := by
  refine ⟨h.lo, own_bel h.bel hg h.o5 (by have := h.lo; omega) h.bel.size, h.m3, h.m4, grown_else hg h.o5 h.k3 (by decide), grown_else hg h.o5 h.k4 (by decide), h.r3.nz h.m3 hn hg.size, h.r4.nz h.m4 hn hg.size, ?_, h.o6.kept hg h.ne6, ?_, h.z6.kept h.o6 hg h.ne6, ?_⟩
  · rw [List.length_append, evsC_app, evsC_one]; exact ho
  · rw [List.length_append]; exact hz
  · intro b hb he
    rcases hat with h1 | h1
    · exact h.ne b (h1 ▸ hb) he
    · rw [h1] at hb
      injection hb with hb
      have := (h.o6.lt b he).2
      omega
theorem RI.push6 (h : RI w g wr q3 t3 s3 A3 n3 c3 q4 t4 s4 A4 n4 c4 v5 K5 v6 K6) {v' : Value} {x : Ev} (ho : w'.ownsRow (g + 2) 26 7 v' (K6.length + 1) (evsC K6 ++ evC x)) (hz : Spr w' v' ((K6.length + 1) * 7)) (hg : wr.grownBy w' v6.ownBlock) (hn : Nz wr w') (hat : v'.ownBlock = v6.ownBlock ∨ v'.ownBlock = some (wr.heap.size + 1)) :
    RI w g w' q3 t3 s3 A3 n3 c3 q4 t4 s4 A4 n4 c4 v5 K5 v' (K6 ++ [x]) := by
  refine ⟨h.lo, own_bel h.bel hg h.o6 (by have := h.lo; omega) h.bel.size, h.m3, h.m4, grown_else hg h.o6 h.k3 (by decide), grown_else hg h.o6 h.k4 (by decide), h.r3.nz h.m3 hn hg.size, h.r4.nz h.m4 hn hg.size, h.o5.kept hg h.ne5, ?_, h.z5.kept h.o5 hg h.ne5, ?_, ?_⟩
  · rw [List.length_append, evsC_app, evsC_one]; exact ho
  · rw [List.length_append]; exact hz
  · intro b hb he
    rcases hat with h1 | h1
    · exact h.ne b hb (h1 ▸ he)
    · rw [h1] at he
      injection he with he
      have := (h.o5.lt b hb).2
      omega
theorem RI.put3 (h : RI w g wr q3 t3 s3 A3 n3 c3 q4 t4 s4 A4 n4 c4 v5 K5 v6 K6) {q t : Int} {ss : List ByteArray} {A : Option Addr} {n c : Nat} (hm : ∀ s ∈ ss, 1 ≤ s.size) (hr : Rs wr A n c ss) (hw : w' = ((wr.setCell ⟨g, 0, none⟩ (.int .i64 q)).setCell ⟨g, 1, none⟩ (.int .i64 t)).setCell ⟨g, 2, none⟩ (.slice A n c)) :
    RI w g w' q t ss A n c q4 t4 s4 A4 n4 c4 v5 K5 v6 K6 := by
  have S : Sto g wr w' := by rw [hw]; exact sto3 _ _ _ _ _
  exact ⟨h.lo, S.below h.bel h.lo, hm, h.m4, by rw [hw]; exact all3 h.k3, (S.block _ (by omega)).trans h.k4, hr.sto h.k3 S, h.r4.sto h.k3 S, S.own h.o5 (by omega), S.own h.o6 (by omega), Spr.sto h.z5 h.o5 S (by omega), Spr.sto h.z6 h.o6 S (by omega), h.ne⟩
theorem RI.put4 (h : RI w g wr q3 t3 s3 A3 n3 c3 q4 t4 s4 A4 n4 c4 v5 K5 v6 K6) {q t : Int} {ss : List ByteArray} {A : Option Addr} {n c : Nat} (hm : ∀ s ∈ ss, 1 ≤ s.size) (hr : Rs wr A n c ss) (hw : w' = ((wr.setCell ⟨g + 1, 0, none⟩ (.int .i64 q)).setCell ⟨g + 1, 1, none⟩ (.int .i64 t)).setCell ⟨g + 1, 2, none⟩ (.slice A n c)) :
    RI w g w' q3 t3 s3 A3 n3 c3 q t ss A n c v5 K5 v6 K6 := by
  have S : Sto (g + 1) wr w' := by rw [hw]; exact sto3 _ _ _ _ _
  exact ⟨h.lo, S.below h.bel (by have := h.lo; omega), h.m3, hm, (S.block _ (by omega)).trans h.k3, by rw [hw]; exact all3 h.k4, h.r3.sto h.k4 S, hr.sto h.k4 S, S.own h.o5 (by omega), S.own h.o6 (by omega), Spr.sto h.z5 h.o5 S (by omega), Spr.sto h.z6 h.o6 S (by omega), h.ne⟩
end
theorem rc_names {q t : Int} {ss : List ByteArray} (h : rcB q t ss = true) : ss.length ≤ 32 ∧ (∀ s ∈ ss, 1 ≤ s.size) ∧ Ok9 ss := by
  have h1 := (rgB_iff _).1 ((rc_iff _ _ _).1 h).2.2
  exact ⟨h1.1, fun s hs => (nm_size (h1.2.1 s hs)).1, by have := h1.1; omega, fun s hs => by have := nm_size (h1.2.1 s hs); unfold maxLen; omega⟩
theorem ev7_parts : (Try.prog.info? 26).map (fun i => (i.zero, i.size, i.bytes)) = some (some (.agg #[.int .i64 0, .int .i64 0, .int .i64 0, .string ByteArray.empty, .int .i64 0, .int .i64 0, .int .i64 0]), 7, 64) := by kernel_rfl
theorem ev7_zero : ∀ x ∈ (Value.agg #[.int .i64 0, .int .i64 0, .int .i64 0, .string ByteArray.empty, .int .i64 0, .int .i64 0, .int .i64 0]).cells.toList, Zv x := by
  intro x hx
  simp only [Value.cells, List.mem_cons, List.not_mem_nil, or_false] at hx
  rcases hx with h | h | h | h | h | h | h <;> first | exact .inl h | exact .inr h
end Go.Proofs.Ytgijhfdlecdijaa
