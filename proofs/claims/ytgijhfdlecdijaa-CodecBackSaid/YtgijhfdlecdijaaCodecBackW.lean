/- The walk of CodecBack. -/
import Derived.Test.YtgijhfdlecdijaaCodecS
import Derived.Test.YtgijhfdlecdijaaCodecA
import Derived.Test.YtgijhfdlecdijaaEnvD
namespace Go.Proofs.Ytgijhfdlecdijaa
open Go.ChangeShapes Go.WideShapes Go.ChangeAt Go.RowKit Fb Go.Maps

theorem flL_small (ss : List ByteArray) (x : Ev) : (flL ss x).length ≤ ss.length + 1 := by
  unfold flL puL
  split
  · split
    · simp
    · simp
  · simp
theorem de_o {q0 t0 : Int} {ss : List ByteArray} {zs : List Int} (h : deO q0 t0 ss zs) : deE q0 t0 ss zs = 0 := by unfold deE; rw [if_pos h]
/-- an event's bytes, cut, are none's -/
theorem no_cut {q0 t0 : Int} {ss : List ByteArray} {x y : Ev} (ok : Okk q0 t0 ss x) (hr : rcB q0 t0 ss = true) {j : Nat} (hj : j < (spB q0 t0 ss x).length) (hy : Fo q0 t0 ss y ((spB q0 t0 ss x).take j)) : False := by
  have h := sp_pre (r := (spB q0 t0 ss x).drop j) (r' := []) (fl_ok hr hy.1) ok (by rw [hy.2, List.take_append_drop, List.append_nil])
  have h2 := congrArg List.length h.2
  rw [List.length_drop] at h2
  simp at h2
  omega
/-- with more behind they are none's -/
theorem no_more {q0 t0 : Int} {ss : List ByteArray} {x y : Ev} (ok : Okk q0 t0 ss x) (hr : rcB q0 t0 ss = true) {ms : List Int} (hm : ms ≠ []) (hy : Fo q0 t0 ss y (spB q0 t0 ss x ++ ms)) : False := by
  have h := sp_pre (r := []) (r' := ms) (fl_ok hr hy.1) ok (by rw [hy.2, List.append_nil])
  exact hm h.2.symm

/-- 'append(v, x...)': v is a slice of the call's own, x any slice of cells, nil let in; in a region that draws its order -/
theorem wp_pushAll {P : Program} {w : World} {o : Oper} {a : Act} {K : Act → World → Prop} {Q : Exit → Act → World → Prop} (s x : Operand) (t : TypeId)
    (ho : o.op = .call { callee := .builtin .append, args := #[s, x], argTypes := #[t, t] })
    {base : Nat} {e : TypeId} {i : TypeInfo} {z : Value} {bytes : Nat} (ht : P.underlying t = some (.slice e)) (hi : P.info? e = some i) (hz : i.zero = some z)
    (hsize : i.size = 1) (hby : i.bytes = bytes) (hzs : z.cells.size = 1)
    {v : Value} {n : Nat} {xs : List Value} (hs : a.eval s = v) (hown : w.ownsRow base e 1 v n xs) {B m c : Nat} {A : Option Addr} {news : List Value}
    (hx : a.eval x = .slice A m c) (hnil : A = none → c = 0) (hr : Sl w B A m news) (h1 : ∀ u ∈ news, u.oneCell' = true) (h63 : n + m ≤ maxLen) (hbytes : (n + m) * bytes ≤ 140737488355328) (hbase : base ≤ w.heap.size)
    (h : ∀ v' w', w'.ownsRow base e 1 v' (n + m) (xs ++ news) → w.grownBy w' v.ownBlock → K (a.put o.dst v') w') : o.wp P a w K Q := by
  rcases A with _ | ad
  · obtain rfl := hnil rfl
    have hm : m = 0 := by
      rcases Nat.eq_zero_or_pos m with h0 | h0
      · exact h0
      · obtain ⟨_, _, hA, _⟩ := hr.2 h0; cases hA
    subst hm
    obtain rfl : news = [] := List.eq_nil_of_length_eq_zero hr.1
    have hrun := run_append_owned_none (P := P) (w := w) base t o.type e i 1 ht hi v n xs hown
    unfold Oper.wp
    simp [execOp, ho, resolve, invoke, builtin, hs, hx, hrun, Result.andThen]
    exact h v w (by simpa using hown) (World.grownBy.refl _ _)
  · have hcells : ∀ j u, news[j]? = some u → w.cell? (ad.add j) = some u := by
      intro j u hu
      rcases Nat.eq_zero_or_pos m with h0 | h0
      · subst h0
        obtain rfl : news = [] := List.eq_nil_of_length_eq_zero hr.1
        simp at hu
      · obtain ⟨b, o, hA, _, hc⟩ := hr.2 h0
        injection hA with hA
        subst hA
        have ha : (⟨b, o, none⟩ : Addr).add j = ⟨b, o + j, none⟩ := by unfold Addr.add; split <;> simp_all
        rw [ha]
        exact hc j u hu
    exact wp_append_own w s x t ho base e i z 1 bytes ht hi hz hsize hby hzs (by omega) v n xs hs hown ad m c news hx (by simpa using hr.1) hcells h1 h63 hbytes hbase (fun v' w' h2 h3 _ => h v' w' h2 h3)
theorem own_low {w : World} {base n size : Nat} {e : TypeId} {v : Value} {xs : List Value} (h : w.ownsRow base e size v n xs) : ∀ k, v.ownBlock = some k → base ≤ k := by
  intro k hk
  obtain ⟨_, hh | ⟨g, cap, cur, hv, hg, _⟩⟩ := h
  · rw [hh.1] at hk; simp [Value.ownBlock] at hk
  · rw [hv] at hk; simp [Value.ownBlock] at hk; omega
/-- blocks of another type are let be by what grows a row -/
theorem grown_other {w w' : World} {base n size : Nat} {e : TypeId} {v : Value} {xs : List Value} (hg : w.grownBy w' v.ownBlock) (h : w.ownsRow base e size v n xs) {g : Nat} {o : Array Value} {ty : TypeId} (hh : w.heap[g]? = some (.cells o ty (0, 0))) (hne : ty ≠ e) : w'.heap[g]? = w.heap[g]? := by
  refine hg.block g (blk_lt hh) fun e1 => ?_
  obtain ⟨_, h1 | ⟨b, cap, cur, hv, _, hb, _⟩⟩ := h
  · rw [h1.1] at e1; simp [Value.ownBlock] at e1
  · rw [hv] at e1
    simp [Value.ownBlock] at e1
    subst e1
    rw [hh] at hb
    simp at hb
    exact hne hb.2
theorem cx7_size : (Try.prog.info? 24).map (·.size) = some 3 := by kernel_rfl
theorem cx7_one (q t : Int) (A : Option Addr) (n c : Nat) : (#[Value.int .i64 q, .int .i64 t, .slice A n c] : Array Value).all (·.oneCell') = true := by simp [Value.oneCell']
theorem Rw.take {w : World} {A : Option Addr} {n c k : Nat} {zs : List Int} (h : Rw w A n c zs) (hk : k ≤ n) : Rw w A k c (zs.take k) := by
  refine ⟨?_, Nat.le_trans hk h.2.1, h.2.2⟩
  have := h.1.take hk
  rwa [by8, ← List.map_take] at this

set_option maxRecDepth 100000 in
set_option maxHeartbeats 32000000 in
theorem back_walk (q0 t0 q t k a b d : Int) (s : ByteArray) (A : Option Addr) (n cp : Nat) (ss : List ByteArray) (B : Option Addr) (m c : Nat) (zs : List Int) (cu : Int) (M : Option Addr) (mm cm : Nat) (ms : List Int) (w : World) (hR : Rs w A n cp ss) (hsl : s.size ≤ maxLen) (hS : Rw w B m c zs) (hb : Bytes zs) (hcu : 0 ≤ cu ∧ cu ≤ 255) (hM : Rw w M mm cm ms) (hbm : Bytes ms) :
    Calls Try.prog 3 #[.agg #[.int .i64 q0, .int .i64 t0, .slice A n cp], .agg #[.int .i64 q, .int .i64 t, .int .i64 k, .string s, .int .i64 a, .int .i64 b, .int .i64 d], .slice B m c, .int .u8 cu, .slice M mm cm] w fun e w' => e = .returned (.bool true) ∧ Below w.heap.size w w' := by
  have hcm := hR.2.2.1
  have PS := hid (fun (w1 : World) (h : Below w.heap.size w w1) => RShort_any (c := cp) (hR.below h).1 (Nat.le_trans hR.2.1 hR.2.2.1))
  have hbA : Below w.heap.size w ((w.alloc (.cells #[.int .i64 q0, .int .i64 t0, .slice A n cp] 24)).alloc (.cells #[.int .i64 q, .int .i64 t, .int .i64 k, .string s, .int .i64 a, .int .i64 b, .int .i64 d] 26)) := ((Below.refl _ _).alloc (Nat.le_refl _) _).alloc (by simp) _
  cases h0 : shB ss with
  | false =>
    rw [h0] at PS
    clear hR hS hM
    go_enter Try.func3, Try.ntmps3
    go_wp2_with fail
    refine (awake7 _).mono ?_
    rintro e w1 ⟨rfl, hb1⟩
    have hbw1 : Below w.heap.size w w1 := hbA.trans (hb1.mono hbA.size)
    obtain ⟨K1, K2⟩ := kept2 hb1
    have z1 := blk_lt K1
    obtain ⟨u10, u11, u12, f10, f11, f12⟩ := blk3 K1
    have z2 := blk_lt K2
    obtain ⟨u20, u21, u22, u23, u24, u25, u26⟩ := blk7 K2
    have HK := hid (And.intro K1 (K2))
    clear K1 K2
    clear hb1
    go_wp2_with fail
    refine (PS.out _ hbw1).mono ?_
    rintro e w9 ⟨rfl, rfl⟩
    go_wp2_with fail
    go_ret
    exact ⟨rfl, hbw1⟩
  | true =>
    rw [h0] at PS
    by_cases hs : (100 : Int) < s.size
    · clear hR hS hM
      go_enter Try.func3, Try.ntmps3
      go_wp2_with fail
      refine (awake7 _).mono ?_
      rintro e w1 ⟨rfl, hb1⟩
      have hbw1 : Below w.heap.size w w1 := hbA.trans (hb1.mono hbA.size)
      obtain ⟨K1, K2⟩ := kept2 hb1
      have z1 := blk_lt K1
      obtain ⟨u10, u11, u12, f10, f11, f12⟩ := blk3 K1
      have z2 := blk_lt K2
      obtain ⟨u20, u21, u22, u23, u24, u25, u26⟩ := blk7 K2
      have HK := hid (And.intro K1 (K2))
      clear K1 K2
      clear hb1
      go_wp2_with fail
      refine (PS.out _ hbw1).mono ?_
      rintro e w9 ⟨rfl, rfl⟩
      go_wp2_with fail
      go_ret
      exact ⟨rfl, hbw1⟩
    · by_cases hm : (300 : Int) < m
      · clear hR hS hM
        go_enter Try.func3, Try.ntmps3
        go_wp2_with fail
        refine (awake7 _).mono ?_
        rintro e w1 ⟨rfl, hb1⟩
        have hbw1 : Below w.heap.size w w1 := hbA.trans (hb1.mono hbA.size)
        obtain ⟨K1, K2⟩ := kept2 hb1
        have z1 := blk_lt K1
        obtain ⟨u10, u11, u12, f10, f11, f12⟩ := blk3 K1
        have z2 := blk_lt K2
        obtain ⟨u20, u21, u22, u23, u24, u25, u26⟩ := blk7 K2
        have HK := hid (And.intro K1 (K2))
        clear K1 K2
        clear hb1
        go_wp2_with fail
        refine (PS.out _ hbw1).mono ?_
        rintro e w9 ⟨rfl, rfl⟩
        go_wp2_with fail
        go_ret
        exact ⟨rfl, hbw1⟩
      · by_cases hmm : (300 : Int) < mm
        · clear hR hS hM
          go_enter Try.func3, Try.ntmps3
          go_wp2_with fail
          refine (awake7 _).mono ?_
          rintro e w1 ⟨rfl, hb1⟩
          have hbw1 : Below w.heap.size w w1 := hbA.trans (hb1.mono hbA.size)
          obtain ⟨K1, K2⟩ := kept2 hb1
          have z1 := blk_lt K1
          obtain ⟨u10, u11, u12, f10, f11, f12⟩ := blk3 K1
          have z2 := blk_lt K2
          obtain ⟨u20, u21, u22, u23, u24, u25, u26⟩ := blk7 K2
          have HK := hid (And.intro K1 (K2))
          clear K1 K2
          clear hb1
          go_wp2_with fail
          refine (PS.out _ hbw1).mono ?_
          rintro e w9 ⟨rfl, rfl⟩
          go_wp2_with fail
          go_ret
          exact ⟨rfl, hbw1⟩
        · obtain ⟨hok, h60, -⟩ := shB_ok h0
          have hn : n ≤ 60 := by have := hR.len; omega
          have HR := hid (fun (w1 : World) (h : Below w.heap.size w w1) => hR.below h)
          have HS := hid (fun (w1 : World) (h : Below w.heap.size w w1) => hS.below h)
          have HM := hid (fun (w1 : World) (h : Below w.heap.size w w1) => hM.below h)
          have HOK := hid hok
          have HB := hid hb
          have HBM := hid hbm
          have hss := hid h60
          have hmml := hid hM.len
          have PE1 := hid (fun (w1 : World) (h : Below w.heap.size w w1) => Encode_any q0 t0 hok q t k a b d hsl (hR.below h) (by omega))
          have PE2 := hid (fun (w1 : World) (h : Below w.heap.size w w1) (X : Ev) (hx : X.s.size ≤ maxLen) => Encode_any q0 t0 hok X.q X.t X.k X.a X.b X.c hx (hR.below h) (by omega))
          have PD := hid (fun (w1 : World) (h : Below w.heap.size w w1) => Decode_any q0 t0 hok (hR.below h) (by omega) (hS.below h) hb (by omega))
          have PDZ := hid (fun (w1 : World) (h : Below w.heap.size w w1) (B9 : Option Addr) (m9 c9 : Nat) (zs9 : List Int) (hS9 : Rw w1 B9 m9 c9 zs9) (hb9 : Bytes zs9) (h9 : m9 ≤ 100000) => Decode_any q0 t0 hok (hR.below h) (by omega) hS9 hb9 h9)
          unfold Encs at PE1 PE2
          unfold Decs at PD PDZ
          clear hR hS hM hok hb hbm h60
          by_cases hE : enE q0 t0 ss ⟨q, t, k, s, a, b, d⟩ = 0
          case neg =>
            obtain ⟨n1, n2, n3, n4⟩ := en_not hE
            rw [n1, n2, n3, n4] at PE1
            clear n1 n2 n3 n4
            generalize enE q0 t0 ss ⟨q, t, k, s, a, b, d⟩ = E at *
            go_enter Try.func3, Try.ntmps3
            go_wp2_with fail
            refine (awake7 _).mono ?_
            rintro e w1 ⟨rfl, hb1⟩
            have hbw1 : Below w.heap.size w w1 := hbA.trans (hb1.mono hbA.size)
            obtain ⟨K1, K2⟩ := kept2 hb1
            have z1 := blk_lt K1
            obtain ⟨u10, u11, u12, f10, f11, f12⟩ := blk3 K1
            have z2 := blk_lt K2
            obtain ⟨u20, u21, u22, u23, u24, u25, u26⟩ := blk7 K2
            have HK := hid (And.intro K1 (K2))
            clear K1 K2
            clear hb1
            go_wp2_with fail
            refine (PS.out _ hbw1).mono ?_
            rintro e w9 ⟨rfl, rfl⟩
            go_wp2_with fail
            refine (PE1.out _ hbw1).mono ?_
            rintro e w2 ⟨⟨A1, n1, c1, A2, n2, c2, rfl, -, -⟩, hb1⟩
            have hbw2 : Below w.heap.size w w2 := hbw1.trans (hb1.mono hbw1.size)
            have K1 := (hb1.block _ z1).trans HK.out.1
            have K2 := (hb1.block _ z2).trans HK.out.2
            clear z1 u10 u11 u12 f10 f11 f12 z2 u20 u21 u22 u23 u24 u25 u26 HK
            have z1 := blk_lt K1
            obtain ⟨u10, u11, u12, f10, f11, f12⟩ := blk3 K1
            have z2 := blk_lt K2
            obtain ⟨u20, u21, u22, u23, u24, u25, u26⟩ := blk7 K2
            have HK := hid (And.intro K1 (K2))
            clear K1 K2
            clear hb1 hbw1 PE1
            go_wp2_with fail
            obtain ⟨g12, hg12⟩ : ∃ g, w2.heap.size = g := ⟨_, rfl⟩
            have lg12 : w.heap.size + 2 ≤ g12 := by omega
            obtain ⟨w3, hW3⟩ : ∃ w9, w9 = w2.alloc (.cells #[.int .i64 q0, .int .i64 t0, .slice A2 n2 c2] 24) := ⟨_, rfl⟩
            rw [← hW3, hg12]
            have E1 := (Below.heap_alloc w2 (.cells #[.int .i64 q0, .int .i64 t0, .slice A2 n2 c2] 24) _ z1).trans HK.out.1
            have E2 := (Below.heap_alloc w2 (.cells #[.int .i64 q0, .int .i64 t0, .slice A2 n2 c2] 24) _ z2).trans HK.out.2
            have E3 := heap_alloc_new w2 (.cells #[.int .i64 q0, .int .i64 t0, .slice A2 n2 c2] 24)
            have hbw3 := hbw2.alloc (by omega) (.cells #[.int .i64 q0, .int .i64 t0, .slice A2 n2 c2] 24)
            rw [← hW3] at E1 E2 E3 hbw3
            rw [hg12] at E3
            have K1 := E1
            have K2 := E2
            have K3 := E3
            clear E1 E2 E3 HK hbw2 z1 u10 u11 u12 f10 f11 f12 z2 u20 u21 u22 u23 u24 u25 u26
            have z1 := blk_lt K1
            obtain ⟨u10, u11, u12, f10, f11, f12⟩ := blk3 K1
            have z2 := blk_lt K2
            obtain ⟨u20, u21, u22, u23, u24, u25, u26⟩ := blk7 K2
            have z3 := blk_lt K3
            obtain ⟨u30, u31, u32, f30, f31, f32⟩ := blk3 K3
            have HK := hid (And.intro K1 (And.intro K2 (K3)))
            clear K1 K2 K3
            clear hW3 hg12
            by_cases hde : deE q0 t0 ss zs = 0
            case pos =>
              obtain ⟨hrc, hfo⟩ := de_zero hde
              obtain ⟨y1, y2, y3, y4, y5⟩ := de_yes hrc hfo
              rw [y2, y3, y4, y5] at PD
              unfold evV at PD
              have hxs : (deX q0 t0 ss zs).s.size ≤ maxLen := by have := nm_size (fl_ok hrc hfo.1).nm; unfold maxLen; omega
              have PE3 := hid (fun (w1 : World) (h : Below w.heap.size w w1) => PE2.out w1 h (deX q0 t0 ss zs) hxs)
              have he0 : enE q0 t0 ss (deX q0 t0 ss zs) = 0 := (en_fl hrc).trans hfo.1
              obtain ⟨-, -, z3, z4, z5, z6⟩ := en_zero he0
              have hFL := hid (flL_small ss (deX q0 t0 ss zs))
              have PE4 := PE3.out
              change ∀ (w1 : World) (h : Below w.heap.size w w1), Calls _ _ _ w1 (fun e w' => (∃ (A1 : Option Addr) (n1 c1 : Nat) (A2 : Option Addr) (n2 c2 : Nat), e = .returned (.tuple #[.slice A1 n1 c1, .agg #[.int .i64 (enQ q0 t0 ss (deX q0 t0 ss zs)), .int .i64 (enT q0 t0 ss (deX q0 t0 ss zs)), .slice A2 n2 c2], .int .i64 (enE q0 t0 ss (deX q0 t0 ss zs))]) ∧ Rw w' A1 n1 c1 (enB q0 t0 ss (deX q0 t0 ss zs)) ∧ Rs w' A2 n2 c2 (enL q0 t0 ss (deX q0 t0 ss zs))) ∧ Below w1.heap.size w1 w') at PE4
              rw [z3, z4, z5, z6, he0, hfo.2] at PE4
              have PE5 := hid PE4
              clear PE2 PE3 PE4 z3 z4 z5 z6 y1 y2 y3 y4 y5 he0 hfo hrc hxs hde
              generalize deX q0 t0 ss zs = X at *
              generalize flL ss X = LX at *
              refine (PD.out _ hbw3).mono ?_
              rintro e wt1 ⟨⟨A5, n5, c5, rfl, hR5⟩, hb1⟩
              have hbwt1 : Below w.heap.size w wt1 := hbw3.trans (hb1.mono hbw3.size)
              have K1 := (hb1.block _ z1).trans HK.out.1
              have K2 := (hb1.block _ z2).trans HK.out.2.1
              have K3 := (hb1.block _ z3).trans HK.out.2.2
              clear z1 u10 u11 u12 f10 f11 f12 z2 u20 u21 u22 u23 u24 u25 u26 z3 u30 u31 u32 f30 f31 f32 HK
              have z1 := blk_lt K1
              obtain ⟨u10, u11, u12, f10, f11, f12⟩ := blk3 K1
              have z2 := blk_lt K2
              obtain ⟨u20, u21, u22, u23, u24, u25, u26⟩ := blk7 K2
              have z3 := blk_lt K3
              obtain ⟨u30, u31, u32, f30, f31, f32⟩ := blk3 K3
              have HK := hid (And.intro K1 (And.intro K2 (K3)))
              clear K1 K2 K3
              have HR5 := hid hR5
              clear hb1 hR5 PD
              have hal : Below wt1.heap.size wt1 ((wt1.alloc (.cells #[.int .i64 X.q, .int .i64 X.t, .int .i64 X.k, .string X.s, .int .i64 X.a, .int .i64 X.b, .int .i64 X.c] 26)).alloc (.cells #[.int .i64 X.q, .int .i64 X.t, .slice A5 n5 c5] 24)) := ((Below.refl _ _).alloc (Nat.le_refl _) _).alloc (by simp) _
              go_wp2_with fail
              refine (PE5.out _ (hbwt1.trans (hal.mono hbwt1.size))).mono ?_
              rintro e wt2 ⟨⟨A6, n6, c6, A7, n7, c7, rfl, hR6, hR7⟩, hb2⟩
              have HR8 := hid ((HR5.out.below hal).below hb2)
              have HR6 := hid hR6
              have HR7 := hid hR7
              have K24 := (hb2.block (wt1.heap.size + 1) (by simp)).trans (show ((wt1.alloc (.cells #[.int .i64 X.q, .int .i64 X.t, .int .i64 X.k, .string X.s, .int .i64 X.a, .int .i64 X.b, .int .i64 X.c] 26)).alloc (.cells #[.int .i64 X.q, .int .i64 X.t, .slice A5 n5 c5] 24)).heap[wt1.heap.size + 1]? = some (.cells #[.int .i64 X.q, .int .i64 X.t, .slice A5 n5 c5] 24 (0, 0)) by have := heap_alloc_new (wt1.alloc (.cells #[.int .i64 X.q, .int .i64 X.t, .int .i64 X.k, .string X.s, .int .i64 X.a, .int .i64 X.b, .int .i64 X.c] 26)) (.cells #[.int .i64 X.q, .int .i64 X.t, .slice A5 n5 c5] 24); rwa [World.size_alloc] at this)
              obtain ⟨g24, hg24⟩ : ∃ g, wt1.heap.size + 1 = g := ⟨_, rfl⟩
              rw [hg24] at K24
              have lg24 : w.heap.size + 2 ≤ g24 := by omega
              have lg12a : g12 < g24 := by omega
              have hbwt2 : Below w.heap.size w wt2 := ((hbwt1.alloc (by omega) _).alloc (by simp; omega) _).trans (hb2.mono (by simp; omega))
              have K1 := (hb2.block _ (by simp; omega)).trans ((Below.heap_alloc _ _ _ (by simp; omega)).trans ((Below.heap_alloc _ _ _ z1).trans HK.out.1))
              have K2 := (hb2.block _ (by simp; omega)).trans ((Below.heap_alloc _ _ _ (by simp; omega)).trans ((Below.heap_alloc _ _ _ z2).trans HK.out.2.1))
              have K3 := (hb2.block _ (by simp; omega)).trans ((Below.heap_alloc _ _ _ (by simp; omega)).trans ((Below.heap_alloc _ _ _ z3).trans HK.out.2.2))
              clear z1 u10 u11 u12 f10 f11 f12 z2 u20 u21 u22 u23 u24 u25 u26 z3 u30 u31 u32 f30 f31 f32 HK
              have z1 := blk_lt K1
              obtain ⟨u10, u11, u12, f10, f11, f12⟩ := blk3 K1
              have z2 := blk_lt K2
              obtain ⟨u20, u21, u22, u23, u24, u25, u26⟩ := blk7 K2
              have z3 := blk_lt K3
              obtain ⟨u30, u31, u32, f30, f31, f32⟩ := blk3 K3
              have HK := hid (And.intro K1 (And.intro K2 (K3)))
              clear K1 K2 K3
              rw [hg24]
              have z9 := blk_lt K24
              obtain ⟨u90, u91, u92, f90, f91, f92⟩ := blk3 K24
              have HK24 := hid K24
              clear K24 hb2 hal hg24 hR6 hR7 HR5 PE5
              have k1 := fun (x y z : Value) => conv8 c6 ((HR6.out.lts HK.out.2.2 (sto3 wt2 g12 x y z).lts)).1
              have k2 := fun (x y z : Value) => conv8 c (HS.out _ ((sto3 wt2 g12 x y z).below hbwt2 (by omega))).1
              have he : ((strOfNums zs).toList == (strOfNums zs).toList) = true := by simp
              have hne1 : ¬ g24 = g12 := by omega
              have hne2 : ¬ g12 = g24 := by omega
              have S4 := sto3 wt2 g12 (.int .i64 X.q) (.int .i64 X.t) (.slice A7 n7 c7)
              have hbX := S4.below hbwt2 (by omega)
              have PSA := hid (RSame7 (q0 := X.q) (t0 := X.t) (q1 := X.q) (t1 := X.t) (c := c7) (c' := c5) (HR7.out.lts HK.out.2.2 S4.lts) (HR8.out.lts HK.out.2.2 S4.lts) (show n7 ≤ 1000000 by have := HR7.out.len; have := hFL.out; have := hss.out; omega))
              rw [show decide (X.q = X.q ∧ X.t = X.t ∧ LX = LX) = true by simp] at PSA
              clear S4
              go_wp2_with fail
              with_reducible refine PSA.out.mono ?_
              rintro e wt3 ⟨rfl, hb3⟩
              go_wp2_with fail
              go_ret
              exact ⟨rfl, hbX.trans (hb3.mono hbX.size)⟩
            case neg =>
              obtain ⟨y1, y2, y3, y4, y5⟩ := de_not (fun ho : deO q0 t0 ss zs => hde (de_o ho))
              rw [y1, y3, y4, y5, show evV ev0 = .agg #[.int .i64 0, .int .i64 0, .int .i64 0, .string ⟨#[]⟩, .int .i64 0, .int .i64 0, .int .i64 0] from rfl] at PD
              clear y1 y2 y3 y4 y5
              generalize deE q0 t0 ss zs = DE at *
              have hEq := eq_event 0 0 0 0 0 0 ⟨#[]⟩
              refine (PD.out _ hbw3).mono ?_
              rintro e wt1 ⟨⟨A5, n5, c5, rfl, hR5⟩, hb1⟩
              have hbwt1 : Below w.heap.size w wt1 := hbw3.trans (hb1.mono hbw3.size)
              have K1 := (hb1.block _ z1).trans HK.out.1
              have K2 := (hb1.block _ z2).trans HK.out.2.1
              have K3 := (hb1.block _ z3).trans HK.out.2.2
              clear z1 u10 u11 u12 f10 f11 f12 z2 u20 u21 u22 u23 u24 u25 u26 z3 u30 u31 u32 f30 f31 f32 HK
              have z1 := blk_lt K1
              obtain ⟨u10, u11, u12, f10, f11, f12⟩ := blk3 K1
              have z2 := blk_lt K2
              obtain ⟨u20, u21, u22, u23, u24, u25, u26⟩ := blk7 K2
              have z3 := blk_lt K3
              obtain ⟨u30, u31, u32, f30, f31, f32⟩ := blk3 K3
              have HK := hid (And.intro K1 (And.intro K2 (K3)))
              clear K1 K2 K3
              have HR5 := hid hR5
              clear hb1 hR5 PD
              have hal : Below wt1.heap.size wt1 ((wt1.alloc (.cells #[.int .i64 0, .int .i64 0, .int .i64 0, .string ⟨#[]⟩, .int .i64 0, .int .i64 0, .int .i64 0] 26)).alloc (.cells #[.int .i64 q0, .int .i64 t0, .slice A5 n5 c5] 24)) := ((Below.refl _ _).alloc (Nat.le_refl _) _).alloc (by simp) _
              have hbX := hbwt1.trans (hal.mono hbwt1.size)
              have PSA := hid (RSame7 (q0 := q0) (t0 := t0) (q1 := q0) (t1 := t0) (c := c5) (c' := cp) (HR5.out.below hal) (HR.out _ hbX) (show n5 ≤ 1000000 by have := HR5.out.len; have := hss.out; omega))
              rw [show decide (q0 = q0 ∧ t0 = t0 ∧ ss = ss) = true by simp] at PSA
              go_wp2_with fail
              with_reducible refine PSA.out.mono ?_
              rintro e wt3 ⟨rfl, hb3⟩
              go_wp2_with fail
              go_ret
              exact ⟨rfl, hbX.trans (hb3.mono hbX.size)⟩
          case pos =>
            obtain ⟨hr, hf, n1, n2, n3, n4⟩ := en_zero hE
            have ok := fl_ok hr hf
            rw [n1, n2, n3, n4, hE] at PE1
            have hL := sp_len ok
            have HNXT := hid (rc_next hr hf)
            have hFLs := hid (flL_small ss ⟨q, t, k, s, a, b, d⟩)
            have HSB := hid (sp_bytes q0 t0 ss ⟨q, t, k, s, a, b, d⟩)
            have HDY := hid (de_yes hr (⟨hf, rfl⟩ : Fo q0 t0 ss ⟨q, t, k, s, a, b, d⟩ (spB q0 t0 ss ⟨q, t, k, s, a, b, d⟩)))
            have HDC := hid (fun (j : Nat) (hj : j < (spB q0 t0 ss ⟨q, t, k, s, a, b, d⟩).length) => de_none hr (fun y hy => no_cut ok hr hj hy))
            have HDM := hid (fun (hmo : ms ≠ []) => de_none (zs := spB q0 t0 ss ⟨q, t, k, s, a, b, d⟩ ++ ms) hr (fun y hy => no_more ok hr hmo hy))
            have HEV : Hid (evV ⟨q, t, k, s, a, b, d⟩ = .agg #[.int .i64 q, .int .i64 t, .int .i64 k, .string s, .int .i64 a, .int .i64 b, .int .i64 d]) := rfl
            clear n1 n2 n3 n4 hE hf ok hr
            generalize flL ss ⟨q, t, k, s, a, b, d⟩ = FL at *
            generalize spB q0 t0 ss ⟨q, t, k, s, a, b, d⟩ = SP at *
            obtain ⟨cun, rfl⟩ : ∃ cun : Nat, cu = (cun : Int) := ⟨cu.toNat, by omega⟩
            have hcn : cun ≤ 255 := by omega
            have hL1 := hL.2.2.2.1
            have hL2 := hL.2.2.2.2
            have HL1 := hid hL1
            have HL2 := hid hL2
            clear hL hL1 hL2
            have hEq := eq_event q t k a b d s
            go_enter Try.func3, Try.ntmps3
            go_wp2_with fail
            refine (awake7 _).mono ?_
            rintro e w1 ⟨rfl, hb1⟩
            have hbw1 : Below w.heap.size w w1 := hbA.trans (hb1.mono hbA.size)
            obtain ⟨K1, K2⟩ := kept2 hb1
            have z1 := blk_lt K1
            obtain ⟨u10, u11, u12, f10, f11, f12⟩ := blk3 K1
            have z2 := blk_lt K2
            obtain ⟨u20, u21, u22, u23, u24, u25, u26⟩ := blk7 K2
            have HK := hid (And.intro K1 (K2))
            clear K1 K2
            clear hb1
            go_wp2_with fail
            refine (PS.out _ hbw1).mono ?_
            rintro e w9 ⟨rfl, rfl⟩
            go_wp2_with fail
            refine (PE1.out _ hbw1).mono ?_
            rintro e w2 ⟨⟨A1, n1, c1, A2, n2, c2, rfl, hR1, hR2⟩, hb1⟩
            have hbw2 : Below w.heap.size w w2 := hbw1.trans (hb1.mono hbw1.size)
            have K1 := (hb1.block _ z1).trans HK.out.1
            have K2 := (hb1.block _ z2).trans HK.out.2
            clear z1 u10 u11 u12 f10 f11 f12 z2 u20 u21 u22 u23 u24 u25 u26 HK
            have z1 := blk_lt K1
            obtain ⟨u10, u11, u12, f10, f11, f12⟩ := blk3 K1
            have z2 := blk_lt K2
            obtain ⟨u20, u21, u22, u23, u24, u25, u26⟩ := blk7 K2
            have HK := hid (And.intro K1 (K2))
            clear K1 K2
            have HR1 := hid hR1
            have HR2 := hid hR2
            clear hb1 hR1 hR2 hbw1 PE1
            go_wp2_with fail
            obtain ⟨g12, hg12⟩ : ∃ g, w2.heap.size = g := ⟨_, rfl⟩
            have lg12 : w.heap.size + 2 ≤ g12 := by omega
            obtain ⟨w3, hW3⟩ : ∃ w9, w9 = w2.alloc (.cells #[.int .i64 q, .int .i64 t, .slice A2 n2 c2] 24) := ⟨_, rfl⟩
            rw [← hW3, hg12]
            have E1 := (Below.heap_alloc w2 (.cells #[.int .i64 q, .int .i64 t, .slice A2 n2 c2] 24) _ z1).trans HK.out.1
            have E2 := (Below.heap_alloc w2 (.cells #[.int .i64 q, .int .i64 t, .slice A2 n2 c2] 24) _ z2).trans HK.out.2
            have E3 := heap_alloc_new w2 (.cells #[.int .i64 q, .int .i64 t, .slice A2 n2 c2] 24)
            have hbw3 := hbw2.alloc (by omega) (.cells #[.int .i64 q, .int .i64 t, .slice A2 n2 c2] 24)
            rw [← hW3] at E1 E2 E3 hbw3
            rw [hg12] at E3
            have K1 := E1
            have K2 := E2
            have K3 := E3
            clear E1 E2 E3 HK hbw2 z1 u10 u11 u12 f10 f11 f12 z2 u20 u21 u22 u23 u24 u25 u26
            have z1 := blk_lt K1
            obtain ⟨u10, u11, u12, f10, f11, f12⟩ := blk3 K1
            have z2 := blk_lt K2
            obtain ⟨u20, u21, u22, u23, u24, u25, u26⟩ := blk7 K2
            have z3 := blk_lt K3
            obtain ⟨u30, u31, u32, f30, f31, f32⟩ := blk3 K3
            have HK := hid (And.intro K1 (And.intro K2 (K3)))
            clear K1 K2 K3
            have hal : Below w2.heap.size w2 w3 := by rw [hW3]; exact (Below.refl _ _).alloc (Nat.le_refl _) _
            have HR3 := hid (HR1.out.below hal)
            have HR4 := hid (HR2.out.below hal)
            clear hal HR1 HR2 hW3 hg12
            have PDX := hid (PDZ.out _ hbw3 A1 n1 c1 SP HR3.out HSB.out (by have := HR3.out.len; have := HL1.out; omega))
            rw [HDY.out.1, HDY.out.2.1, HDY.out.2.2.1, HDY.out.2.2.2.1, HDY.out.2.2.2.2, HEV.out] at PDX
            refine PDX.out.mono ?_
            rintro e w4 ⟨⟨A5, n5, c5, rfl, hR5⟩, hb1⟩
            have HR5 := hid hR5
            have HR6 := hid (HR3.out.below hb1)
            have HR7 := hid (HR4.out.below hb1)
            clear hR5 HR3 HR4 PDX
            have hbw4 : Below w.heap.size w w4 := hbw3.trans (hb1.mono hbw3.size)
            have K1 := (hb1.block _ z1).trans HK.out.1
            have K2 := (hb1.block _ z2).trans HK.out.2.1
            have K3 := (hb1.block _ z3).trans HK.out.2.2
            clear z1 u10 u11 u12 f10 f11 f12 z2 u20 u21 u22 u23 u24 u25 u26 z3 u30 u31 u32 f30 f31 f32 HK
            have z1 := blk_lt K1
            obtain ⟨u10, u11, u12, f10, f11, f12⟩ := blk3 K1
            have z2 := blk_lt K2
            obtain ⟨u20, u21, u22, u23, u24, u25, u26⟩ := blk7 K2
            have z3 := blk_lt K3
            obtain ⟨u30, u31, u32, f30, f31, f32⟩ := blk3 K3
            have HK := hid (And.intro K1 (And.intro K2 (K3)))
            clear K1 K2 K3
            clear hb1 hbw3
            have hal : Below w4.heap.size w4 ((w4.alloc (.cells #[.int .i64 q, .int .i64 t, .int .i64 k, .string s, .int .i64 a, .int .i64 b, .int .i64 d] 26)).alloc (.cells #[.int .i64 q, .int .i64 t, .slice A5 n5 c5] 24)) := ((Below.refl _ _).alloc (Nat.le_refl _) _).alloc (by simp) _
            have PSA := hid (RSame7 (q0 := q) (t0 := t) (q1 := q) (t1 := t) (c := c2) (c' := c5) (HR7.out.below hal) (HR5.out.below hal) (show n2 ≤ 1000000 by have := HR7.out.len; have := hFLs.out; have := hss.out; omega))
            rw [show decide (q = q ∧ t = t ∧ FL = FL) = true by simp] at PSA
            go_wp2_with fail
            with_reducible refine PSA.out.mono ?_
            rintro e w5 ⟨rfl, hb1⟩
            have HR8 := hid ((HR6.out.below hal).below hb1)
            have HR9 := hid ((HR7.out.below hal).below hb1)
            clear HR6 HR7 HR5 PSA hal
            have hbw5 : Below w.heap.size w w5 := ((hbw4.alloc (by omega) _).alloc (by simp; omega) _).trans (hb1.mono (by simp; omega))
            have K1 := (hb1.block _ (by simp; omega)).trans ((Below.heap_alloc _ _ _ (by simp; omega)).trans ((Below.heap_alloc _ _ _ z1).trans HK.out.1))
            have K2 := (hb1.block _ (by simp; omega)).trans ((Below.heap_alloc _ _ _ (by simp; omega)).trans ((Below.heap_alloc _ _ _ z2).trans HK.out.2.1))
            have K3 := (hb1.block _ (by simp; omega)).trans ((Below.heap_alloc _ _ _ (by simp; omega)).trans ((Below.heap_alloc _ _ _ z3).trans HK.out.2.2))
            clear z1 u10 u11 u12 f10 f11 f12 z2 u20 u21 u22 u23 u24 u25 u26 z3 u30 u31 u32 f30 f31 f32 HK
            have z1 := blk_lt K1
            obtain ⟨u10, u11, u12, f10, f11, f12⟩ := blk3 K1
            have z2 := blk_lt K2
            obtain ⟨u20, u21, u22, u23, u24, u25, u26⟩ := blk7 K2
            have z3 := blk_lt K3
            obtain ⟨u30, u31, u32, f30, f31, f32⟩ := blk3 K3
            have HK := hid (And.intro K1 (And.intro K2 (K3)))
            clear K1 K2 K3
            clear hb1 hbw4
            have hFok : Ok9 FL := ⟨by have := hFLs.out; have := hss.out; omega, fun s hs => by
              have h1 := nm_size (((rgB_iff _).1 ((rc_iff _ _ _).1 HNXT.out).2.2).2.1 s hs)
              unfold maxLen; omega⟩
            have PRT := hid (CRight_any q t (cp := c2) hFok HR9.out.1 (Nat.le_refl _))
            rw [HNXT.out] at PRT
            have hn1 : n1 = SP.length := HR8.out.len
            have hn1' : ¬ (n1 : Int) = 0 := by have := HL2.out; omega
            have hn0 : ((n1 : Int) == 0) = false := by simpa using hn1'
            have HN1 := hid hn1
            clear hn1
            go_wp2_with fail
            with_reducible refine PRT.out.mono ?_
            rintro e w6 ⟨rfl, hb1⟩
            have HR10 := hid (HR8.out.below hb1)
            clear HR8 HR9 PRT hFok
            have hbw6 : Below w.heap.size w w6 := hbw5.trans (hb1.mono hbw5.size)
            have K1 := (hb1.block _ z1).trans HK.out.1
            have K2 := (hb1.block _ z2).trans HK.out.2.1
            have K3 := (hb1.block _ z3).trans HK.out.2.2
            clear z1 u10 u11 u12 f10 f11 f12 z2 u20 u21 u22 u23 u24 u25 u26 z3 u30 u31 u32 f30 f31 f32 HK
            have z1 := blk_lt K1
            obtain ⟨u10, u11, u12, f10, f11, f12⟩ := blk3 K1
            have z2 := blk_lt K2
            obtain ⟨u20, u21, u22, u23, u24, u25, u26⟩ := blk7 K2
            have z3 := blk_lt K3
            obtain ⟨u30, u31, u32, f30, f31, f32⟩ := blk3 K3
            have HK := hid (And.intro K1 (And.intro K2 (K3)))
            clear K1 K2 K3
            clear hb1 hbw5
            go_wp2_with fail
            have hkm : cun % n1 < n1 := Nat.mod_lt _ (by omega)
            have hnc : n1 ≤ c1 := HR10.out.2.1
            have hcm9 : c1 ≤ 9223372036854775807 := by have := HR10.out.2.2.1; unfold maxLen at this; omega
            refine wp_region_envd (A := fun vs => { tmps := #[Value.agg #[Value.int IntKind.i64 q0, Value.int IntKind.i64 t0, Value.slice A n cp], Value.agg #[Value.int IntKind.i64 q, Value.int IntKind.i64 t, Value.int IntKind.i64 k, Value.string s, Value.int IntKind.i64 a, Value.int IntKind.i64 b, Value.int IntKind.i64 d], Value.slice B m c, Value.int IntKind.u8 ↑cun, Value.slice M mm cm, Value.pointer (some { block := w.heap.size, off := 0 }), Value.pointer (some { block := w.heap.size + 1, off := 0 }), undef, undef, undef, Value.bool false, Value.slice A1 n1 c1, Value.pointer (some { block := g12, off := 0 }), Value.int IntKind.i64 0, Value.pointer (some { block := w4.heap.size, off := 0 }), Value.pointer (some { block := w4.heap.size + 1, off := 0 }), Value.int IntKind.i64 0, vs 13, vs 14, vs 17, undef, undef, undef, undef, undef, undef, undef, Value.bool true, Value.bool false, Value.pointer (some { block := w.heap.size, off := 2 }), Value.slice A n cp, Value.bool true, Value.bool false, Value.bool false, Value.pointer (some { block := w.heap.size + 1, off := 3 }), Value.string s, Value.int IntKind.i64 ↑s.size, Value.bool (decide ((100 : Int) < ↑s.size)), Value.bool (decide ((100 : Int) < ↑s.size)), Value.bool (decide ((100 : Int) < ↑s.size)), Value.slice B m c, Value.int IntKind.i64 ↑m, Value.bool (decide ((300 : Int) < ↑m)), Value.bool (decide ((100 : Int) < ↑s.size) || decide ((300 : Int) < ↑m)), Value.bool (decide ((100 : Int) < ↑s.size) || decide ((300 : Int) < ↑m)), Value.slice M mm cm, Value.int IntKind.i64 ↑mm, Value.bool (decide ((300 : Int) < ↑mm)), Value.bool (decide ((100 : Int) < ↑s.size) || decide ((300 : Int) < ↑m) || decide ((300 : Int) < ↑mm)), Value.tuple #[Value.slice A1 n1 c1, Value.agg #[Value.int IntKind.i64 q, Value.int IntKind.i64 t, Value.slice A2 n2 c2], Value.int IntKind.i64 0], Value.agg #[Value.int IntKind.i64 q0, Value.int IntKind.i64 t0, Value.slice A n cp], Value.agg #[Value.int IntKind.i64 q, Value.int IntKind.i64 t, Value.int IntKind.i64 k, Value.string s, Value.int IntKind.i64 a, Value.int IntKind.i64 b, Value.int IntKind.i64 d], Value.tuple #[Value.slice A1 n1 c1, Value.agg #[Value.int IntKind.i64 q, Value.int IntKind.i64 t, Value.slice A2 n2 c2], Value.int IntKind.i64 0], Value.slice A1 n1 c1, Value.agg #[Value.int IntKind.i64 q, Value.int IntKind.i64 t, Value.slice A2 n2 c2], Value.int IntKind.i64 0, Value.int IntKind.i64 0, Value.bool true, Value.tuple #[Value.agg #[Value.int IntKind.i64 q, Value.int IntKind.i64 t, Value.int IntKind.i64 k, Value.string s, Value.int IntKind.i64 a, Value.int IntKind.i64 b, Value.int IntKind.i64 d], Value.agg #[Value.int IntKind.i64 q, Value.int IntKind.i64 t, Value.slice A5 n5 c5], Value.int IntKind.i64 0], Value.agg #[Value.int IntKind.i64 q0, Value.int IntKind.i64 t0, Value.slice A n cp], Value.slice A1 n1 c1, Value.tuple #[Value.agg #[Value.int IntKind.i64 q, Value.int IntKind.i64 t, Value.int IntKind.i64 k, Value.string s, Value.int IntKind.i64 a, Value.int IntKind.i64 b, Value.int IntKind.i64 d], Value.agg #[Value.int IntKind.i64 q, Value.int IntKind.i64 t, Value.slice A5 n5 c5], Value.int IntKind.i64 0], Value.agg #[Value.int IntKind.i64 q, Value.int IntKind.i64 t, Value.int IntKind.i64 k, Value.string s, Value.int IntKind.i64 a, Value.int IntKind.i64 b, Value.int IntKind.i64 d], Value.agg #[Value.int IntKind.i64 q, Value.int IntKind.i64 t, Value.slice A5 n5 c5], Value.int IntKind.i64 0, Value.int IntKind.i64 0, Value.bool false, Value.bool false, Value.agg #[Value.int IntKind.i64 q, Value.int IntKind.i64 t, Value.int IntKind.i64 k, Value.string s, Value.int IntKind.i64 a, Value.int IntKind.i64 b, Value.int IntKind.i64 d], Value.agg #[Value.int IntKind.i64 q, Value.int IntKind.i64 t, Value.int IntKind.i64 k, Value.string s, Value.int IntKind.i64 a, Value.int IntKind.i64 b, Value.int IntKind.i64 d], Value.bool false, Value.bool false, Value.bool false, Value.agg #[Value.int IntKind.i64 q, Value.int IntKind.i64 t, Value.slice A2 n2 c2], Value.agg #[Value.int IntKind.i64 q, Value.int IntKind.i64 t, Value.slice A5 n5 c5], Value.bool true, Value.bool false, Value.bool false, Value.bool false, Value.agg #[Value.int IntKind.i64 q, Value.int IntKind.i64 t, Value.slice A2 n2 c2], Value.bool true, Value.bool false, Value.bool false, Value.bool false, Value.slice A1 n1 c1, Value.int IntKind.i64 ↑n1, Value.bool false, Value.bool false, vs 9, vs 0, vs 1, vs 2, vs 3, vs 4, vs 5, vs 6, vs 7, vs 8, vs 10, vs 11, vs 12, undef, undef, undef, undef, undef, undef, undef, undef, undef, undef, undef, undef, undef, undef, undef, undef, undef, undef, undef, undef, undef, undef, undef, undef, undef, undef, undef, undef, undef, undef, undef, undef, undef, undef, undef, undef, undef, undef, undef, undef, undef, undef, undef, undef, undef, undef, undef, undef, undef, undef, undef, undef, undef, undef, undef, undef, undef, undef, undef], defers := [] }) (E := fun dn i yv wq => match i with | 0 => yv = .agg #[.int .i64 q0, .int .i64 t0, .slice A n cp] | 1 => yv = .slice A1 n1 c1 | 2 => yv = .int .u8 ↑cun | 3 => yv = .int .i64 ↑cun | 4 => yv = .slice A1 n1 c1 | 5 => yv = .int .i64 ↑n1 | 6 => yv = .int .i64 ((cun : Int) % (n1 : Int)) | 7 => yv = .slice A1 (cun % n1) c1 | 8 => ∃ (A3 : Option Addr) (n3 c3 : Nat), yv = .tuple #[.agg #[.int .i64 0, .int .i64 0, .int .i64 0, .string ⟨#[]⟩, .int .i64 0, .int .i64 0, .int .i64 0], .agg #[.int .i64 q0, .int .i64 t0, .slice A3 n3 c3], .int .i64 11] | 9 => ∃ (A3 : Option Addr) (n3 c3 : Nat), yv = .tuple #[.agg #[.int .i64 0, .int .i64 0, .int .i64 0, .string ⟨#[]⟩, .int .i64 0, .int .i64 0, .int .i64 0], .agg #[.int .i64 q0, .int .i64 t0, .slice A3 n3 c3], .int .i64 11] | 10 => yv = .agg #[.int .i64 0, .int .i64 0, .int .i64 0, .string ⟨#[]⟩, .int .i64 0, .int .i64 0, .int .i64 0] | 11 => ∃ (A3 : Option Addr) (n3 c3 : Nat), yv = .agg #[.int .i64 q0, .int .i64 t0, .slice A3 n3 c3] | 12 => yv = .int .i64 11 | 13 => dn 15 = false → ∃ g, yv = .pointer (some ⟨g, 0, none⟩) ∧ w6.heap.size ≤ g ∧ wq.heap[g]? = some (.cells #[.int .i64 0, .int .i64 0, .int .i64 0, .string ⟨#[]⟩, .int .i64 0, .int .i64 0, .int .i64 0] 26 (0, 0)) | 14 => dn 16 = false → ∃ g, yv = .pointer (some ⟨g, 0, none⟩) ∧ w6.heap.size ≤ g ∧ wq.heap[g]? = some (.cells #[.int .i64 0, .int .i64 0, .slice none 0 0] 24 (0, 0)) | 15 => True | 16 => True | 17 => yv = .int .i64 11 | _ => True) (C := fun wq => Below w6.heap.size w6 wq) (Ext := fun k wa wb => (k ≠ 15 → k ≠ 16 → Below wa.heap.size wa wb) ∧ (k = 15 → ∃ g, Sto g wa wb ∧ wa.heap[g]? = some (.cells #[.int .i64 0, .int .i64 0, .int .i64 0, .string ⟨#[]⟩, .int .i64 0, .int .i64 0, .int .i64 0] 26 (0, 0))) ∧ (k = 16 → ∃ g, Sto g wa wb ∧ wa.heap[g]? = some (.cells #[.int .i64 0, .int .i64 0, .slice none 0 0] 24 (0, 0)))) (fun i => match i with | 0 => undef | 1 => undef | 2 => undef | 3 => undef | 4 => undef | 5 => undef | 6 => undef | 7 => undef | 8 => undef | 9 => undef | 10 => undef | 11 => undef | 12 => undef | 13 => undef | 14 => undef | 15 => undef | 16 => undef | 17 => undef | _ => undef) (by kernel_rfl) (by rfl) ?hC ?hstep ?hstab (low_of (by kernel_rfl)) ?hend
            case hC => exact Below.drew (Below.refl _ _)
            case hstab =>
              intro dn k i yv wa wb hcl hcl2 hk hi hC hx h
              match i, hi, h with
              | 0, hi, h =>
                exact h
              | 1, hi, h =>
                exact h
              | 2, hi, h =>
                exact h
              | 3, hi, h =>
                exact h
              | 4, hi, h =>
                exact h
              | 5, hi, h =>
                exact h
              | 6, hi, h =>
                exact h
              | 7, hi, h =>
                exact h
              | 8, hi, h =>
                exact h
              | 9, hi, h =>
                exact h
              | 10, hi, h =>
                exact h
              | 11, hi, h =>
                exact h
              | 12, hi, h =>
                exact h
              | 13, hi, h =>
                intro hs
                have ks : k ≠ 15 := fun e => by subst e; rw [mark_self] at hs; cases hs
                rw [mark_ne (Ne.symm ks)] at hs
                obtain ⟨g, e1, e2, e3⟩ := h hs
                refine ⟨g, e1, e2, ?_⟩
                by_cases ko : k = 16
                · obtain ⟨g2, S9, e4⟩ := hx.2.2 ko
                  refine (S9.block g (fun e => ?_)).trans e3
                  subst e
                  rw [e3] at e4
                  simp at e4
                · exact ((hx.1 ks ko).block g (blk_lt e3)).trans e3
              | 14, hi, h =>
                intro hs
                have ks : k ≠ 16 := fun e => by subst e; rw [mark_self] at hs; cases hs
                rw [mark_ne (Ne.symm ks)] at hs
                obtain ⟨g, e1, e2, e3⟩ := h hs
                refine ⟨g, e1, e2, ?_⟩
                by_cases ko : k = 15
                · obtain ⟨g2, S9, e4⟩ := hx.2.1 ko
                  refine (S9.block g (fun e => ?_)).trans e3
                  subst e
                  rw [e3] at e4
                  simp at e4
                · exact ((hx.1 ko ks).block g (blk_lt e3)).trans e3
              | 15, hi, h =>
                trivial
              | 16, hi, h =>
                trivial
              | 17, hi, h =>
                exact h
              | (_ + 18), _, _ => trivial
            case hstep =>
              intro i o ho
              match i, ho with
              | 0, ho =>
                obtain rfl := Option.some.inj (show some _ = some o from ho)
                intro dn vs wq hd hC hE K hK
                obtain ⟨e0, e1, e2, -, -, -⟩ := blk3 ((hC.block _ z1).trans HK.out.1)
                go_simp
                have hh := hK.out (.agg #[.int .i64 q0, .int .i64 t0, .slice A n cp]) wq rfl ⟨fun _ _ => Below.refl _ _, fun h => absurd h (by decide), fun h => absurd h (by decide)⟩ hC
                simp only [upd, Nat.reduceEqDiff, ↓reduceIte] at hh
                exact hh
              | 1, ho =>
                obtain rfl := Option.some.inj (show some _ = some o from ho)
                intro dn vs wq hd hC hE K hK
                go_simp
                have hh := hK.out (.slice A1 n1 c1) wq rfl ⟨fun _ _ => Below.refl _ _, fun h => absurd h (by decide), fun h => absurd h (by decide)⟩ hC
                simp only [upd, Nat.reduceEqDiff, ↓reduceIte] at hh
                exact hh
              | 2, ho =>
                obtain rfl := Option.some.inj (show some _ = some o from ho)
                intro dn vs wq hd hC hE K hK
                go_simp
                have hh := hK.out (.int .u8 ↑cun) wq rfl ⟨fun _ _ => Below.refl _ _, fun h => absurd h (by decide), fun h => absurd h (by decide)⟩ hC
                simp only [upd, Nat.reduceEqDiff, ↓reduceIte] at hh
                exact hh
              | 3, ho =>
                obtain rfl := Option.some.inj (show some _ = some o from ho)
                intro dn vs wq hd hC hE K hK
                obtain ⟨-, d2⟩ : dn 2 = true ∧ (vs 2 = .int .u8 ↑cun) := hE { on := 2, ground := Ground.data } (by simp) rfl
                have hcw : IntKind.i64.wrap (cun : Int) = (cun : Int) := i64_in (by omega) (by omega)
                go_simp
                have hh := hK.out (.int .i64 ↑cun) wq rfl ⟨fun _ _ => Below.refl _ _, fun h => absurd h (by decide), fun h => absurd h (by decide)⟩ hC
                simp only [upd, Nat.reduceEqDiff, ↓reduceIte, d2] at hh
                exact hh
              | 4, ho =>
                obtain rfl := Option.some.inj (show some _ = some o from ho)
                intro dn vs wq hd hC hE K hK
                go_simp
                have hh := hK.out (.slice A1 n1 c1) wq rfl ⟨fun _ _ => Below.refl _ _, fun h => absurd h (by decide), fun h => absurd h (by decide)⟩ hC
                simp only [upd, Nat.reduceEqDiff, ↓reduceIte] at hh
                exact hh
              | 5, ho =>
                obtain rfl := Option.some.inj (show some _ = some o from ho)
                intro dn vs wq hd hC hE K hK
                obtain ⟨-, d4⟩ : dn 4 = true ∧ (vs 4 = .slice A1 n1 c1) := hE { on := 4, ground := Ground.data } (by simp) rfl
                go_simp
                have hh := hK.out (.int .i64 ↑n1) wq rfl ⟨fun _ _ => Below.refl _ _, fun h => absurd h (by decide), fun h => absurd h (by decide)⟩ hC
                simp only [upd, Nat.reduceEqDiff, ↓reduceIte, d4] at hh
                exact hh
              | 6, ho =>
                obtain rfl := Option.some.inj (show some _ = some o from ho)
                intro dn vs wq hd hC hE K hK
                obtain ⟨-, d3⟩ : dn 3 = true ∧ (vs 3 = .int .i64 ↑cun) := hE { on := 3, ground := Ground.data } (by simp) rfl
                obtain ⟨-, d5⟩ : dn 5 = true ∧ (vs 5 = .int .i64 ↑n1) := hE { on := 5, ground := Ground.data } (by simp) rfl
                have hnz : ¬ n1 = 0 := by omega
                have htm : (cun : Int).tmod (n1 : Int) = (cun : Int) % (n1 : Int) := Int.tmod_eq_emod_of_nonneg (by omega)
                go_simp
                have hh := hK.out (.int .i64 ((cun : Int) % (n1 : Int))) wq rfl ⟨fun _ _ => Below.refl _ _, fun h => absurd h (by decide), fun h => absurd h (by decide)⟩ hC
                simp only [upd, Nat.reduceEqDiff, ↓reduceIte, d3, d5] at hh
                exact hh
              | 7, ho =>
                obtain rfl := Option.some.inj (show some _ = some o from ho)
                intro dn vs wq hd hC hE K hK
                obtain ⟨-, d1⟩ : dn 1 = true ∧ (vs 1 = .slice A1 n1 c1) := hE { on := 1, ground := Ground.data } (by simp) rfl
                obtain ⟨-, d6⟩ : dn 6 = true ∧ (vs 6 = .int .i64 ((cun : Int) % (n1 : Int))) := hE { on := 6, ground := Ground.data } (by simp) rfl
                have h7a : (0 : Int) ≤ (cun : Int) % (n1 : Int) := by omega
                have h7b : (cun : Int) % (n1 : Int) ≤ (c1 : Int) := by omega
                have h7t : ((cun : Int) % (n1 : Int)).toNat = cun % n1 := by omega
                go_simp
                have hh := hK.out (.slice A1 (cun % n1) c1) wq rfl ⟨fun _ _ => Below.refl _ _, fun h => absurd h (by decide), fun h => absurd h (by decide)⟩ hC
                simp only [upd, Nat.reduceEqDiff, ↓reduceIte, d1, d6] at hh
                exact hh
              | 8, ho =>
                obtain rfl := Option.some.inj (show some _ = some o from ho)
                intro dn vs wq hd hC hE K hK
                obtain ⟨-, d0⟩ : dn 0 = true ∧ (vs 0 = .agg #[.int .i64 q0, .int .i64 t0, .slice A n cp]) := hE { on := 0, ground := Ground.data } (by simp) rfl
                obtain ⟨-, d7⟩ : dn 7 = true ∧ (vs 7 = .slice A1 (cun % n1) c1) := hE { on := 7, ground := Ground.data } (by simp) rfl
                go_simp
                go_at_call 8
                have hbq : Below w.heap.size w wq := hbw6.trans (hC.mono hbw6.size)
                have hSl : Rw wq A1 (cun % n1) c1 (SP.take (cun % n1)) := (HR10.out.below hC).take (by omega)
                have PDC := PDZ.out wq hbq A1 (cun % n1) c1 (SP.take (cun % n1)) hSl (fun x hx => HSB.out x (List.mem_of_mem_take hx)) (by have := HL1.out; have := HN1.out; omega)
                have hdc := HDC.out (cun % n1) (by have := HN1.out; omega)
                rw [hdc.1, hdc.2.1, hdc.2.2.1, hdc.2.2.2.1, hdc.2.2.2.2] at PDC
                refine PDC.mono ?_
                rintro e w5 ⟨⟨A3, n3, c3, rfl, -⟩, hb5⟩
                have hh := hK.out (.tuple #[.agg #[.int .i64 0, .int .i64 0, .int .i64 0, .string ⟨#[]⟩, .int .i64 0, .int .i64 0, .int .i64 0], .agg #[.int .i64 q0, .int .i64 t0, .slice A3 n3 c3], .int .i64 11]) w5 ⟨A3, n3, c3, rfl⟩ ⟨fun _ _ => hb5, fun h => absurd h (by decide), fun h => absurd h (by decide)⟩ (hC.trans (hb5.mono hC.size))
                simp only [upd, Nat.reduceEqDiff, ↓reduceIte, d0, d7] at hh
                exact hh
              | 9, ho =>
                obtain rfl := Option.some.inj (show some _ = some o from ho)
                intro dn vs wq hd hC hE K hK
                obtain ⟨-, d8⟩ : dn 8 = true ∧ (∃ (A3 : Option Addr) (n3 c3 : Nat), vs 8 = .tuple #[.agg #[.int .i64 0, .int .i64 0, .int .i64 0, .string ⟨#[]⟩, .int .i64 0, .int .i64 0, .int .i64 0], .agg #[.int .i64 q0, .int .i64 t0, .slice A3 n3 c3], .int .i64 11]) := hE { on := 8, ground := Ground.data } (by simp) rfl
                obtain ⟨A3, n3, c3, e9⟩ := d8
                go_simp
                have hh := hK.out (.tuple #[.agg #[.int .i64 0, .int .i64 0, .int .i64 0, .string ⟨#[]⟩, .int .i64 0, .int .i64 0, .int .i64 0], .agg #[.int .i64 q0, .int .i64 t0, .slice A3 n3 c3], .int .i64 11]) wq ⟨A3, n3, c3, rfl⟩ ⟨fun _ _ => Below.refl _ _, fun h => absurd h (by decide), fun h => absurd h (by decide)⟩ hC
                simp only [upd, Nat.reduceEqDiff, ↓reduceIte, e9] at hh
                exact hh
              | 10, ho =>
                obtain rfl := Option.some.inj (show some _ = some o from ho)
                intro dn vs wq hd hC hE K hK
                obtain ⟨-, d9⟩ : dn 9 = true ∧ (∃ (A3 : Option Addr) (n3 c3 : Nat), vs 9 = .tuple #[.agg #[.int .i64 0, .int .i64 0, .int .i64 0, .string ⟨#[]⟩, .int .i64 0, .int .i64 0, .int .i64 0], .agg #[.int .i64 q0, .int .i64 t0, .slice A3 n3 c3], .int .i64 11]) := hE { on := 9, ground := Ground.data } (by simp) rfl
                obtain ⟨A3, n3, c3, e9⟩ := d9
                go_simp
                have hh := hK.out (.agg #[.int .i64 0, .int .i64 0, .int .i64 0, .string ⟨#[]⟩, .int .i64 0, .int .i64 0, .int .i64 0]) wq rfl ⟨fun _ _ => Below.refl _ _, fun h => absurd h (by decide), fun h => absurd h (by decide)⟩ hC
                simp only [upd, Nat.reduceEqDiff, ↓reduceIte, e9] at hh
                exact hh
              | 11, ho =>
                obtain rfl := Option.some.inj (show some _ = some o from ho)
                intro dn vs wq hd hC hE K hK
                obtain ⟨-, d9⟩ : dn 9 = true ∧ (∃ (A3 : Option Addr) (n3 c3 : Nat), vs 9 = .tuple #[.agg #[.int .i64 0, .int .i64 0, .int .i64 0, .string ⟨#[]⟩, .int .i64 0, .int .i64 0, .int .i64 0], .agg #[.int .i64 q0, .int .i64 t0, .slice A3 n3 c3], .int .i64 11]) := hE { on := 9, ground := Ground.data } (by simp) rfl
                obtain ⟨A3, n3, c3, e9⟩ := d9
                go_simp
                have hh := hK.out (.agg #[.int .i64 q0, .int .i64 t0, .slice A3 n3 c3]) wq ⟨A3, n3, c3, rfl⟩ ⟨fun _ _ => Below.refl _ _, fun h => absurd h (by decide), fun h => absurd h (by decide)⟩ hC
                simp only [upd, Nat.reduceEqDiff, ↓reduceIte, e9] at hh
                exact hh
              | 12, ho =>
                obtain rfl := Option.some.inj (show some _ = some o from ho)
                intro dn vs wq hd hC hE K hK
                obtain ⟨-, d9⟩ : dn 9 = true ∧ (∃ (A3 : Option Addr) (n3 c3 : Nat), vs 9 = .tuple #[.agg #[.int .i64 0, .int .i64 0, .int .i64 0, .string ⟨#[]⟩, .int .i64 0, .int .i64 0, .int .i64 0], .agg #[.int .i64 q0, .int .i64 t0, .slice A3 n3 c3], .int .i64 11]) := hE { on := 9, ground := Ground.data } (by simp) rfl
                obtain ⟨A3, n3, c3, e9⟩ := d9
                go_simp
                have hh := hK.out (.int .i64 11) wq rfl ⟨fun _ _ => Below.refl _ _, fun h => absurd h (by decide), fun h => absurd h (by decide)⟩ hC
                simp only [upd, Nat.reduceEqDiff, ↓reduceIte, e9] at hh
                exact hh
              | 13, ho =>
                obtain rfl := Option.some.inj (show some _ = some o from ho)
                intro dn vs wq hd hC hE K hK
                go_simp
                have hh := hK.out (.pointer (some ⟨wq.heap.size, 0, none⟩)) (wq.alloc (.cells #[.int .i64 0, .int .i64 0, .int .i64 0, .string ⟨#[]⟩, .int .i64 0, .int .i64 0, .int .i64 0] 26)) (fun _ => ⟨_, rfl, hC.size, heap_alloc_new _ _⟩) ⟨fun _ _ => (Below.refl _ _).alloc (Nat.le_refl _) _, fun h => absurd h (by decide), fun h => absurd h (by decide)⟩ (hC.alloc hC.size _)
                simp only [upd, Nat.reduceEqDiff, ↓reduceIte] at hh
                exact hh
              | 14, ho =>
                obtain rfl := Option.some.inj (show some _ = some o from ho)
                intro dn vs wq hd hC hE K hK
                go_simp
                have hh := hK.out (.pointer (some ⟨wq.heap.size, 0, none⟩)) (wq.alloc (.cells #[.int .i64 0, .int .i64 0, .slice none 0 0] 24)) (fun _ => ⟨_, rfl, hC.size, heap_alloc_new _ _⟩) ⟨fun _ _ => (Below.refl _ _).alloc (Nat.le_refl _) _, fun h => absurd h (by decide), fun h => absurd h (by decide)⟩ (hC.alloc hC.size _)
                simp only [upd, Nat.reduceEqDiff, ↓reduceIte] at hh
                exact hh
              | 15, ho =>
                obtain rfl := Option.some.inj (show some _ = some o from ho)
                intro dn vs wq hd hC hE K hK
                obtain ⟨-, d13⟩ : dn 13 = true ∧ (dn 15 = false → ∃ g, vs 13 = .pointer (some ⟨g, 0, none⟩) ∧ w6.heap.size ≤ g ∧ wq.heap[g]? = some (.cells #[.int .i64 0, .int .i64 0, .int .i64 0, .string ⟨#[]⟩, .int .i64 0, .int .i64 0, .int .i64 0] 26 (0, 0))) := hE { on := 13, ground := Ground.data } (by simp) rfl
                obtain ⟨-, d10⟩ : dn 10 = true ∧ (vs 10 = .agg #[.int .i64 0, .int .i64 0, .int .i64 0, .string ⟨#[]⟩, .int .i64 0, .int .i64 0, .int .i64 0]) := hE { on := 10, ground := Ground.data } (by simp) rfl
                obtain ⟨g, e1, e2, e3⟩ := d13 hd
                have e4 := d10
                rw [if_pos (by rfl)]
                refine wp_store_row 26 (.tmp 17) (.tmp 98) rfl g #[.int .i64 0, .int .i64 0, .int .i64 0, .string ⟨#[]⟩, .int .i64 0, .int .i64 0, .int .i64 0] e1 e4 26 _ e3 ev7_size rfl (ev7_one _ _ _ _ _ _ _) ?_
                have SR : Sto g wq (wq.setRow g #[.int .i64 0, .int .i64 0, .int .i64 0, .string ⟨#[]⟩, .int .i64 0, .int .i64 0, .int .i64 0]) := ⟨rfl, rfl, rfl, by simp [World.setRow], fun k hk => setRow_other wq g k _ hk⟩
                have hh := hK.out undef _ trivial ⟨fun h => absurd rfl h, fun _ => ⟨g, SR, e3⟩, fun h => absurd h (by decide)⟩ (SR.below hC e2)
                simp only [upd, Nat.reduceEqDiff, ↓reduceIte] at hh
                exact hh
              | 16, ho =>
                obtain rfl := Option.some.inj (show some _ = some o from ho)
                intro dn vs wq hd hC hE K hK
                obtain ⟨-, d14⟩ : dn 14 = true ∧ (dn 16 = false → ∃ g, vs 14 = .pointer (some ⟨g, 0, none⟩) ∧ w6.heap.size ≤ g ∧ wq.heap[g]? = some (.cells #[.int .i64 0, .int .i64 0, .slice none 0 0] 24 (0, 0))) := hE { on := 14, ground := Ground.data } (by simp) rfl
                obtain ⟨-, d11⟩ : dn 11 = true ∧ (∃ (A3 : Option Addr) (n3 c3 : Nat), vs 11 = .agg #[.int .i64 q0, .int .i64 t0, .slice A3 n3 c3]) := hE { on := 11, ground := Ground.data } (by simp) rfl
                obtain ⟨g, e1, e2, e3⟩ := d14 hd
                obtain ⟨A3, n3, c3, e4⟩ := d11
                rw [if_pos (by rfl)]
                refine wp_store_row 24 (.tmp 18) (.tmp 99) rfl g #[.int .i64 q0, .int .i64 t0, .slice A3 n3 c3] e1 e4 24 _ e3 cx7_size rfl (cx7_one _ _ _ _ _) ?_
                have SR : Sto g wq (wq.setRow g #[.int .i64 q0, .int .i64 t0, .slice A3 n3 c3]) := ⟨rfl, rfl, rfl, by simp [World.setRow], fun k hk => setRow_other wq g k _ hk⟩
                have hh := hK.out undef _ trivial ⟨fun _ h => absurd rfl h, fun h => absurd h (by decide), fun _ => ⟨g, SR, e3⟩⟩ (SR.below hC e2)
                simp only [upd, Nat.reduceEqDiff, ↓reduceIte] at hh
                exact hh
              | 17, ho =>
                obtain rfl := Option.some.inj (show some _ = some o from ho)
                intro dn vs wq hd hC hE K hK
                obtain ⟨-, d12⟩ : dn 12 = true ∧ (vs 12 = .int .i64 11) := hE { on := 12, ground := Ground.data } (by simp) rfl
                go_simp
                have hh := hK.out (.int .i64 11) wq rfl ⟨fun _ _ => Below.refl _ _, fun h => absurd h (by decide), fun h => absurd h (by decide)⟩ hC
                simp only [upd, Nat.reduceEqDiff, ↓reduceIte, d12] at hh
                exact hh
              | (_ + 18), ho => exact absurd ho (by simp)
            case hend =>
              intro dn va w7 hd hC hE
              have r17 : va 17 = _ := hE 17 (by decide)
              simp only [r17]
              have hbw7 : Below w.heap.size w w7 := hbw6.trans (hC.mono hbw6.size)
              have K1 := (hC.block _ z1).trans HK.out.1
              have K2 := (hC.block _ z2).trans HK.out.2.1
              have K3 := (hC.block _ z3).trans HK.out.2.2
              have HR11 := hid (HR10.out.below hC)
              clear r17 hE hC HR10 HK hd HDC hkm hnc hbw6 z1 u10 u11 u12 f10 f11 f12 z2 u20 u21 u22 u23 u24 u25 u26 z3 u30 u31 u32 f30 f31 f32
              have z1 := blk_lt K1
              obtain ⟨u10, u11, u12, f10, f11, f12⟩ := blk3 K1
              have z2 := blk_lt K2
              obtain ⟨u20, u21, u22, u23, u24, u25, u26⟩ := blk7 K2
              have z3 := blk_lt K3
              obtain ⟨u30, u31, u32, f30, f31, f32⟩ := blk3 K3
              have HK := hid (And.intro K1 (And.intro K2 (K3)))
              clear K1 K2 K3
              go_wp2_with fail
              obtain ⟨i0, hi0, hz0, hz1, hz2⟩ := info_parts u8_info
              have PDM := hid (fun (w1 : World) (h : Below w.heap.size w w1) (A9 : Option Addr) (m9 c9 : Nat) (hR9 : Rw w1 A9 m9 c9 (SP ++ ms)) => PDZ.out w1 h A9 m9 c9 (SP ++ ms) hR9 (Bytes.app HSB.out HBM.out) (by have := hR9.len; rw [List.length_append] at this; have := HL1.out; have := hmml.out; omega))
              have hbb : ∃ bb : Bool, (deE q0 t0 ss (SP ++ ms) == 0) = bb ∧ ((mm : Int) == 0) = bb := by
                by_cases hmo : ms = []
                · refine ⟨true, ?_, ?_⟩
                  · rw [hmo, List.append_nil, HDY.out.2.1]; rfl
                  · have h9 := hmml.out
                    rw [hmo] at h9
                    simp at h9
                    rw [h9]; rfl
                · refine ⟨false, ?_, ?_⟩
                  · rw [(HDM.out hmo).2.1]; rfl
                  · have h9 := hmml.out
                    have h8 := List.length_pos_iff.2 hmo
                    simpa using (by omega : ¬ mm = 0)
              obtain ⟨bb, hbb1, hbb2⟩ := hbb
              generalize deX q0 t0 ss (SP ++ ms) = X9 at *
              generalize deE q0 t0 ss (SP ++ ms) = DE9 at *
              generalize deQ q0 t0 ss (SP ++ ms) = DQ9 at *
              generalize deT q0 t0 ss (SP ++ ms) = DT9 at *
              generalize deL q0 t0 ss (SP ++ ms) = DL9 at *
              unfold evV at PDM
              refine wp_region_envd (A := fun vs => { tmps := #[Value.agg #[Value.int IntKind.i64 q0, Value.int IntKind.i64 t0, Value.slice A n cp], Value.agg #[Value.int IntKind.i64 q, Value.int IntKind.i64 t, Value.int IntKind.i64 k, Value.string s, Value.int IntKind.i64 a, Value.int IntKind.i64 b, Value.int IntKind.i64 d], Value.slice B m c, Value.int IntKind.u8 ↑cun, Value.slice M mm cm, Value.pointer (some { block := w.heap.size, off := 0 }), Value.pointer (some { block := w.heap.size + 1, off := 0 }), undef, undef, undef, Value.bool false, Value.slice A1 n1 c1, Value.pointer (some { block := g12, off := 0 }), Value.int IntKind.i64 0, Value.pointer (some { block := w4.heap.size, off := 0 }), Value.pointer (some { block := w4.heap.size + 1, off := 0 }), Value.int IntKind.i64 0, va 13, va 14, Value.int IntKind.i64 11, vs 11, vs 12, vs 15, undef, undef, undef, undef, Value.bool true, Value.bool false, Value.pointer (some { block := w.heap.size, off := 2 }), Value.slice A n cp, Value.bool true, Value.bool false, Value.bool false, Value.pointer (some { block := w.heap.size + 1, off := 3 }), Value.string s, Value.int IntKind.i64 ↑s.size, Value.bool (decide ((100 : Int) < ↑s.size)), Value.bool (decide ((100 : Int) < ↑s.size)), Value.bool (decide ((100 : Int) < ↑s.size)), Value.slice B m c, Value.int IntKind.i64 ↑m, Value.bool (decide ((300 : Int) < ↑m)), Value.bool (decide ((100 : Int) < ↑s.size) || decide ((300 : Int) < ↑m)), Value.bool (decide ((100 : Int) < ↑s.size) || decide ((300 : Int) < ↑m)), Value.slice M mm cm, Value.int IntKind.i64 ↑mm, Value.bool (decide ((300 : Int) < ↑mm)), Value.bool (decide ((100 : Int) < ↑s.size) || decide ((300 : Int) < ↑m) || decide ((300 : Int) < ↑mm)), Value.tuple #[Value.slice A1 n1 c1, Value.agg #[Value.int IntKind.i64 q, Value.int IntKind.i64 t, Value.slice A2 n2 c2], Value.int IntKind.i64 0], Value.agg #[Value.int IntKind.i64 q0, Value.int IntKind.i64 t0, Value.slice A n cp], Value.agg #[Value.int IntKind.i64 q, Value.int IntKind.i64 t, Value.int IntKind.i64 k, Value.string s, Value.int IntKind.i64 a, Value.int IntKind.i64 b, Value.int IntKind.i64 d], Value.tuple #[Value.slice A1 n1 c1, Value.agg #[Value.int IntKind.i64 q, Value.int IntKind.i64 t, Value.slice A2 n2 c2], Value.int IntKind.i64 0], Value.slice A1 n1 c1, Value.agg #[Value.int IntKind.i64 q, Value.int IntKind.i64 t, Value.slice A2 n2 c2], Value.int IntKind.i64 0, Value.int IntKind.i64 0, Value.bool true, Value.tuple #[Value.agg #[Value.int IntKind.i64 q, Value.int IntKind.i64 t, Value.int IntKind.i64 k, Value.string s, Value.int IntKind.i64 a, Value.int IntKind.i64 b, Value.int IntKind.i64 d], Value.agg #[Value.int IntKind.i64 q, Value.int IntKind.i64 t, Value.slice A5 n5 c5], Value.int IntKind.i64 0], Value.agg #[Value.int IntKind.i64 q0, Value.int IntKind.i64 t0, Value.slice A n cp], Value.slice A1 n1 c1, Value.tuple #[Value.agg #[Value.int IntKind.i64 q, Value.int IntKind.i64 t, Value.int IntKind.i64 k, Value.string s, Value.int IntKind.i64 a, Value.int IntKind.i64 b, Value.int IntKind.i64 d], Value.agg #[Value.int IntKind.i64 q, Value.int IntKind.i64 t, Value.slice A5 n5 c5], Value.int IntKind.i64 0], Value.agg #[Value.int IntKind.i64 q, Value.int IntKind.i64 t, Value.int IntKind.i64 k, Value.string s, Value.int IntKind.i64 a, Value.int IntKind.i64 b, Value.int IntKind.i64 d], Value.agg #[Value.int IntKind.i64 q, Value.int IntKind.i64 t, Value.slice A5 n5 c5], Value.int IntKind.i64 0, Value.int IntKind.i64 0, Value.bool false, Value.bool false, Value.agg #[Value.int IntKind.i64 q, Value.int IntKind.i64 t, Value.int IntKind.i64 k, Value.string s, Value.int IntKind.i64 a, Value.int IntKind.i64 b, Value.int IntKind.i64 d], Value.agg #[Value.int IntKind.i64 q, Value.int IntKind.i64 t, Value.int IntKind.i64 k, Value.string s, Value.int IntKind.i64 a, Value.int IntKind.i64 b, Value.int IntKind.i64 d], Value.bool false, Value.bool false, Value.bool false, Value.agg #[Value.int IntKind.i64 q, Value.int IntKind.i64 t, Value.slice A2 n2 c2], Value.agg #[Value.int IntKind.i64 q, Value.int IntKind.i64 t, Value.slice A5 n5 c5], Value.bool true, Value.bool false, Value.bool false, Value.bool false, Value.agg #[Value.int IntKind.i64 q, Value.int IntKind.i64 t, Value.slice A2 n2 c2], Value.bool true, Value.bool false, Value.bool false, Value.bool false, Value.slice A1 n1 c1, Value.int IntKind.i64 ↑n1, Value.bool false, Value.bool false, va 9, va 0, va 1, va 2, va 3, va 4, va 5, va 6, va 7, va 8, va 10, va 11, va 12, vs 7, vs 0, vs 1, vs 2, vs 3, vs 4, vs 5, vs 6, vs 8, vs 9, vs 10, undef, undef, undef, undef, undef, undef, undef, undef, undef, undef, undef, undef, undef, undef, undef, undef, undef, undef, undef, undef, undef, undef, undef, undef, undef, undef, undef, undef, undef, undef, undef, undef, undef, undef, undef, undef, undef, undef, undef, undef, undef, undef, undef, undef, undef, undef, undef, undef], defers := [] }) (E := fun dn i yv wq => match i with | 0 => yv = .agg #[.int .i64 q0, .int .i64 t0, .slice A n cp] | 1 => dn 3 = false → ∃ h, yv = .slice (some ⟨h, 0, none⟩) 0 0 ∧ w7.heap.size ≤ h ∧ wq.heap[h]? = some (.cells #[] 5 (0, 0)) | 2 => yv = .slice A1 n1 c1 | 3 => dn 5 = false → wq.ownsRow w7.heap.size 5 1 (yv) n1 (by8 SP) | 4 => yv = .slice M mm cm | 5 => dn 6 = false → ∃ (A9 : Option Addr) (c9 : Nat), yv = .slice A9 (n1 + mm) c9 ∧ Rw wq A9 (n1 + mm) c9 (SP ++ ms) | 6 => ∃ (A3 : Option Addr) (n3 c3 : Nat), yv = .tuple #[.agg #[.int .i64 X9.q, .int .i64 X9.t, .int .i64 X9.k, .string X9.s, .int .i64 X9.a, .int .i64 X9.b, .int .i64 X9.c], .agg #[.int .i64 DQ9, .int .i64 DT9, .slice A3 n3 c3], .int .i64 DE9] | 7 => ∃ (A3 : Option Addr) (n3 c3 : Nat), yv = .tuple #[.agg #[.int .i64 X9.q, .int .i64 X9.t, .int .i64 X9.k, .string X9.s, .int .i64 X9.a, .int .i64 X9.b, .int .i64 X9.c], .agg #[.int .i64 DQ9, .int .i64 DT9, .slice A3 n3 c3], .int .i64 DE9] | 8 => yv = .agg #[.int .i64 X9.q, .int .i64 X9.t, .int .i64 X9.k, .string X9.s, .int .i64 X9.a, .int .i64 X9.b, .int .i64 X9.c] | 9 => ∃ (A3 : Option Addr) (n3 c3 : Nat), yv = .agg #[.int .i64 DQ9, .int .i64 DT9, .slice A3 n3 c3] | 10 => yv = .int .i64 DE9 | 11 => dn 13 = false → ∃ g, yv = .pointer (some ⟨g, 0, none⟩) ∧ w7.heap.size ≤ g ∧ wq.heap[g]? = some (.cells #[.int .i64 0, .int .i64 0, .int .i64 0, .string ⟨#[]⟩, .int .i64 0, .int .i64 0, .int .i64 0] 26 (0, 0)) | 12 => dn 14 = false → ∃ g, yv = .pointer (some ⟨g, 0, none⟩) ∧ w7.heap.size ≤ g ∧ wq.heap[g]? = some (.cells #[.int .i64 0, .int .i64 0, .slice none 0 0] 24 (0, 0)) | 13 => True | 14 => True | 15 => yv = .int .i64 DE9 | _ => True) (C := fun wq => Below w7.heap.size w7 wq) (Ext := fun k wa wb => (k ≠ 3 → k ≠ 5 → k ≠ 13 → k ≠ 14 → Below wa.heap.size wa wb) ∧ (k = 13 → ∃ g, Sto g wa wb ∧ wa.heap[g]? = some (.cells #[.int .i64 0, .int .i64 0, .int .i64 0, .string ⟨#[]⟩, .int .i64 0, .int .i64 0, .int .i64 0] 26 (0, 0))) ∧ (k = 14 → ∃ g, Sto g wa wb ∧ wa.heap[g]? = some (.cells #[.int .i64 0, .int .i64 0, .slice none 0 0] 24 (0, 0))) ∧ (k = 3 ∨ k = 5 → ∀ (g : Nat) (o : Array Value) (ty : TypeId), wa.heap[g]? = some (.cells o ty (0, 0)) → ty ≠ 5 → wb.heap[g]? = wa.heap[g]?)) (fun i => match i with | 0 => undef | 1 => undef | 2 => undef | 3 => undef | 4 => undef | 5 => undef | 6 => undef | 7 => undef | 8 => undef | 9 => undef | 10 => undef | 11 => undef | 12 => undef | 13 => undef | 14 => undef | 15 => undef | _ => undef) (by kernel_rfl) (by rfl) ?hC ?hstep ?hstab (low_of (by kernel_rfl)) ?hend
              case hC => exact Below.drew (Below.refl _ _)
              case hstab =>
                intro dn k i yv wa wb hcl hcl2 hk hi hC hx h
                match i, hi, h with
                | 0, hi, h =>
                  exact h
                | 1, hi, h =>
                  intro hs
                  have k5 : k ≠ 5 := fun e => by
                    subst e
                    have c0 := mark_self dn 5
                    have c1 := hcl2 5 _ rfl c0 { on := 3, ground := Ground.data } (by simp) rfl
                    rw [c1] at hs
                    cases hs
                  have k13 : k ≠ 13 := fun e => by
                    subst e
                    have c0 := mark_self dn 13
                    have c1 := hcl2 13 _ rfl c0 { on := 8, ground := Ground.data } (by simp) rfl
                    have c2 := hcl2 8 _ rfl c1 { on := 7, ground := Ground.data } (by simp) rfl
                    have c3 := hcl2 7 _ rfl c2 { on := 6, ground := Ground.data } (by simp) rfl
                    have c4 := hcl2 6 _ rfl c3 { on := 5, ground := Ground.data } (by simp) rfl
                    have c5 := hcl2 5 _ rfl c4 { on := 3, ground := Ground.data } (by simp) rfl
                    rw [c5] at hs
                    cases hs
                  have k14 : k ≠ 14 := fun e => by
                    subst e
                    have c0 := mark_self dn 14
                    have c1 := hcl2 14 _ rfl c0 { on := 9, ground := Ground.data } (by simp) rfl
                    have c2 := hcl2 9 _ rfl c1 { on := 7, ground := Ground.data } (by simp) rfl
                    have c3 := hcl2 7 _ rfl c2 { on := 6, ground := Ground.data } (by simp) rfl
                    have c4 := hcl2 6 _ rfl c3 { on := 5, ground := Ground.data } (by simp) rfl
                    have c5 := hcl2 5 _ rfl c4 { on := 3, ground := Ground.data } (by simp) rfl
                    rw [c5] at hs
                    cases hs
                  have k3 : k ≠ 3 := fun e => by subst e; rw [mark_self] at hs; cases hs
                  rw [mark_ne (Ne.symm k3)] at hs
                  obtain ⟨g, e1, e2, e3⟩ := h hs
                  exact ⟨g, e1, e2, ((hx.1 k3 k5 k13 k14).block g (blk_lt e3)).trans e3⟩
                | 2, hi, h =>
                  exact h
                | 3, hi, h =>
                  intro hs
                  have k13 : k ≠ 13 := fun e => by
                    subst e
                    have c0 := mark_self dn 13
                    have c1 := hcl2 13 _ rfl c0 { on := 8, ground := Ground.data } (by simp) rfl
                    have c2 := hcl2 8 _ rfl c1 { on := 7, ground := Ground.data } (by simp) rfl
                    have c3 := hcl2 7 _ rfl c2 { on := 6, ground := Ground.data } (by simp) rfl
                    have c4 := hcl2 6 _ rfl c3 { on := 5, ground := Ground.data } (by simp) rfl
                    rw [c4] at hs
                    cases hs
                  have k14 : k ≠ 14 := fun e => by
                    subst e
                    have c0 := mark_self dn 14
                    have c1 := hcl2 14 _ rfl c0 { on := 9, ground := Ground.data } (by simp) rfl
                    have c2 := hcl2 9 _ rfl c1 { on := 7, ground := Ground.data } (by simp) rfl
                    have c3 := hcl2 7 _ rfl c2 { on := 6, ground := Ground.data } (by simp) rfl
                    have c4 := hcl2 6 _ rfl c3 { on := 5, ground := Ground.data } (by simp) rfl
                    rw [c4] at hs
                    cases hs
                  have k5 : k ≠ 5 := fun e => by subst e; rw [mark_self] at hs; cases hs
                  rw [mark_ne (Ne.symm k5)] at hs
                  have k3 : k ≠ 3 := fun e => by subst e; rw [hk] at hi; cases hi
                  exact own_below (h hs) (hx.1 k3 k5 k13 k14)
                | 4, hi, h =>
                  exact h
                | 5, hi, h =>
                  intro hs
                  have k13 : k ≠ 13 := fun e => by
                    subst e
                    have c0 := mark_self dn 13
                    have c1 := hcl2 13 _ rfl c0 { on := 8, ground := Ground.data } (by simp) rfl
                    have c2 := hcl2 8 _ rfl c1 { on := 7, ground := Ground.data } (by simp) rfl
                    have c3 := hcl2 7 _ rfl c2 { on := 6, ground := Ground.data } (by simp) rfl
                    rw [c3] at hs
                    cases hs
                  have k14 : k ≠ 14 := fun e => by
                    subst e
                    have c0 := mark_self dn 14
                    have c1 := hcl2 14 _ rfl c0 { on := 9, ground := Ground.data } (by simp) rfl
                    have c2 := hcl2 9 _ rfl c1 { on := 7, ground := Ground.data } (by simp) rfl
                    have c3 := hcl2 7 _ rfl c2 { on := 6, ground := Ground.data } (by simp) rfl
                    rw [c3] at hs
                    cases hs
                  have k6 : k ≠ 6 := fun e => by subst e; rw [mark_self] at hs; cases hs
                  rw [mark_ne (Ne.symm k6)] at hs
                  have k5 : k ≠ 5 := fun e => by subst e; rw [hk] at hi; cases hi
                  have k3 : k ≠ 3 := fun e => by
                    subst e
                    have c1 := hcl 5 _ rfl hi { on := 3, ground := Ground.data } (by simp) rfl
                    rw [hk] at c1
                    cases c1
                  obtain ⟨A9, c9, e9, hR9⟩ := h hs
                  exact ⟨A9, c9, e9, hR9.below (hx.1 k3 k5 k13 k14)⟩
                | 6, hi, h =>
                  exact h
                | 7, hi, h =>
                  exact h
                | 8, hi, h =>
                  exact h
                | 9, hi, h =>
                  exact h
                | 10, hi, h =>
                  exact h
                | 11, hi, h =>
                  intro hs
                  have ks : k ≠ 13 := fun e => by subst e; rw [mark_self] at hs; cases hs
                  rw [mark_ne (Ne.symm ks)] at hs
                  obtain ⟨g, e1, e2, e3⟩ := h hs
                  refine ⟨g, e1, e2, ?_⟩
                  by_cases ko : k = 14
                  · obtain ⟨g2, S9, e4⟩ := hx.2.2.1 ko
                    refine (S9.block g (fun e => ?_)).trans e3
                    subst e
                    rw [e3] at e4
                    simp at e4
                  · by_cases k35 : k = 3 ∨ k = 5
                    · exact (hx.2.2.2 k35 g _ _ e3 (by decide)).trans e3
                    · exact ((hx.1 (fun e => k35 (.inl e)) (fun e => k35 (.inr e)) ks ko).block g (blk_lt e3)).trans e3
                | 12, hi, h =>
                  intro hs
                  have ks : k ≠ 14 := fun e => by subst e; rw [mark_self] at hs; cases hs
                  rw [mark_ne (Ne.symm ks)] at hs
                  obtain ⟨g, e1, e2, e3⟩ := h hs
                  refine ⟨g, e1, e2, ?_⟩
                  by_cases ko : k = 13
                  · obtain ⟨g2, S9, e4⟩ := hx.2.1 ko
                    refine (S9.block g (fun e => ?_)).trans e3
                    subst e
                    rw [e3] at e4
                    simp at e4
                  · by_cases k35 : k = 3 ∨ k = 5
                    · exact (hx.2.2.2 k35 g _ _ e3 (by decide)).trans e3
                    · exact ((hx.1 (fun e => k35 (.inl e)) (fun e => k35 (.inr e)) ko ks).block g (blk_lt e3)).trans e3
                | 13, hi, h =>
                  trivial
                | 14, hi, h =>
                  trivial
                | 15, hi, h =>
                  exact h
                | (_ + 16), _, _ => trivial
              case hstep =>
                intro i o ho
                match i, ho with
                | 0, ho =>
                  obtain rfl := Option.some.inj (show some _ = some o from ho)
                  intro dn vs wq hd hC hE K hK
                  obtain ⟨e0, e1, e2, -, -, -⟩ := blk3 ((hC.block _ z1).trans HK.out.1)
                  go_simp
                  have hh := hK.out (.agg #[.int .i64 q0, .int .i64 t0, .slice A n cp]) wq rfl ⟨fun _ _ _ _ => Below.refl _ _, fun h => absurd h (by decide), fun h => absurd h (by decide), fun h => absurd h (by decide)⟩ hC
                  simp only [upd, Nat.reduceEqDiff, ↓reduceIte] at hh
                  exact hh
                | 1, ho =>
                  obtain rfl := Option.some.inj (show some _ = some o from ho)
                  intro dn vs wq hd hC hE K hK
                  go_simp
                  have hh := hK.out (.slice (some ⟨wq.heap.size, 0, none⟩) 0 0) (wq.alloc (.cells #[] 5)) (fun _ => ⟨_, rfl, hC.size, heap_alloc_new _ _⟩) ⟨fun _ _ _ _ => (Below.refl _ _).alloc (Nat.le_refl _) _, fun h => absurd h (by decide), fun h => absurd h (by decide), fun h => absurd h (by decide)⟩ (hC.alloc hC.size _)
                  simp only [upd, Nat.reduceEqDiff, ↓reduceIte] at hh
                  exact hh
                | 2, ho =>
                  obtain rfl := Option.some.inj (show some _ = some o from ho)
                  intro dn vs wq hd hC hE K hK
                  go_simp
                  have hh := hK.out (.slice A1 n1 c1) wq rfl ⟨fun _ _ _ _ => Below.refl _ _, fun h => absurd h (by decide), fun h => absurd h (by decide), fun h => absurd h (by decide)⟩ hC
                  simp only [upd, Nat.reduceEqDiff, ↓reduceIte] at hh
                  exact hh
                | 3, ho =>
                  obtain rfl := Option.some.inj (show some _ = some o from ho)
                  intro dn vs wq hd hC hE K hK
                  obtain ⟨-, d1⟩ : dn 1 = true ∧ (dn 3 = false → ∃ h, vs 1 = .slice (some ⟨h, 0, none⟩) 0 0 ∧ w7.heap.size ≤ h ∧ wq.heap[h]? = some (.cells #[] 5 (0, 0))) := hE { on := 1, ground := Ground.data } (by simp) rfl
                  obtain ⟨-, d2⟩ : dn 2 = true ∧ (vs 2 = .slice A1 n1 c1) := hE { on := 2, ground := Ground.data } (by simp) rfl
                  rw [if_pos (by rfl)]
                  obtain ⟨h1, e1, l1, r1⟩ := d1 hd
                  have own1 : wq.ownsRow w7.heap.size 5 1 (vs 1) 0 [] := ⟨rfl, .inr ⟨h1, 0, #[], e1, l1, r1, Nat.le_refl _, Nat.zero_le _, rfl, rfl⟩⟩
                  refine wp_pushAll (.tmp 103) (.tmp 104) 27 rfl Try.underlying27 hi0 hz0 hz1 hz2 rfl (v := vs 1) rfl own1 (A := A1) (m := n1) (c := c1) (news := by8 SP) d2 HR11.out.2.2.2 (HR11.out.below hC).1 (by8_one _) (by have := HN1.out; have := HL1.out; unfold maxLen; omega) (by have := HN1.out; have := HL1.out; omega) hC.size ?_
                  intro v' w3 hown3 hgrow
                  have hbw : Below w7.heap.size wq w3 := (Below.refl _ _).grown hgrow hC.size (own_low own1)
                  have hh := hK.out v' w3 (fun _ => by simpa using hown3) ⟨fun h => absurd rfl h, fun h => absurd h (by decide), fun h => absurd h (by decide), fun _ g o ty h9 h8 => grown_other hgrow own1 h9 h8⟩ (hC.trans hbw)
                  simp only [upd, Nat.reduceEqDiff, ↓reduceIte] at hh
                  exact hh
                | 4, ho =>
                  obtain rfl := Option.some.inj (show some _ = some o from ho)
                  intro dn vs wq hd hC hE K hK
                  go_simp
                  have hh := hK.out (.slice M mm cm) wq rfl ⟨fun _ _ _ _ => Below.refl _ _, fun h => absurd h (by decide), fun h => absurd h (by decide), fun h => absurd h (by decide)⟩ hC
                  simp only [upd, Nat.reduceEqDiff, ↓reduceIte] at hh
                  exact hh
                | 5, ho =>
                  obtain rfl := Option.some.inj (show some _ = some o from ho)
                  intro dn vs wq hd hC hE K hK
                  obtain ⟨-, d3⟩ : dn 3 = true ∧ (dn 5 = false → wq.ownsRow w7.heap.size 5 1 (vs 3) n1 (by8 SP)) := hE { on := 3, ground := Ground.data } (by simp) rfl
                  obtain ⟨-, d4⟩ : dn 4 = true ∧ (vs 4 = .slice M mm cm) := hE { on := 4, ground := Ground.data } (by simp) rfl
                  rw [if_pos (by rfl)]
                  have own3 := d3 hd
                  refine wp_pushAll (.tmp 105) (.tmp 106) 27 rfl Try.underlying27 hi0 hz0 hz1 hz2 rfl (v := vs 3) rfl own3 (A := M) (m := mm) (c := cm) (news := by8 ms) d4 (HM.out wq (hbw7.trans (hC.mono hbw7.size))).2.2.2 (HM.out wq (hbw7.trans (hC.mono hbw7.size))).1 (by8_one _) (by have := HN1.out; have := HL1.out; unfold maxLen; omega) (by have := HN1.out; have := HL1.out; omega) hC.size ?_
                  intro v' w3 hown3 hgrow
                  have hbw : Below w7.heap.size wq w3 := (Below.refl _ _).grown hgrow hC.size (own_low own3)
                  rw [← by8_append] at hown3
                  obtain ⟨A9, c9, e9, hR9, -⟩ := own_rw hown3
                  have hh := hK.out v' w3 (fun _ => ⟨A9, c9, e9, hR9⟩) ⟨fun _ h => absurd rfl h, fun h => absurd h (by decide), fun h => absurd h (by decide), fun _ g o ty h9 h8 => grown_other hgrow own3 h9 h8⟩ (hC.trans hbw)
                  simp only [upd, Nat.reduceEqDiff, ↓reduceIte] at hh
                  exact hh
                | 6, ho =>
                  obtain rfl := Option.some.inj (show some _ = some o from ho)
                  intro dn vs wq hd hC hE K hK
                  obtain ⟨-, d0⟩ : dn 0 = true ∧ (vs 0 = .agg #[.int .i64 q0, .int .i64 t0, .slice A n cp]) := hE { on := 0, ground := Ground.data } (by simp) rfl
                  obtain ⟨-, d5⟩ : dn 5 = true ∧ (dn 6 = false → ∃ (A9 : Option Addr) (c9 : Nat), vs 5 = .slice A9 (n1 + mm) c9 ∧ Rw wq A9 (n1 + mm) c9 (SP ++ ms)) := hE { on := 5, ground := Ground.data } (by simp) rfl
                  obtain ⟨A9, c9, e9, hR9⟩ := d5 hd
                  go_simp
                  go_at_call 8
                  have hbq : Below w.heap.size w wq := hbw7.trans (hC.mono hbw7.size)
                  refine (PDM.out wq hbq A9 (n1 + mm) c9 hR9).mono ?_
                  rintro e w5 ⟨⟨A3, n3, c3, rfl, -⟩, hb5⟩
                  have hh := hK.out (.tuple #[.agg #[.int .i64 X9.q, .int .i64 X9.t, .int .i64 X9.k, .string X9.s, .int .i64 X9.a, .int .i64 X9.b, .int .i64 X9.c], .agg #[.int .i64 DQ9, .int .i64 DT9, .slice A3 n3 c3], .int .i64 DE9]) w5 ⟨A3, n3, c3, rfl⟩ ⟨fun _ _ _ _ => hb5, fun h => absurd h (by decide), fun h => absurd h (by decide), fun h => absurd h (by decide)⟩ (hC.trans (hb5.mono hC.size))
                  simp only [upd, Nat.reduceEqDiff, ↓reduceIte, d0, e9] at hh
                  exact hh
                | 7, ho =>
                  obtain rfl := Option.some.inj (show some _ = some o from ho)
                  intro dn vs wq hd hC hE K hK
                  obtain ⟨-, d6⟩ : dn 6 = true ∧ (∃ (A3 : Option Addr) (n3 c3 : Nat), vs 6 = .tuple #[.agg #[.int .i64 X9.q, .int .i64 X9.t, .int .i64 X9.k, .string X9.s, .int .i64 X9.a, .int .i64 X9.b, .int .i64 X9.c], .agg #[.int .i64 DQ9, .int .i64 DT9, .slice A3 n3 c3], .int .i64 DE9]) := hE { on := 6, ground := Ground.data } (by simp) rfl
                  obtain ⟨A3, n3, c3, e9⟩ := d6
                  go_simp
                  have hh := hK.out (.tuple #[.agg #[.int .i64 X9.q, .int .i64 X9.t, .int .i64 X9.k, .string X9.s, .int .i64 X9.a, .int .i64 X9.b, .int .i64 X9.c], .agg #[.int .i64 DQ9, .int .i64 DT9, .slice A3 n3 c3], .int .i64 DE9]) wq ⟨A3, n3, c3, rfl⟩ ⟨fun _ _ _ _ => Below.refl _ _, fun h => absurd h (by decide), fun h => absurd h (by decide), fun h => absurd h (by decide)⟩ hC
                  simp only [upd, Nat.reduceEqDiff, ↓reduceIte, e9] at hh
                  exact hh
                | 8, ho =>
                  obtain rfl := Option.some.inj (show some _ = some o from ho)
                  intro dn vs wq hd hC hE K hK
                  obtain ⟨-, d7⟩ : dn 7 = true ∧ (∃ (A3 : Option Addr) (n3 c3 : Nat), vs 7 = .tuple #[.agg #[.int .i64 X9.q, .int .i64 X9.t, .int .i64 X9.k, .string X9.s, .int .i64 X9.a, .int .i64 X9.b, .int .i64 X9.c], .agg #[.int .i64 DQ9, .int .i64 DT9, .slice A3 n3 c3], .int .i64 DE9]) := hE { on := 7, ground := Ground.data } (by simp) rfl
                  obtain ⟨A3, n3, c3, e9⟩ := d7
                  go_simp
                  have hh := hK.out (.agg #[.int .i64 X9.q, .int .i64 X9.t, .int .i64 X9.k, .string X9.s, .int .i64 X9.a, .int .i64 X9.b, .int .i64 X9.c]) wq rfl ⟨fun _ _ _ _ => Below.refl _ _, fun h => absurd h (by decide), fun h => absurd h (by decide), fun h => absurd h (by decide)⟩ hC
                  simp only [upd, Nat.reduceEqDiff, ↓reduceIte, e9] at hh
                  exact hh
                | 9, ho =>
                  obtain rfl := Option.some.inj (show some _ = some o from ho)
                  intro dn vs wq hd hC hE K hK
                  obtain ⟨-, d7⟩ : dn 7 = true ∧ (∃ (A3 : Option Addr) (n3 c3 : Nat), vs 7 = .tuple #[.agg #[.int .i64 X9.q, .int .i64 X9.t, .int .i64 X9.k, .string X9.s, .int .i64 X9.a, .int .i64 X9.b, .int .i64 X9.c], .agg #[.int .i64 DQ9, .int .i64 DT9, .slice A3 n3 c3], .int .i64 DE9]) := hE { on := 7, ground := Ground.data } (by simp) rfl
                  obtain ⟨A3, n3, c3, e9⟩ := d7
                  go_simp
                  have hh := hK.out (.agg #[.int .i64 DQ9, .int .i64 DT9, .slice A3 n3 c3]) wq ⟨A3, n3, c3, rfl⟩ ⟨fun _ _ _ _ => Below.refl _ _, fun h => absurd h (by decide), fun h => absurd h (by decide), fun h => absurd h (by decide)⟩ hC
                  simp only [upd, Nat.reduceEqDiff, ↓reduceIte, e9] at hh
                  exact hh
                | 10, ho =>
                  obtain rfl := Option.some.inj (show some _ = some o from ho)
                  intro dn vs wq hd hC hE K hK
                  obtain ⟨-, d7⟩ : dn 7 = true ∧ (∃ (A3 : Option Addr) (n3 c3 : Nat), vs 7 = .tuple #[.agg #[.int .i64 X9.q, .int .i64 X9.t, .int .i64 X9.k, .string X9.s, .int .i64 X9.a, .int .i64 X9.b, .int .i64 X9.c], .agg #[.int .i64 DQ9, .int .i64 DT9, .slice A3 n3 c3], .int .i64 DE9]) := hE { on := 7, ground := Ground.data } (by simp) rfl
                  obtain ⟨A3, n3, c3, e9⟩ := d7
                  go_simp
                  have hh := hK.out (.int .i64 DE9) wq rfl ⟨fun _ _ _ _ => Below.refl _ _, fun h => absurd h (by decide), fun h => absurd h (by decide), fun h => absurd h (by decide)⟩ hC
                  simp only [upd, Nat.reduceEqDiff, ↓reduceIte, e9] at hh
                  exact hh
                | 11, ho =>
                  obtain rfl := Option.some.inj (show some _ = some o from ho)
                  intro dn vs wq hd hC hE K hK
                  go_simp
                  have hh := hK.out (.pointer (some ⟨wq.heap.size, 0, none⟩)) (wq.alloc (.cells #[.int .i64 0, .int .i64 0, .int .i64 0, .string ⟨#[]⟩, .int .i64 0, .int .i64 0, .int .i64 0] 26)) (fun _ => ⟨_, rfl, hC.size, heap_alloc_new _ _⟩) ⟨fun _ _ _ _ => (Below.refl _ _).alloc (Nat.le_refl _) _, fun h => absurd h (by decide), fun h => absurd h (by decide), fun h => absurd h (by decide)⟩ (hC.alloc hC.size _)
                  simp only [upd, Nat.reduceEqDiff, ↓reduceIte] at hh
                  exact hh
                | 12, ho =>
                  obtain rfl := Option.some.inj (show some _ = some o from ho)
                  intro dn vs wq hd hC hE K hK
                  go_simp
                  have hh := hK.out (.pointer (some ⟨wq.heap.size, 0, none⟩)) (wq.alloc (.cells #[.int .i64 0, .int .i64 0, .slice none 0 0] 24)) (fun _ => ⟨_, rfl, hC.size, heap_alloc_new _ _⟩) ⟨fun _ _ _ _ => (Below.refl _ _).alloc (Nat.le_refl _) _, fun h => absurd h (by decide), fun h => absurd h (by decide), fun h => absurd h (by decide)⟩ (hC.alloc hC.size _)
                  simp only [upd, Nat.reduceEqDiff, ↓reduceIte] at hh
                  exact hh
                | 13, ho =>
                  obtain rfl := Option.some.inj (show some _ = some o from ho)
                  intro dn vs wq hd hC hE K hK
                  obtain ⟨-, d11⟩ : dn 11 = true ∧ (dn 13 = false → ∃ g, vs 11 = .pointer (some ⟨g, 0, none⟩) ∧ w7.heap.size ≤ g ∧ wq.heap[g]? = some (.cells #[.int .i64 0, .int .i64 0, .int .i64 0, .string ⟨#[]⟩, .int .i64 0, .int .i64 0, .int .i64 0] 26 (0, 0))) := hE { on := 11, ground := Ground.data } (by simp) rfl
                  obtain ⟨-, d8⟩ : dn 8 = true ∧ (vs 8 = .agg #[.int .i64 X9.q, .int .i64 X9.t, .int .i64 X9.k, .string X9.s, .int .i64 X9.a, .int .i64 X9.b, .int .i64 X9.c]) := hE { on := 8, ground := Ground.data } (by simp) rfl
                  obtain ⟨g, e1, e2, e3⟩ := d11 hd
                  have e4 := d8
                  rw [if_pos (by rfl)]
                  refine wp_store_row 26 (.tmp 20) (.tmp 109) rfl g #[.int .i64 X9.q, .int .i64 X9.t, .int .i64 X9.k, .string X9.s, .int .i64 X9.a, .int .i64 X9.b, .int .i64 X9.c] e1 e4 26 _ e3 ev7_size rfl (ev7_one _ _ _ _ _ _ _) ?_
                  have SR : Sto g wq (wq.setRow g #[.int .i64 X9.q, .int .i64 X9.t, .int .i64 X9.k, .string X9.s, .int .i64 X9.a, .int .i64 X9.b, .int .i64 X9.c]) := ⟨rfl, rfl, rfl, by simp [World.setRow], fun k hk => setRow_other wq g k _ hk⟩
                  have hh := hK.out undef _ trivial ⟨fun _ _ h => absurd rfl h, fun _ => ⟨g, SR, e3⟩, fun h => absurd h (by decide), fun h => absurd h (by decide)⟩ (SR.below hC e2)
                  simp only [upd, Nat.reduceEqDiff, ↓reduceIte] at hh
                  exact hh
                | 14, ho =>
                  obtain rfl := Option.some.inj (show some _ = some o from ho)
                  intro dn vs wq hd hC hE K hK
                  obtain ⟨-, d12⟩ : dn 12 = true ∧ (dn 14 = false → ∃ g, vs 12 = .pointer (some ⟨g, 0, none⟩) ∧ w7.heap.size ≤ g ∧ wq.heap[g]? = some (.cells #[.int .i64 0, .int .i64 0, .slice none 0 0] 24 (0, 0))) := hE { on := 12, ground := Ground.data } (by simp) rfl
                  obtain ⟨-, d9⟩ : dn 9 = true ∧ (∃ (A3 : Option Addr) (n3 c3 : Nat), vs 9 = .agg #[.int .i64 DQ9, .int .i64 DT9, .slice A3 n3 c3]) := hE { on := 9, ground := Ground.data } (by simp) rfl
                  obtain ⟨g, e1, e2, e3⟩ := d12 hd
                  obtain ⟨A3, n3, c3, e4⟩ := d9
                  rw [if_pos (by rfl)]
                  refine wp_store_row 24 (.tmp 21) (.tmp 110) rfl g #[.int .i64 DQ9, .int .i64 DT9, .slice A3 n3 c3] e1 e4 24 _ e3 cx7_size rfl (cx7_one _ _ _ _ _) ?_
                  have SR : Sto g wq (wq.setRow g #[.int .i64 DQ9, .int .i64 DT9, .slice A3 n3 c3]) := ⟨rfl, rfl, rfl, by simp [World.setRow], fun k hk => setRow_other wq g k _ hk⟩
                  have hh := hK.out undef _ trivial ⟨fun _ _ _ h => absurd rfl h, fun h => absurd h (by decide), fun _ => ⟨g, SR, e3⟩, fun h => absurd h (by decide)⟩ (SR.below hC e2)
                  simp only [upd, Nat.reduceEqDiff, ↓reduceIte] at hh
                  exact hh
                | 15, ho =>
                  obtain rfl := Option.some.inj (show some _ = some o from ho)
                  intro dn vs wq hd hC hE K hK
                  obtain ⟨-, d10⟩ : dn 10 = true ∧ (vs 10 = .int .i64 DE9) := hE { on := 10, ground := Ground.data } (by simp) rfl
                  go_simp
                  have hh := hK.out (.int .i64 DE9) wq rfl ⟨fun _ _ _ _ => Below.refl _ _, fun h => absurd h (by decide), fun h => absurd h (by decide), fun h => absurd h (by decide)⟩ hC
                  simp only [upd, Nat.reduceEqDiff, ↓reduceIte, d10] at hh
                  exact hh
                | (_ + 16), ho => exact absurd ho (by simp)
              case hend =>
                intro dn va w8 hd hC hE
                have r15 : va 15 = _ := hE 15 (by decide)
                simp only [r15]
                have hbw8 : Below w.heap.size w w8 := hbw7.trans (hC.mono hbw7.size)
                have K1 := (hC.block _ z1).trans HK.out.1
                have K2 := (hC.block _ z2).trans HK.out.2.1
                have K3 := (hC.block _ z3).trans HK.out.2.2
                clear r15 hE hC HR11 HK hd PDM PDZ HDM HDY HSB HL1 HL2 HN1 hEq hFLs hbw7 z1 u10 u11 u12 f10 f11 f12 z2 u20 u21 u22 u23 u24 u25 u26 z3 u30 u31 u32 f30 f31 f32
                have z1 := blk_lt K1
                obtain ⟨u10, u11, u12, f10, f11, f12⟩ := blk3 K1
                have z2 := blk_lt K2
                obtain ⟨u20, u21, u22, u23, u24, u25, u26⟩ := blk7 K2
                have z3 := blk_lt K3
                obtain ⟨u30, u31, u32, f30, f31, f32⟩ := blk3 K3
                have HK := hid (And.intro K1 (And.intro K2 (K3)))
                clear K1 K2 K3
                by_cases hde : deE q0 t0 ss zs = 0
                case pos =>
                  obtain ⟨hrc, hfo⟩ := de_zero hde
                  obtain ⟨y1, y2, y3, y4, y5⟩ := de_yes hrc hfo
                  rw [y2, y3, y4, y5] at PD
                  unfold evV at PD
                  have hxs : (deX q0 t0 ss zs).s.size ≤ maxLen := by have := nm_size (fl_ok hrc hfo.1).nm; unfold maxLen; omega
                  have PE3 := hid (fun (w1 : World) (h : Below w.heap.size w w1) => PE2.out w1 h (deX q0 t0 ss zs) hxs)
                  have he0 : enE q0 t0 ss (deX q0 t0 ss zs) = 0 := (en_fl hrc).trans hfo.1
                  obtain ⟨-, -, z3, z4, z5, z6⟩ := en_zero he0
                  have hFL := hid (flL_small ss (deX q0 t0 ss zs))
                  have PE4 := PE3.out
                  change ∀ (w1 : World) (h : Below w.heap.size w w1), Calls _ _ _ w1 (fun e w' => (∃ (A1 : Option Addr) (n1 c1 : Nat) (A2 : Option Addr) (n2 c2 : Nat), e = .returned (.tuple #[.slice A1 n1 c1, .agg #[.int .i64 (enQ q0 t0 ss (deX q0 t0 ss zs)), .int .i64 (enT q0 t0 ss (deX q0 t0 ss zs)), .slice A2 n2 c2], .int .i64 (enE q0 t0 ss (deX q0 t0 ss zs))]) ∧ Rw w' A1 n1 c1 (enB q0 t0 ss (deX q0 t0 ss zs)) ∧ Rs w' A2 n2 c2 (enL q0 t0 ss (deX q0 t0 ss zs))) ∧ Below w1.heap.size w1 w') at PE4
                  rw [z3, z4, z5, z6, he0, hfo.2] at PE4
                  have PE5 := hid PE4
                  clear PE2 PE3 PE4 z3 z4 z5 z6 y1 y2 y3 y4 y5 he0 hfo hrc hxs hde
                  generalize deX q0 t0 ss zs = X at *
                  generalize flL ss X = LX at *
                  go_wp2_with fail
                  refine (PD.out _ hbw8).mono ?_
                  rintro e wt1 ⟨⟨A5, n5, c5, rfl, hR5⟩, hb1⟩
                  have hbwt1 : Below w.heap.size w wt1 := hbw8.trans (hb1.mono hbw8.size)
                  have K1 := (hb1.block _ z1).trans HK.out.1
                  have K2 := (hb1.block _ z2).trans HK.out.2.1
                  have K3 := (hb1.block _ z3).trans HK.out.2.2
                  clear z1 u10 u11 u12 f10 f11 f12 z2 u20 u21 u22 u23 u24 u25 u26 z3 u30 u31 u32 f30 f31 f32 HK
                  have z1 := blk_lt K1
                  obtain ⟨u10, u11, u12, f10, f11, f12⟩ := blk3 K1
                  have z2 := blk_lt K2
                  obtain ⟨u20, u21, u22, u23, u24, u25, u26⟩ := blk7 K2
                  have z3 := blk_lt K3
                  obtain ⟨u30, u31, u32, f30, f31, f32⟩ := blk3 K3
                  have HK := hid (And.intro K1 (And.intro K2 (K3)))
                  clear K1 K2 K3
                  have HR5 := hid hR5
                  clear hb1 hR5 PD
                  have hal : Below wt1.heap.size wt1 ((wt1.alloc (.cells #[.int .i64 X.q, .int .i64 X.t, .int .i64 X.k, .string X.s, .int .i64 X.a, .int .i64 X.b, .int .i64 X.c] 26)).alloc (.cells #[.int .i64 X.q, .int .i64 X.t, .slice A5 n5 c5] 24)) := ((Below.refl _ _).alloc (Nat.le_refl _) _).alloc (by simp) _
                  go_wp2_with fail
                  refine (PE5.out _ (hbwt1.trans (hal.mono hbwt1.size))).mono ?_
                  rintro e wt2 ⟨⟨A6, n6, c6, A7, n7, c7, rfl, hR6, hR7⟩, hb2⟩
                  have HR8 := hid ((HR5.out.below hal).below hb2)
                  have HR6 := hid hR6
                  have HR7 := hid hR7
                  have K24 := (hb2.block (wt1.heap.size + 1) (by simp)).trans (show ((wt1.alloc (.cells #[.int .i64 X.q, .int .i64 X.t, .int .i64 X.k, .string X.s, .int .i64 X.a, .int .i64 X.b, .int .i64 X.c] 26)).alloc (.cells #[.int .i64 X.q, .int .i64 X.t, .slice A5 n5 c5] 24)).heap[wt1.heap.size + 1]? = some (.cells #[.int .i64 X.q, .int .i64 X.t, .slice A5 n5 c5] 24 (0, 0)) by have := heap_alloc_new (wt1.alloc (.cells #[.int .i64 X.q, .int .i64 X.t, .int .i64 X.k, .string X.s, .int .i64 X.a, .int .i64 X.b, .int .i64 X.c] 26)) (.cells #[.int .i64 X.q, .int .i64 X.t, .slice A5 n5 c5] 24); rwa [World.size_alloc] at this)
                  obtain ⟨g24, hg24⟩ : ∃ g, wt1.heap.size + 1 = g := ⟨_, rfl⟩
                  rw [hg24] at K24
                  have lg24 : w.heap.size + 2 ≤ g24 := by omega
                  have lg12a : g12 < g24 := by omega
                  have hbwt2 : Below w.heap.size w wt2 := ((hbwt1.alloc (by omega) _).alloc (by simp; omega) _).trans (hb2.mono (by simp; omega))
                  have K1 := (hb2.block _ (by simp; omega)).trans ((Below.heap_alloc _ _ _ (by simp; omega)).trans ((Below.heap_alloc _ _ _ z1).trans HK.out.1))
                  have K2 := (hb2.block _ (by simp; omega)).trans ((Below.heap_alloc _ _ _ (by simp; omega)).trans ((Below.heap_alloc _ _ _ z2).trans HK.out.2.1))
                  have K3 := (hb2.block _ (by simp; omega)).trans ((Below.heap_alloc _ _ _ (by simp; omega)).trans ((Below.heap_alloc _ _ _ z3).trans HK.out.2.2))
                  clear z1 u10 u11 u12 f10 f11 f12 z2 u20 u21 u22 u23 u24 u25 u26 z3 u30 u31 u32 f30 f31 f32 HK
                  have z1 := blk_lt K1
                  obtain ⟨u10, u11, u12, f10, f11, f12⟩ := blk3 K1
                  have z2 := blk_lt K2
                  obtain ⟨u20, u21, u22, u23, u24, u25, u26⟩ := blk7 K2
                  have z3 := blk_lt K3
                  obtain ⟨u30, u31, u32, f30, f31, f32⟩ := blk3 K3
                  have HK := hid (And.intro K1 (And.intro K2 (K3)))
                  clear K1 K2 K3
                  rw [hg24]
                  have z9 := blk_lt K24
                  obtain ⟨u90, u91, u92, f90, f91, f92⟩ := blk3 K24
                  have HK24 := hid K24
                  clear K24 hb2 hal hg24 hR6 hR7 HR5 PE5
                  have k1 := fun (x y z : Value) => conv8 c6 ((HR6.out.lts HK.out.2.2 (sto3 wt2 g12 x y z).lts)).1
                  have k2 := fun (x y z : Value) => conv8 c (HS.out _ ((sto3 wt2 g12 x y z).below hbwt2 (by omega))).1
                  have he : ((strOfNums zs).toList == (strOfNums zs).toList) = true := by simp
                  have hne1 : ¬ g24 = g12 := by omega
                  have hne2 : ¬ g12 = g24 := by omega
                  have S4 := sto3 wt2 g12 (.int .i64 X.q) (.int .i64 X.t) (.slice A7 n7 c7)
                  have hbX := S4.below hbwt2 (by omega)
                  have PSA := hid (RSame7 (q0 := X.q) (t0 := X.t) (q1 := X.q) (t1 := X.t) (c := c7) (c' := c5) (HR7.out.lts HK.out.2.2 S4.lts) (HR8.out.lts HK.out.2.2 S4.lts) (show n7 ≤ 1000000 by have := HR7.out.len; have := hFL.out; have := hss.out; omega))
                  rw [show decide (X.q = X.q ∧ X.t = X.t ∧ LX = LX) = true by simp] at PSA
                  clear S4
                  go_wp2_with fail
                  with_reducible refine PSA.out.mono ?_
                  rintro e wt3 ⟨rfl, hb3⟩
                  go_wp2_with fail
                  go_ret
                  exact ⟨rfl, hbX.trans (hb3.mono hbX.size)⟩
                case neg =>
                  obtain ⟨y1, y2, y3, y4, y5⟩ := de_not (fun ho : deO q0 t0 ss zs => hde (de_o ho))
                  rw [y1, y3, y4, y5, show evV ev0 = .agg #[.int .i64 0, .int .i64 0, .int .i64 0, .string ⟨#[]⟩, .int .i64 0, .int .i64 0, .int .i64 0] from rfl] at PD
                  clear y1 y2 y3 y4 y5
                  generalize deE q0 t0 ss zs = DE at *
                  have hEq := eq_event 0 0 0 0 0 0 ⟨#[]⟩
                  go_wp2_with fail
                  refine (PD.out _ hbw8).mono ?_
                  rintro e wt1 ⟨⟨A5, n5, c5, rfl, hR5⟩, hb1⟩
                  have hbwt1 : Below w.heap.size w wt1 := hbw8.trans (hb1.mono hbw8.size)
                  have K1 := (hb1.block _ z1).trans HK.out.1
                  have K2 := (hb1.block _ z2).trans HK.out.2.1
                  have K3 := (hb1.block _ z3).trans HK.out.2.2
                  clear z1 u10 u11 u12 f10 f11 f12 z2 u20 u21 u22 u23 u24 u25 u26 z3 u30 u31 u32 f30 f31 f32 HK
                  have z1 := blk_lt K1
                  obtain ⟨u10, u11, u12, f10, f11, f12⟩ := blk3 K1
                  have z2 := blk_lt K2
                  obtain ⟨u20, u21, u22, u23, u24, u25, u26⟩ := blk7 K2
                  have z3 := blk_lt K3
                  obtain ⟨u30, u31, u32, f30, f31, f32⟩ := blk3 K3
                  have HK := hid (And.intro K1 (And.intro K2 (K3)))
                  clear K1 K2 K3
                  have HR5 := hid hR5
                  clear hb1 hR5 PD
                  have hal : Below wt1.heap.size wt1 ((wt1.alloc (.cells #[.int .i64 0, .int .i64 0, .int .i64 0, .string ⟨#[]⟩, .int .i64 0, .int .i64 0, .int .i64 0] 26)).alloc (.cells #[.int .i64 q0, .int .i64 t0, .slice A5 n5 c5] 24)) := ((Below.refl _ _).alloc (Nat.le_refl _) _).alloc (by simp) _
                  have hbX := hbwt1.trans (hal.mono hbwt1.size)
                  have PSA := hid (RSame7 (q0 := q0) (t0 := t0) (q1 := q0) (t1 := t0) (c := c5) (c' := cp) (HR5.out.below hal) (HR.out _ hbX) (show n5 ≤ 1000000 by have := HR5.out.len; have := hss.out; omega))
                  rw [show decide (q0 = q0 ∧ t0 = t0 ∧ ss = ss) = true by simp] at PSA
                  go_wp2_with fail
                  with_reducible refine PSA.out.mono ?_
                  rintro e wt3 ⟨rfl, hb3⟩
                  go_wp2_with fail
                  go_ret
                  exact ⟨rfl, hbX.trans (hb3.mono hbX.size)⟩
end Go.Proofs.Ytgijhfdlecdijaa
