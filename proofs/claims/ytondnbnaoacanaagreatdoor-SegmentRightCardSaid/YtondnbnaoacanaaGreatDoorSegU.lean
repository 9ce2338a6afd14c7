/- Layer 9: bytes of the call's own whose room has bytes alone: Clone, sealed bytes, frames. -/
import Derived.Test.YtondnbnaoacanaaGreatDoorSegP
import Derived.Test.YtondnbnaoacanaaGreatDoorRowY
import Derived.Test.YtondnbnaoacanaaGreatDoorXa
import Derived.Test.YtondnbnaoacanaaGreatDoorFa
namespace Fb
open Go Go.RowKit
theorem own_lowb {w : World} {base n size : Nat} {e : TypeId} {v : Value} {xs : List Value} (h : w.ownsRow base e size v n xs) : ∀ k, v.ownBlock = some k → base ≤ k := fun k hk => (h.lt k hk).1
theorem wpList_pushU {Z : Value → Prop} {P : Program} {w : World} {ops : Array Oper} {rest : List Oper} {o : Oper} {a : Act} {Q : Exit → Act → World → Prop} (hgd : o.guard = none) (s x : Operand) (t : TypeId)
    (ho : o.op = .call { callee := .builtin .append, args := #[s, x], argTypes := #[t, t] })
    {base : Nat} {e : TypeId} {i : TypeInfo} {z : Value} {bytes : Nat} (ht : P.underlying t = some (.slice e)) (hi : P.info? e = some i) (hz : i.zero = some z)
    (hsize : i.size = 1) (hby : i.bytes = bytes) (hzs : z.cells.size = 1) (hzz : ∀ x ∈ z.cells.toList, Z x)
    {v : Value} {n : Nat} {xs : List Value} (hs : a.eval s = v) (hown : w.ownsRow base e 1 v n xs) (hsp : SprY Z w v n) {us : Array Value} {c : Nat}
    (hx : a.eval x = .slice (some ⟨w.heap.size, 0, none⟩) 1 c) (hl : us.size = 1)
    (h : ∀ v' w', w'.ownsRow base e 1 v' (n + 1) (xs ++ us.toList) → SprY Z w' v' (n + 1) → Below base w w' → wpList P ops Q rest (a.put o.dst v') w')
    (h1 : ∀ u ∈ us.toList, u.oneCell' = true) (h63 : n + 1 ≤ maxLen) (hbytes : (n + 1) * bytes ≤ 140737488355328) (hbase : base ≤ w.heap.size) :
    wpList P ops Q (o :: rest) a (w.alloc (.cells us e)) :=
  wpList_pushY hgd s x t ho ht hi hz hsize hby hzs (by omega) hzz hs hown (by rwa [Nat.mul_one]) hx hl (fun v' w' h2 h3 h4 _ _ => h v' w' h2 (by rwa [Nat.mul_one] at h3) ((Below.refl _ _).grown h4 hbase (own_lowb hown))) h1 h63 hbytes hbase
theorem wpList_pushAllU {Z : Value → Prop} {P : Program} {w : World} {ops : Array Oper} {rest : List Oper} {o : Oper} {a : Act} {Q : Exit → Act → World → Prop} (hgd : o.guard = none) (s x : Operand) (t : TypeId)
    (ho : o.op = .call { callee := .builtin .append, args := #[s, x], argTypes := #[t, t] })
    {base : Nat} {e : TypeId} {i : TypeInfo} {z : Value} {bytes : Nat} (ht : P.underlying t = some (.slice e)) (hi : P.info? e = some i) (hz : i.zero = some z)
    (hsize : i.size = 1) (hby : i.bytes = bytes) (hzs : z.cells.size = 1) (hzz : ∀ x ∈ z.cells.toList, Z x)
    {v : Value} {n : Nat} {xs : List Value} (hs : a.eval s = v) (hown : w.ownsRow base e 1 v n xs) (hsp : SprY Z w v n) {B m c : Nat} {A : Option Addr} {news : List Value}
    (hx : a.eval x = .slice A m c) (hnil : A = none → c = 0) (hr : Sl w B A m news)
    (h : ∀ v' w', w'.ownsRow base e 1 v' (n + m) (xs ++ news) → SprY Z w' v' (n + m) → Below base w w' → wpList P ops Q rest (a.put o.dst v') w')
    (h1 : ∀ u ∈ news, u.oneCell' = true) (h63 : n + m ≤ maxLen) (hbytes : (n + m) * bytes ≤ 140737488355328) (hbase : base ≤ w.heap.size) :
    wpList P ops Q (o :: rest) a w :=
  wpList_pushAllY hgd s x t ho ht hi hz hsize hby hzs hzz hs hown hsp hx hnil hr (fun v' w' h2 h3 h4 _ => h v' w' h2 h3 ((Below.refl _ _).grown h4 hbase (own_lowb hown))) h1 h63 hbytes hbase
end Fb
namespace Go.Proofs.YtondnbnaoacanaaGreatDoor
open Go.ChangeShapes Go.WideShapes Go.ChangeAt Go.RowKit Fb Go.Maps

/-- a byte's cell -/
def Z8 (u : Value) : Prop := ∃ n, u = .int .u8 n
theorem z8_zero : ∀ x ∈ (Value.int .u8 0).cells.toList, Z8 x := by
  intro x hx
  simp only [Value.cells, List.mem_cons, List.not_mem_nil, or_false] at hx
  exact ⟨0, hx⟩
theorem SprY.down {w w' : World} {base n : Nat} {v : Value} {xs : List Value} {B : Nat} (h : SprY Z8 w v n) (ho : w.ownsRow base 5 1 v n xs) (hb : Below B w w') (hB : w.heap.size ≤ B) : SprY Z8 w' v n := SprY.below h ho (hb.mono hB)
/-- bytes of the call's own, and room for bytes -/
def PutsU (base : Nat) (w : World) (zs : List Int) (e : Ending) (w' : World) : Prop := (∃ v, e = .returned v ∧ w'.ownsRow base 5 1 v zs.length (by8 zs) ∧ SprY Z8 w' v zs.length) ∧ Below base w w'
set_option maxHeartbeats 1000000 in
theorem CloneU_any {A : Option Addr} {n c B : Nat} {zs : List Int} {w : World} (hS : Sl w B A n (by8 zs)) (hB : B ≤ w.heap.size) (hnil : A = none → c = 0) (hn : zs.length ≤ 1000000) :
    Calls Tryz.prog 63 #[.slice A n c] w fun e w' => (∃ v, e = .returned v ∧ w'.ownsRow w.heap.size 5 1 v n (by8 zs) ∧ SprY Z8 w' v n) ∧ Below w.heap.size w w' := by
  have kn := fun (w : World) (a : Option Addr) (n c : Nat) => Go.Lib.run_eql_slice_nil (P := Tryz.prog) w 26 5 a n c 0 0 Tryz.underlying26
  have hl : n = zs.length := by have := hS.len; rw [by8_len] at this; exact this.symm
  rcases A with _ | ad
  · obtain rfl := hnil rfl
    obtain rfl : n = 0 := by
      rcases Nat.eq_zero_or_pos n with h0 | h0
      · exact h0
      · obtain ⟨_, _, hA, _⟩ := hS.2 h0; cases hA
    obtain rfl : zs = [] := List.eq_nil_of_length_eq_zero hl.symm
    clear hnil hS hl
    go_enter Tryz.func63, Tryz.ntmps63
    go_wp2
    go_ret
    exact ⟨⟨_, rfl, ⟨by simp [by8], .inl ⟨rfl, rfl⟩⟩, SprY.nil _ _⟩, Below.refl _ _⟩
  · obtain ⟨i0, hi0, hz0, hz1, hz2⟩ := info_parts u8_info
    have hnil' := hid hnil
    have hl' := hid hl
    clear hnil hl
    have hn0 : n ≤ 1000000 := by have := hl'.out; omega
    go_enter Tryz.func63, Tryz.ntmps63
    go_wp2_with (at_builtin; refine wpList_pushAllU (Z := Z8) (B := B) rfl (.tmp 5) (.tmp 6) _ rfl Tryz.underlying26 hi0 hz0 hz1 hz2 rfl z8_zero rfl (own_fresh w #[] 5 (base := w.heap.size) (n := 0) (xs := []) rfl (Nat.le_refl _) rfl rfl (Nat.zero_le _)) (SprY.fresh w _ _ rfl rfl) rfl (by simp) (m := n) (news := by8 zs) ?SL (fun v' w' hown hsp hbel => ?_) (by8_one zs) (by simp only [maxLen]; omega) (by omega) (by simp))
    case SL => exact hS.below ((Below.refl _ _).alloc hB _)
    go_wp2
    go_ret
    exact ⟨⟨_, rfl, by simpa using hown, by simpa using hsp⟩, ((Below.refl _ _).alloc (Nat.le_refl _) _).trans hbel⟩
set_option maxHeartbeats 2000000 in
set_option maxRecDepth 100000 in
theorem SealU_any {T : List Nat} (hT : Tb T) {A : Option Addr} {n c B : Nat} {zs : List Int} {w : World} (hS : Sl w B A n (by8 zs)) (hB : B ≤ w.heap.size) (hb : Bytes zs) (hnil : A = none → c = 0) (hn : n ≤ 1000000) :
    Calls Tryz.prog 44 #[.agg (c32 T), .slice A n c] w (PutsU w.heap.size w (sealed T zs)) := by
  obtain ⟨i0, hi0, hz0, hz1, hz2⟩ := info_parts u8_info
  have hl : n = zs.length := by have := hS.len; rw [by8_len] at this; exact this.symm
  have hbA : Below w.heap.size w (w.alloc (.cells (c32 T) 77)) := (Below.refl _ _).alloc (Nat.le_refl _) _
  have P1 := hid (CloneU_any (c := c) (hS.below ((Below.refl B w).alloc hB (.cells (c32 T) 77))) (Nat.le_trans hB hbA.size) hnil (by omega))
  have P2 := hid (fun (w' : World) (h : Below w.heap.size w w') => Sum_crc hT (c := c) (s := 0) (hS.below (h.mono hB)) (Nat.le_trans hB h.size) hb hn (by omega))
  have Hl := hid hl
  have HR := hid (sumT_lt hT (s := 0) (by omega) (n8_lt hb))
  have E : Hid (zs ++ foot (sumT T 0 (n8 zs)) = sealed T zs) := rfl
  have hs : (Tryz.prog.info? 77).map (·.size) = some (c32 T).size := by rw [c32_size, hT.1]; exact t256_size
  have Hs := hid hs
  clear hnil hl hs
  go_enter Tryz.func44, Tryz.ntmps44
  go_wp2_with fail
  refine P1.out.mono ?_
  rintro e w1 ⟨⟨v, rfl, hown, hsp⟩, hb1⟩
  have h0 := hid ((hb1.block w.heap.size (by simp)).trans (heap_alloc_new w _))
  go_wp2_with (refine wpList_load_row rfl 77 (.tmp 2) rfl w.heap.size rfl 77 _ (0, 0) _ h0.out Tryz.underlying77 rfl Hs.out ?_)
  refine (P2.out _ (hbA.trans (hb1.mono hbA.size))).mono ?_
  rintro e w2 ⟨rfl, hb2⟩
  have hsp2 := SprY.below hsp hown hb2
  have hown2 := own_down (own_below hown hb2) hbA.size
  have hbW : Below w.heap.size w w2 := hbA.trans ((hb1.mono hbA.size).trans (hb2.mono (Nat.le_trans hbA.size hb1.size)))
  clear hown hsp hb2 hb1 h0 P1 P2 Hs
  generalize sumT T 0 (n8 zs) = r at *
  go_wp2_with fail
  go_loopw [5, 13] (fun v i wr => ∃ k : Nat, k ≤ 4 ∧ i = .int .i64 k ∧ wr.ownsRow w.heap.size 5 1 v (n + k) (by8 (zs ++ (foot r).take k)) ∧ SprY Z8 wr v (n + k) ∧ Below w.heap.size w wr) (fun _ i _ => 4 - (intOf i).toNat)
  case atStart => exact ⟨0, by omega, rfl, by simpa using hown2, by simpa using hsp2, hbW⟩
  case round =>
    obtain ⟨k, hk, rfl, hown', hsp', hbr⟩ := hrel
    by_cases hlt : k < 4
    · have hc : k = 0 ∨ k = 1 ∨ k = 2 ∨ k = 3 := by omega
      rcases hc with rfl | rfl | rfl | rfl
      · have Hf := hid (foot_next0 zs r)
        go_wp2_with (at_builtin; refine wpList_pushU (Z := Z8) rfl (.tmp 16) (.tmp 22) 26 rfl Tryz.underlying26 hi0 hz0 hz1 hz2 rfl z8_zero rfl hown' hsp' rfl rfl ?_ ?c1 ?c2 ?c3 ?c4; intro v' w'' hown'' hsp'' hb'')
        case c1 => simp [Value.oneCell']
        case c2 => simp [maxLen]; omega
        case c3 => omega
        case c4 => exact hbr.size
        go_roundw
        case rel => exact ⟨1, by omega, by go_num, by rw [Hf.out]; exact hown'', hsp'', hbr.trans hb''⟩
        case measure => simp [intOf]
      · have Hf := hid (foot_next1 zs r)
        go_wp2_with (at_builtin; refine wpList_pushU (Z := Z8) rfl (.tmp 16) (.tmp 22) 26 rfl Tryz.underlying26 hi0 hz0 hz1 hz2 rfl z8_zero rfl hown' hsp' rfl rfl ?_ ?c1 ?c2 ?c3 ?c4; intro v' w'' hown'' hsp'' hb'')
        case c1 => simp [Value.oneCell']
        case c2 => simp [maxLen]; omega
        case c3 => omega
        case c4 => exact hbr.size
        go_roundw
        case rel => exact ⟨2, by omega, by go_num, by rw [Hf.out]; exact hown'', hsp'', hbr.trans hb''⟩
        case measure => simp [intOf]
      · have Hf := hid (foot_next2 zs r)
        go_wp2_with (at_builtin; refine wpList_pushU (Z := Z8) rfl (.tmp 16) (.tmp 22) 26 rfl Tryz.underlying26 hi0 hz0 hz1 hz2 rfl z8_zero rfl hown' hsp' rfl rfl ?_ ?c1 ?c2 ?c3 ?c4; intro v' w'' hown'' hsp'' hb'')
        case c1 => simp [Value.oneCell']
        case c2 => simp [maxLen]; omega
        case c3 => omega
        case c4 => exact hbr.size
        go_roundw
        case rel => exact ⟨3, by omega, by go_num, by rw [Hf.out]; exact hown'', hsp'', hbr.trans hb''⟩
        case measure => simp [intOf]
      · have Hf := hid (foot_next3 zs r)
        go_wp2_with (at_builtin; refine wpList_pushU (Z := Z8) rfl (.tmp 16) (.tmp 22) 26 rfl Tryz.underlying26 hi0 hz0 hz1 hz2 rfl z8_zero rfl hown' hsp' rfl rfl ?_ ?c1 ?c2 ?c3 ?c4; intro v' w'' hown'' hsp'' hb'')
        case c1 => simp [Value.oneCell']
        case c2 => simp [maxLen]; omega
        case c3 => omega
        case c4 => exact hbr.size
        go_roundw
        case rel => exact ⟨4, by omega, by go_num, by rw [Hf.out]; exact hown'', hsp'', hbr.trans hb''⟩
        case measure => simp [intOf]
    · obtain rfl : k = 4 := by omega
      go_wp2
      go_ret
      refine ⟨⟨_, rfl, ?_⟩, hbr⟩
      have e : (foot r).take 4 = foot r := rfl
      rw [e, E.out] at hown'
      rw [sealed_len, ← Hl.out]
      exact ⟨hown', hsp'⟩
def FPutsU (w : World) (k : Int) (zs : List Int) (e : Ending) (w' : World) : Prop :=
  (∃ v, e = .returned (.tuple #[v, .int .i64 (fpE k zs.length)]) ∧ w'.ownsRow w.heap.size 5 1 v (fpB k zs).length (by8 (fpB k zs)) ∧ SprY Z8 w' v (fpB k zs).length) ∧ Below w.heap.size w w'
theorem FPutsU.none {w w' : World} {k : Int} {zs : List Int} {E : Int} (h : fpE k zs.length = E) (h0 : E ≠ 0) (hb : Below w.heap.size w w') : FPutsU w k zs (.returned (.tuple #[.slice none 0 0, .int .i64 E])) w' := by
  refine ⟨⟨_, by rw [h], ?_⟩, hb⟩
  rw [fpB_no (by rw [h]; exact h0)]
  exact ⟨⟨rfl, .inl ⟨rfl, rfl⟩⟩, SprY.nil _ _⟩
set_option maxRecDepth 100000 in
set_option maxHeartbeats 2000000 in
theorem FPutU_any (k : Int) {A : Option Addr} {n c : Nat} {zs : List Int} {w : World} (hS : Rw w A n c zs) (hb : Bytes zs) :
    Calls Tryz.prog 27 #[.int .i64 k, .slice A n c] w (FPutsU w k zs) := by
  have hl : n = zs.length := by have := hS.1.len; rw [by8_len] at this; exact this.symm
  by_cases hk : k < 1
  · have E := hid (fpE_kind (n := zs.length) (Or.inl hk))
    clear hS hl
    go_enter Tryz.func27, Tryz.ntmps27
    go_wp2
    go_ret2
    exact FPutsU.none E.out (by decide) (Below.refl _ _)
  · by_cases hk3 : 3 < k
    · have E := hid (fpE_kind (n := zs.length) (Or.inr hk3))
      clear hS hl
      go_enter Tryz.func27, Tryz.ntmps27
      go_wp2
      go_ret2
      exact FPutsU.none E.out (by decide) (Below.refl _ _)
    · by_cases hn : 200 < n
      · have E := hid (fpE_many (n := zs.length) (k := k) (by omega) (by omega))
        clear hS hl
        go_enter Tryz.func27, Tryz.ntmps27
        go_wp2
        go_ret2
        exact FPutsU.none E.out (by decide) (Below.refl _ _)
      · have E := hid (fpE_ok (n := zs.length) (k := k) (by omega) (by omega))
        have EB := hid (fpB_ok (k := k) (zs := zs) E.out)
        have HB := hid (hdB_bytes (k := k) (zs := zs) (by omega) (by omega) hb)
        have hnil := hS.2.2.2
        have hSl := hid hS.1
        obtain ⟨i0, hi0, hz0, hz1, hz2⟩ := info_parts u8_info
        have e1 : k % 256 = k := by omega
        have e2 : (n : Int) / 256 = 0 := by omega
        have e3 : (n : Int) % 256 = n := by omega
        have HL := hid hl
        clear hS hl
        have HC := hid (show [Value.int .u8 0, .int .u8 (n : Int), .int .u8 k] ++ by8 zs = by8 (hdB k zs) by rw [HL.out]; exact hd_cells k zs)
        have HN := hid (show 3 + n = (hdB k zs).length by rw [hdB_len, HL.out])
        go_enter Tryz.func27, Tryz.ntmps27
        go_wp2_with (at_builtin; refine wpList_pushAll (B := w.heap.size) rfl (.tmp 26) (.tmp 27) _ rfl Tryz.underlying26 hi0 hz0 hz1 hz2 rfl rfl (own_fresh w #[.int .u8 0, .int .u8 (n : Int), .int .u8 k] 5 (base := w.heap.size) (n := 3) (xs := [.int .u8 0, .int .u8 (n : Int), .int .u8 k]) rfl (Nat.le_refl _) rfl rfl (by simp [maxLen])) rfl hnil (m := n) (news := by8 zs) ?SL (fun v' w' hown hbel => ?_) (by8_one zs) (by simp only [maxLen]; omega) (by omega) (by simp))
        case SL => exact hSl.out.below ((Below.refl _ _).alloc (Nat.le_refl _) _)
        rw [HC.out, HN.out] at hown
        obtain ⟨A1, c1, rfl, hR, -⟩ := own_rw hown
        have hb1 : Below w.heap.size w w' := ((Below.refl _ _).alloc (Nat.le_refl _) _).trans hbel
        have HR := hid hR
        clear hown hR
        go_wp2_with fail
        refine (Table_any _).mono ?_
        rintro e w1 ⟨rfl, hb2⟩
        have PS := hid (SealU_any tabN_tb (c := c1) (HR.out.below hb2).1 (Nat.le_refl _) HB.out HR.out.2.2.2 (by rw [← HN.out]; omega))
        go_wp2_with fail
        refine PS.out.mono ?_
        rintro e w2 ⟨⟨v, rfl, hown, hsp⟩, hb3⟩
        have H3 : Below w.heap.size w w2 := (hb1.trans (hb2.mono hb1.size)).trans (hb3.mono (hb1.trans (hb2.mono hb1.size)).size)
        have hlow := own_down hown (base' := w.heap.size) (hb1.trans (hb2.mono hb1.size)).size
        clear hown
        go_wp2_with fail
        go_ret2
        exact ⟨⟨v, by rw [E.out]; rfl, by rw [EB.out]; exact hlow, by rw [EB.out]; exact hsp⟩, H3⟩
set_option maxHeartbeats 2000000 in
set_option maxRecDepth 100000 in
theorem TailU_any {A : Option Addr} {n c r B : Nat} {zs : List Int} {w : World} (hS : Sl w B A n (by8 zs)) (hB : B ≤ w.heap.size) (hnil : A = none → c = 0) (hn : n ≤ 1000000) (hr : r < 4294967296) :
    Calls Tryz.prog 66 #[.slice A n c, .int .u32 r] w (PutsU w.heap.size w (zs ++ foot r)) := by
  obtain ⟨i0, hi0, hz0, hz1, hz2⟩ := info_parts u8_info
  have hl : n = zs.length := by have := hS.len; rw [by8_len] at this; exact this.symm
  have HN := hid hnil
  have Hl := hid hl
  have HR := hid hr
  clear hnil hl hr
  go_enter Tryz.func66, Tryz.ntmps66
  go_wp2_with (at_builtin; refine wpList_pushAllU (Z := Z8) (B := B) rfl (.tmp 7) (.tmp 8) _ rfl Tryz.underlying26 hi0 hz0 hz1 hz2 rfl z8_zero rfl (own_fresh w #[] 5 (base := w.heap.size) (n := 0) (xs := []) rfl (Nat.le_refl _) rfl rfl (Nat.zero_le _)) (SprY.fresh w _ _ rfl rfl) rfl HN.out (m := n) (news := by8 zs) ?SL (fun v1 w1 hown hsp hbel => ?_) (by8_one zs) (by simp only [maxLen]; omega) (by omega) (by simp))
  case SL => exact hS.below ((Below.refl _ _).alloc hB _)
  go_wp2
  have hb1 : Below w.heap.size w w1 := ((Below.refl _ _).alloc (Nat.le_refl _) _).trans hbel
  go_loopw [1, 5, 6] (fun x v i wr => ∃ k q : Nat, k ≤ 4 ∧ Hid (q = r / 256 ^ k) ∧ i = .int .i64 k ∧ x = .int .u32 q ∧ wr.ownsRow w.heap.size 5 1 v (n + k) (by8 (zs ++ (foot r).take k)) ∧ SprY Z8 wr v (n + k) ∧ Below w.heap.size w wr) (fun _ _ i _ => 4 - (intOf i).toNat)
  case atStart => exact ⟨0, r, by omega, by show _ = _; simp, rfl, rfl, by simpa using hown, by simpa using hsp, hb1⟩
  case round =>
    obtain ⟨k, q, hk, hq, rfl, rfl, hown', hsp', hbr⟩ := hrel
    by_cases hlt : k < 4
    · have Hf := hid (foot_next (zs := zs) hq.out hlt)
      have hq2 : q < 4294967296 := by rw [hq.out]; exact Nat.lt_of_le_of_lt (Nat.div_le_self _ _) HR.out
      have hqn : Hid (q / 256 = r / 256 ^ (k + 1)) := by show _ = _; rw [hq.out, Nat.div_div_eq_div_mul, Nat.pow_succ]
      clear hq
      go_wp2_with (at_builtin; refine wpList_pushU (Z := Z8) rfl (.tmp 14) (.tmp 18) 26 rfl Tryz.underlying26 hi0 hz0 hz1 hz2 rfl z8_zero rfl hown' hsp' rfl rfl ?_ ?c1 ?c2 ?c3 ?c4; intro v' w'' hown'' hsp'' hb'')
      case c1 => simp [Value.oneCell']
      case c2 => simp [maxLen]; omega
      case c3 => omega
      case c4 => exact hbr.size
      go_roundw
      case rel => exact ⟨k + 1, q / 256, by omega, hqn, by go_num, by go_num, by rw [Hf.out]; exact hown'', hsp'', hbr.trans hb''⟩
      case measure => simp [intOf]; omega
    · obtain rfl : k = 4 := by omega
      go_wp2
      go_ret
      refine ⟨⟨_, rfl, ?_⟩, hbr⟩
      have e : (foot r).take 4 = foot r := rfl
      rw [e] at hown'
      rw [List.length_append, foot_len, ← Hl.out]
      exact ⟨hown', hsp'⟩
set_option maxHeartbeats 2000000 in
set_option maxRecDepth 100000 in
theorem RSealU_any {A : Option Addr} {n c B : Nat} {zs : List Int} {w : World} (hS : Sl w B A n (by8 zs)) (hB : B ≤ w.heap.size) (hb : Bytes zs) (hnil : A = none → c = 0) (hn : n ≤ 1000000) :
    Calls Tryz.prog 47 #[.slice A n c] w (PutsU w.heap.size w (sealed tabN zs)) := by
  have P1 := hid (Plain_any (c := c) hS hb hn)
  have P2 := hid (TailU_any (c := c) (r := sumT tabN 0 (n8 zs)) hS hB hnil hn (sumT_lt tabN_tb (by omega) (n8_lt hb)))
  have E : Hid (zs ++ foot (sumT tabN 0 (n8 zs)) = sealed tabN zs) := rfl
  clear hnil
  go_enter Tryz.func47, Tryz.ntmps47
  go_wp2_with fail
  refine P1.out.mono ?_
  rintro e w' ⟨rfl, rfl⟩
  go_wp2_with fail
  refine P2.out.mono ?_
  rw [E.out]
  rintro e w' ⟨⟨v, rfl, hown, hsp⟩, hbel⟩
  go_wp2_with fail
  go_ret
  exact ⟨⟨_, rfl, hown, hsp⟩, hbel⟩
set_option maxRecDepth 100000 in
set_option maxHeartbeats 2000000 in
theorem RFPutU_any {k : Int} {A : Option Addr} {n c : Nat} {zs : List Int} {w : World} (hS : Rw w A n c zs) (hb : Bytes zs) (hk : fpE k zs.length = 0) :
    Calls Tryz.prog 30 #[.int .i64 k, .slice A n c] w (PutsU w.heap.size w (frB k zs)) := by
  have hl : n = zs.length := by have := hS.1.len; rw [by8_len] at this; exact this.symm
  obtain ⟨k1, k3, hn⟩ := fpE_zero hk
  have HB := hid (hdB_bytes (k := k) (zs := zs) (by omega) (by omega) hb)
  have hnil := hS.2.2.2
  have hSl := hid hS.1
  obtain ⟨i0, hi0, hz0, hz1, hz2⟩ := info_parts u8_info
  have e1 : k % 256 = k := by omega
  have e2 : (n : Int) / 256 = 0 := by omega
  have e3 : (n : Int) % 256 = n := by omega
  have hn2 : n ≤ 200 := by omega
  have HL := hid hl
  clear hS hl hn hk
  have HC := hid (show [Value.int .u8 0, .int .u8 (n : Int), .int .u8 k] ++ by8 zs = by8 (hdB k zs) by rw [HL.out]; exact hd_cells k zs)
  have HN := hid (show 3 + n = (hdB k zs).length by rw [hdB_len, HL.out])
  go_enter Tryz.func30, Tryz.ntmps30
  go_wp2_with (at_builtin; refine wpList_pushAll (B := w.heap.size) rfl (.tmp 17) (.tmp 18) _ rfl Tryz.underlying26 hi0 hz0 hz1 hz2 rfl rfl (own_fresh w #[.int .u8 0, .int .u8 (n : Int), .int .u8 k] 5 (base := w.heap.size) (n := 3) (xs := [.int .u8 0, .int .u8 (n : Int), .int .u8 k]) rfl (Nat.le_refl _) rfl rfl (by simp [maxLen])) rfl hnil (m := n) (news := by8 zs) ?SL (fun v' w' hown hbel => ?_) (by8_one zs) (by simp only [maxLen]; omega) (by omega) (by simp))
  case SL => exact hSl.out.below ((Below.refl _ _).alloc (Nat.le_refl _) _)
  rw [HC.out, HN.out] at hown
  obtain ⟨A1, c1, rfl, hR, -⟩ := own_rw hown
  have hb1 : Below w.heap.size w w' := ((Below.refl _ _).alloc (Nat.le_refl _) _).trans hbel
  have PS := hid (RSealU_any (c := c1) hR.1 (Nat.le_refl _) HB.out hR.2.2.2 (by rw [← HN.out]; omega))
  clear hown hR
  go_wp2_with fail
  refine PS.out.mono ?_
  rintro e w2 ⟨⟨v, rfl, hown, hsp⟩, hb3⟩
  go_wp2_with fail
  go_ret
  exact ⟨⟨_, rfl, own_down hown hb1.size, hsp⟩, hb1.trans (hb3.mono hb1.size)⟩
end Go.Proofs.YtondnbnaoacanaaGreatDoor
