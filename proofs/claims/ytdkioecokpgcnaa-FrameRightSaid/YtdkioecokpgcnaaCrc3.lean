/- Contracts of layer 4 (crc) and of its reference: bytes that are sealed. -/
import Derived.Test.YtdkioecokpgcnaaCrc2
namespace Go.Proofs.Ytdkioecokpgcnaa
open Go.ChangeShapes Go.WideShapes Go.ChangeAt Go.RowKit Fb

/-- a sum as four bytes, the lowest first -/
def foot (n : Nat) : List Int := [(n : Int) % 256, (n : Int) / 256 % 256, (n : Int) / 65536 % 256, (n : Int) / 16777216 % 256]
theorem foot_len (n : Nat) : (foot n).length = 4 := rfl
theorem foot_bytes (n : Nat) : Bytes (foot n) := by
  intro x hx
  simp only [foot, List.mem_cons, List.not_mem_nil, or_false] at hx
  omega
/-- bytes, sealed -/
def sealed (T : List Nat) (zs : List Int) : List Int := zs ++ foot (sumT T 0 (n8 zs))
theorem bytes_append {a b : List Int} (ha : Bytes a) (hb : Bytes b) : Bytes (a ++ b) := by
  intro x hx
  rcases List.mem_append.1 hx with h | h
  · exact ha x h
  · exact hb x h
theorem sealed_len (T : List Nat) (zs : List Int) : (sealed T zs).length = zs.length + 4 := by simp [sealed, foot_len]
theorem sealed_bytes (T : List Nat) {zs : List Int} (h : Bytes zs) : Bytes (sealed T zs) := bytes_append h (foot_bytes _)
/-- a slice of the call's own that has these bytes is handed back, and nothing that lay is otherwise -/
def PutsB (base : Nat) (w : World) (zs : List Int) (e : Ending) (w' : World) : Prop := (∃ v, e = .returned v ∧ w'.ownsRow base 5 1 v zs.length (by8 zs)) ∧ Below base w w'
theorem foot_next {zs : List Int} {r q k : Nat} (hq : q = r / 256 ^ k) (hk : k < 4) : by8 (zs ++ (foot r).take (k + 1)) = by8 (zs ++ (foot r).take k) ++ [.int .u8 ((q : Int) % 256)] := by
  have e : (foot r).take (k + 1) = (foot r).take k ++ [(q : Int) % 256] := by
    subst hq
    have hc : k = 0 ∨ k = 1 ∨ k = 2 ∨ k = 3 := by omega
    rcases hc with rfl | rfl | rfl | rfl <;> simp [foot]
  rw [e, ← List.append_assoc, by8_append]
  rfl

theorem foot_next0 (zs : List Int) (r : Nat) : by8 (zs ++ (foot r).take 1) = by8 (zs ++ (foot r).take 0) ++ [.int .u8 ((r : Int) % 256)] := by simp [foot, by8]
theorem foot_next1 (zs : List Int) (r : Nat) : by8 (zs ++ (foot r).take 2) = by8 (zs ++ (foot r).take 1) ++ [.int .u8 ((r : Int) / 256 % 256)] := by simp [foot, by8]
theorem foot_next2 (zs : List Int) (r : Nat) : by8 (zs ++ (foot r).take 3) = by8 (zs ++ (foot r).take 2) ++ [.int .u8 ((r : Int) / 65536 % 256)] := by simp [foot, by8]
theorem foot_next3 (zs : List Int) (r : Nat) : by8 (zs ++ (foot r).take 4) = by8 (zs ++ (foot r).take 3) ++ [.int .u8 ((r : Int) / 16777216 % 256)] := by simp [foot, by8]
set_option maxHeartbeats 2000000 in
set_option maxRecDepth 100000 in
theorem Tail_any {A : Option Addr} {n c r B : Nat} {zs : List Int} {w : World} (hS : Sl w B A n (by8 zs)) (hB : B ≤ w.heap.size) (hnil : A = none → c = 0) (hn : n ≤ 1000000) (hr : r < 4294967296) :
    Calls Try.prog 17 #[.slice A n c, .int .u32 r] w (PutsB w.heap.size w (zs ++ foot r)) := by
  obtain ⟨i0, hi0, hz0, hz1, hz2⟩ := info_parts u8_info
  have hl : n = zs.length := by have := hS.len; rw [by8_len] at this; exact this.symm
  have HN := hid hnil
  have Hl := hid hl
  have HR := hid hr
  clear hnil hl hr
  go_enter Try.func17, Try.ntmps17
  go_wp2_with (at_builtin; refine wpList_pushAll (B := B) rfl (.tmp 7) (.tmp 8) _ rfl Try.underlying22 hi0 hz0 hz1 hz2 rfl rfl (own_fresh w #[] 5 (base := w.heap.size) (n := 0) (xs := []) rfl (Nat.le_refl _) rfl rfl (Nat.zero_le _)) rfl HN.out (m := n) (news := by8 zs) ?SL (fun v1 w1 hown hbel => ?_) (by8_one zs) (by simp only [maxLen]; omega) (by omega) (by simp))
  case SL => exact hS.below ((Below.refl _ _).alloc hB _)
  go_wp2
  have hb1 : Below w.heap.size w w1 := ((Below.refl _ _).alloc (Nat.le_refl _) _).trans hbel
  go_loopw [1, 5, 6] (fun x v i wr => ∃ k q : Nat, k ≤ 4 ∧ Hid (q = r / 256 ^ k) ∧ i = .int .i64 k ∧ x = .int .u32 q ∧ wr.ownsRow w.heap.size 5 1 v (n + k) (by8 (zs ++ (foot r).take k)) ∧ Below w.heap.size w wr) (fun _ _ i _ => 4 - (intOf i).toNat)
  case atStart => exact ⟨0, r, by omega, by show _ = _; simp, rfl, rfl, by simpa using hown, hb1⟩
  case round =>
    obtain ⟨k, q, hk, hq, rfl, rfl, hown', hbr⟩ := hrel
    by_cases hlt : k < 4
    · have Hf := hid (foot_next (zs := zs) hq.out hlt)
      have hq2 : q < 4294967296 := by rw [hq.out]; exact Nat.lt_of_le_of_lt (Nat.div_le_self _ _) HR.out
      have hqn : Hid (q / 256 = r / 256 ^ (k + 1)) := by show _ = _; rw [hq.out, Nat.div_div_eq_div_mul, Nat.pow_succ]
      clear hq
      go_wp2_with (at_builtin; refine wpList_push rfl (.tmp 14) (.tmp 18) 22 rfl Try.underlying22 hi0 hz0 hz1 hz2 rfl (by decide) rfl hown' rfl rfl ?_ ?c1 ?c2 ?c3 ?c4; intro v' w'' hown'' hb'')
      case c1 => simp [Value.oneCell']
      case c2 => simp [maxLen]; omega
      case c3 => omega
      case c4 => exact hbr.size
      go_roundw
      case rel => exact ⟨k + 1, q / 256, by omega, hqn, by go_num, by go_num, by rw [Hf.out]; exact hown'', hbr.trans hb''⟩
      case measure => simp [intOf]; omega
    · obtain rfl : k = 4 := by omega
      go_wp2
      go_ret
      refine ⟨⟨_, rfl, ?_⟩, hbr⟩
      have e : (foot r).take 4 = foot r := rfl
      rw [e] at hown'
      rw [List.length_append, foot_len, ← Hl.out]
      exact hown'
set_option maxHeartbeats 2000000 in
set_option maxRecDepth 100000 in
theorem RSeal_any {A : Option Addr} {n c B : Nat} {zs : List Int} {w : World} (hS : Sl w B A n (by8 zs)) (hB : B ≤ w.heap.size) (hb : Bytes zs) (hnil : A = none → c = 0) (hn : n ≤ 1000000) :
    Calls Try.prog 12 #[.slice A n c] w (PutsB w.heap.size w (sealed tabN zs)) := by
  have P1 := hid (Plain_any (c := c) hS hb hn)
  have P2 := hid (Tail_any (c := c) (r := sumT tabN 0 (n8 zs)) hS hB hnil hn (sumT_lt tabN_tb (by omega) (n8_lt hb)))
  have E : Hid (zs ++ foot (sumT tabN 0 (n8 zs)) = sealed tabN zs) := rfl
  clear hnil
  go_enter Try.func12, Try.ntmps12
  go_wp2_with fail
  refine P1.out.mono ?_
  rintro e w' ⟨rfl, rfl⟩
  go_wp2_with fail
  refine P2.out.mono ?_
  rw [E.out]
  rintro e w' ⟨⟨v, rfl, hown⟩, hbel⟩
  go_wp2_with fail
  go_ret
  exact ⟨⟨_, rfl, hown⟩, hbel⟩
set_option maxHeartbeats 2000000 in
set_option maxRecDepth 100000 in
theorem Seal_any {T : List Nat} (hT : Tb T) {A : Option Addr} {n c B : Nat} {zs : List Int} {w : World} (hS : Sl w B A n (by8 zs)) (hB : B ≤ w.heap.size) (hb : Bytes zs) (hnil : A = none → c = 0) (hn : n ≤ 1000000) :
    Calls Try.prog 10 #[.agg (c32 T), .slice A n c] w (PutsB w.heap.size w (sealed T zs)) := by
  obtain ⟨i0, hi0, hz0, hz1, hz2⟩ := info_parts u8_info
  have hl : n = zs.length := by have := hS.len; rw [by8_len] at this; exact this.symm
  have hbA : Below w.heap.size w (w.alloc (.cells (c32 T) 37)) := (Below.refl _ _).alloc (Nat.le_refl _) _
  have P1 := hid (Clone_any (c := c) (hS.below ((Below.refl B w).alloc hB (.cells (c32 T) 37))) (Nat.le_trans hB hbA.size) hnil (by omega))
  have P2 := hid (fun (w' : World) (h : Below w.heap.size w w') => Sum_crc hT (c := c) (s := 0) (hS.below (h.mono hB)) (Nat.le_trans hB h.size) hb hn (by omega))
  have Hl := hid hl
  have HR := hid (sumT_lt hT (s := 0) (by omega) (n8_lt hb))
  have E : Hid (zs ++ foot (sumT T 0 (n8 zs)) = sealed T zs) := rfl
  have hs : (Try.prog.info? 37).map (·.size) = some (c32 T).size := by rw [c32_size, hT.1]; exact t256_size
  have Hs := hid hs
  clear hnil hl hs
  go_enter Try.func10, Try.ntmps10
  go_wp2_with fail
  refine P1.out.mono ?_
  rintro e w1 ⟨⟨v, rfl, hown⟩, hb1⟩
  have h0 := hid ((hb1.block w.heap.size (by simp)).trans (heap_alloc_new w _))
  go_wp2_with (refine wpList_load_row rfl 37 (.tmp 2) rfl w.heap.size rfl 37 _ (0, 0) _ h0.out Try.underlying37 rfl Hs.out ?_)
  refine (P2.out _ (hbA.trans (hb1.mono hbA.size))).mono ?_
  rintro e w2 ⟨rfl, hb2⟩
  have hown2 := own_down (own_below hown hb2) hbA.size
  have hbW : Below w.heap.size w w2 := hbA.trans ((hb1.mono hbA.size).trans (hb2.mono (Nat.le_trans hbA.size hb1.size)))
  clear hown hb2 hb1 h0 P1 P2 Hs
  generalize sumT T 0 (n8 zs) = r at *
  go_wp2_with fail
  go_loopw [5, 13] (fun v i wr => ∃ k : Nat, k ≤ 4 ∧ i = .int .i64 k ∧ wr.ownsRow w.heap.size 5 1 v (n + k) (by8 (zs ++ (foot r).take k)) ∧ Below w.heap.size w wr) (fun _ i _ => 4 - (intOf i).toNat)
  case atStart => exact ⟨0, by omega, rfl, by simpa using hown2, hbW⟩
  case round =>
    obtain ⟨k, hk, rfl, hown', hbr⟩ := hrel
    by_cases hlt : k < 4
    · have hc : k = 0 ∨ k = 1 ∨ k = 2 ∨ k = 3 := by omega
      rcases hc with rfl | rfl | rfl | rfl
      · have Hf := hid (foot_next0 zs r)
        go_wp2_with (at_builtin; refine wpList_push rfl (.tmp 16) (.tmp 22) 22 rfl Try.underlying22 hi0 hz0 hz1 hz2 rfl (by decide) rfl hown' rfl rfl ?_ ?c1 ?c2 ?c3 ?c4; intro v' w'' hown'' hb'')
        case c1 => simp [Value.oneCell']
        case c2 => simp [maxLen]; omega
        case c3 => omega
        case c4 => exact hbr.size
        go_roundw
        case rel => exact ⟨1, by omega, by go_num, by rw [Hf.out]; exact hown'', hbr.trans hb''⟩
        case measure => simp [intOf]
      · have Hf := hid (foot_next1 zs r)
        go_wp2_with (at_builtin; refine wpList_push rfl (.tmp 16) (.tmp 22) 22 rfl Try.underlying22 hi0 hz0 hz1 hz2 rfl (by decide) rfl hown' rfl rfl ?_ ?c1 ?c2 ?c3 ?c4; intro v' w'' hown'' hb'')
        case c1 => simp [Value.oneCell']
        case c2 => simp [maxLen]; omega
        case c3 => omega
        case c4 => exact hbr.size
        go_roundw
        case rel => exact ⟨2, by omega, by go_num, by rw [Hf.out]; exact hown'', hbr.trans hb''⟩
        case measure => simp [intOf]
      · have Hf := hid (foot_next2 zs r)
        go_wp2_with (at_builtin; refine wpList_push rfl (.tmp 16) (.tmp 22) 22 rfl Try.underlying22 hi0 hz0 hz1 hz2 rfl (by decide) rfl hown' rfl rfl ?_ ?c1 ?c2 ?c3 ?c4; intro v' w'' hown'' hb'')
        case c1 => simp [Value.oneCell']
        case c2 => simp [maxLen]; omega
        case c3 => omega
        case c4 => exact hbr.size
        go_roundw
        case rel => exact ⟨3, by omega, by go_num, by rw [Hf.out]; exact hown'', hbr.trans hb''⟩
        case measure => simp [intOf]
      · have Hf := hid (foot_next3 zs r)
        go_wp2_with (at_builtin; refine wpList_push rfl (.tmp 16) (.tmp 22) 22 rfl Try.underlying22 hi0 hz0 hz1 hz2 rfl (by decide) rfl hown' rfl rfl ?_ ?c1 ?c2 ?c3 ?c4; intro v' w'' hown'' hb'')
        case c1 => simp [Value.oneCell']
        case c2 => simp [maxLen]; omega
        case c3 => omega
        case c4 => exact hbr.size
        go_roundw
        case rel => exact ⟨4, by omega, by go_num, by rw [Hf.out]; exact hown'', hbr.trans hb''⟩
        case measure => simp [intOf]
    · obtain rfl : k = 4 := by omega
      go_wp2
      go_ret
      refine ⟨⟨_, rfl, ?_⟩, hbr⟩
      have e : (foot r).take 4 = foot r := rfl
      rw [e, E.out] at hown'
      rw [sealed_len, ← Hl.out]
      exact hown'
end Go.Proofs.Ytdkioecokpgcnaa
