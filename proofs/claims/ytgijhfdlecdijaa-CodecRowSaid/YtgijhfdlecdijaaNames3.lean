/- Layer 6: contracts of names: Place, Right, At. -/
import Derived.Test.YtgijhfdlecdijaaNames2
import Derived.Maps.OwnOps
namespace Go.Proofs.Ytgijhfdlecdijaa
open Go.ChangeShapes Go.WideShapes Go.ChangeAt Go.RowKit Fb Go.Maps
open Go.WideMaps (keyOf_string_mk)

theorem ok_int (k : Int) (h : -9223372036854775808 ≤ k ∧ k ≤ 9223372036854775807) : (Lit.int .i64 k).wf = true := WalkArith.wf_i64 h

set_option maxHeartbeats 1000000 in
theorem Place_any {A : Option Addr} {cap n B : Nat} {ss : List ByteArray} (hz : Ok9 ss) {s : ByteArray} (hs : s.size ≤ maxLen) {w : World} (hS : Sl w B A n (st9 ss)) (hB : B ≤ w.heap.size) :
    Calls Try.prog 22 #[.slice A n cap, .string s] w fun e w' => e = .returned (.int .i64 (plc s ss)) ∧ Below w.heap.size w w' := by
  have PP := hid (fun cap => places_any (cap := cap) hz hS hB)
  have hat := mpD_at (H := Unit) ss s
  clear hz hS
  go_enter Try.func22, Try.ntmps22
  go_wp2_with fail
  refine (PP.out _).mono ?_
  rintro e w1 ⟨⟨b, rfl, hown⟩, hb⟩
  go_wp2_with (at_lookup; refine wpList_lookup_own_int _ rfl _ _ 69 rfl 9 3 .i64 law9 Try.underlying69 Try.underlying3 (zero3 _) b ss.length _ rfl hown _ _ rfl (keyOf_string_mk Try.underlying9 hs) ?_; intro c hc hwc)
  go_ret
  rw [hat] at hc
  cases hc
  exact ⟨rfl, hb⟩

theorem wrong_any (s : ByteArray) (w : World) :
    Calls Try.prog 33 #[.string s] w fun e w' => e = .returned (.bool (!nmB s)) ∧ w = w' := by
  go_enter Try.func33, Try.ntmps33
  go_wp2_with fail
  refine (Named_any s _).mono ?_
  rintro e w1 ⟨rfl, rfl⟩
  go_wp2
  go_ret
  exact ⟨rfl, rfl⟩

/-- the first name that is wrong -/
def fw : List ByteArray → Nat
  | [] => 0
  | x :: r => if nmB x then fw r + 1 else 0
theorem fw_le : ∀ l, fw l ≤ l.length
  | [] => Nat.le_refl _
  | x :: r => by have := fw_le r; simp only [fw, List.length_cons]; split <;> omega
theorem fw_all : ∀ l : List ByteArray, fw l = l.length ↔ l.all nmB = true
  | [] => by simp [fw]
  | x :: r => by
    have := fw_all r
    simp only [fw, List.length_cons, List.all_cons, Bool.and_eq_true]
    split
    · rename_i h; simp [h, ← this]
    · rename_i h; simp [h]
theorem fw_here : ∀ (l : List ByteArray) (k : Nat) (h : k < l.length), k ≤ fw l → nmB l[k] = false → fw l = k
  | [], k, h, _, _ => by simp at h
  | x :: r, 0, _, _, h => by simp at h; simp [fw, h]
  | x :: r, k + 1, h, hk, hn => by
    simp only [fw] at hk ⊢
    split at hk
    · rename_i hx
      rw [if_pos hx, fw_here r k (by simpa using h) (by omega) (by simpa using hn)]
    · omega
theorem fw_next : ∀ (l : List ByteArray) (k : Nat) (h : k < l.length), k ≤ fw l → nmB l[k] = true → k + 1 ≤ fw l
  | [], k, h, _, _ => by simp at h
  | x :: r, 0, _, _, h => by simp at h; simp [fw, h]
  | x :: r, k + 1, h, hk, hn => by
    simp only [fw] at hk ⊢
    split at hk
    · rename_i hx
      have := fw_next r k (by simpa using h) (by omega) (by simpa using hn)
      rw [if_pos hx]; omega
    · omega

def fwI (l : List ByteArray) : Int := if fw l = l.length then -1 else (fw l : Int)
set_option maxHeartbeats 2000000 in
theorem IndexFunc_any {A : Option Addr} {n c B : Nat} {ss : List ByteArray} {w : World} (hS : Sl w B A n (st9 ss)) (hn : ss.length ≤ 1000000) :
    Calls Try.prog 47 #[.slice A n c, .func (.func 33) #[] #[]] w fun e w' => e = .returned (.int .i64 (fwI ss)) ∧ w = w' := by
  have hl : n = ss.length := by have := hS.len; rw [st9_len] at this; exact this.symm
  subst hl
  go_enter Try.func47, Try.ntmps47
  go_wp2
  go_loop [8] (fun i => ∃ k : Nat, k ≤ ss.length ∧ k ≤ fw ss ∧ i = .int .i64 k) (fun i => ss.length - (intOf i).toNat)
  case atStart => exact ⟨0, Nat.zero_le _, Nat.zero_le _, rfl⟩
  case round =>
    obtain ⟨k, hk, hf, rfl⟩ := hrel
    by_cases hlt : k < ss.length
    · obtain ⟨b, o, u, rfl, hb, hu, hc⟩ := hS.get (k := k) hlt
      obtain rfl : u = .string ss[k] := by
        rw [st9_at hu, List.getElem?_eq_getElem hlt]; rfl
      have hnx := fun h => fw_next ss k hlt hf h
      have hre := fun h => fw_here ss k hlt hf h
      generalize ss[k] = x at *
      have NX := hid hnx
      have RE := hid hre
      clear hnx hre hu
      go_wp2_with fail
      refine (wrong_any x _).mono ?_
      rintro e w1 ⟨rfl, rfl⟩
      cases hx : nmB x with
      | false =>
        have := RE.out hx
        go_wp2
        go_ret
        exact ⟨ret_int (by rw [fwI, if_neg (by omega)]; omega), rfl⟩
      | true =>
        have := NX.out hx
        go_wp2
        go_round
        case rel => exact ⟨k + 1, by omega, NX.out hx, by go_num⟩
        case measure => simp [intOf]; omega
    · go_wp2
      go_ret
      have := fw_le ss
      exact ⟨ret_int (by rw [fwI, if_pos (by omega)]), rfl⟩

theorem Contains_any {A : Option Addr} {n c B : Nat} {ss : List ByteArray} {w : World} (hS : Sl w B A n (st9 ss)) (hn : ss.length ≤ 1000000) :
    Calls Try.prog 32 #[.slice A n c, .func (.func 33) #[] #[]] w fun e w' => e = .returned (.bool (!ss.all nmB)) ∧ w = w' := by
  have P := hid (IndexFunc_any (c := c) hS hn)
  have hA := fw_all ss
  cases hh : ss.all nmB with
  | true =>
    have e : fwI ss = -1 := by rw [fwI, if_pos (hA.2 hh)]
    rw [e] at P
    go_enter Try.func32, Try.ntmps32
    go_wp2_with fail
    refine P.out.mono ?_
    rintro e w1 ⟨rfl, rfl⟩
    go_wp2_with fail
    go_ret
    exact ⟨rfl, rfl⟩
  | false =>
    have e : 0 ≤ fwI ss := by rw [fwI, if_neg (fun h => by rw [hA.1 h] at hh; cases hh)]; omega
    go_enter Try.func32, Try.ntmps32
    go_wp2_with fail
    refine P.out.mono ?_
    rintro e w1 ⟨rfl, rfl⟩
    go_wp2_with fail
    go_ret
    exact ⟨rfl, rfl⟩

set_option maxHeartbeats 2000000 in
theorem Right_any {A : Option Addr} {cap n B : Nat} {ss : List ByteArray} (hz : Ok9 ss) {w : World} (hS : Sl w B A n (st9 ss)) (hB : B ≤ w.heap.size) :
    Calls Try.prog 20 #[.slice A n cap] w fun e w' => e = .returned (.bool (rgB ss)) ∧ Below w.heap.size w w' := by
  have hl : n = ss.length := by have := hS.len; rw [st9_len] at this; exact this.symm
  subst hl
  have PP := hid (fun cap => places_any (cap := cap) hz hS hB)
  have PC := hid (fun c => Contains_any (c := c) hS hz.1)
  have hsz := mpD_size (H := Unit) ss
  have hz1 := hz.1
  clear hz hS
  by_cases h1 : ss.length ≤ 32
  · cases h2 : ss.all nmB with
    | false =>
      rw [h2] at PC
      have e : rgB ss = false := by unfold rgB; rw [h2]; simp
      rw [e]
      go_enter Try.func20, Try.ntmps20
      go_wp2_with fail
      refine (PC.out _).mono ?_
      rintro e w1 ⟨rfl, rfl⟩
      go_wp2_with fail
      go_ret
      exact ⟨rfl, Below.refl _ _⟩
    | true =>
      rw [h2] at PC
      have e : rgB ss = decide ss.Nodup := by unfold rgB; rw [h2, decide_eq_true h1]; simp
      rw [e]
      go_enter Try.func20, Try.ntmps20
      go_wp2_with fail
      refine (PC.out _).mono ?_
      rintro e w1 ⟨rfl, rfl⟩
      go_wp2_with fail
      refine (PP.out _).mono ?_
      rintro e w1 ⟨⟨b, rfl, hown⟩, hb⟩
      have hlen := hown.len (t := 69) Try.underlying69
      go_wp2_with fail
      go_ret
      refine ⟨ret_bool ?_, hb⟩
      by_cases hd : ss.Nodup
      · rw [decide_eq_true hd, hsz.2.2 hd]; simp
      · rw [decide_eq_false hd]
        simp only [beq_eq_false_iff_ne, ne_eq]
        exact fun e => hd (hsz.2.1 (by omega))
  · have e : rgB ss = false := by unfold rgB; rw [decide_eq_false h1]; rfl
    rw [e]
    go_enter Try.func20, Try.ntmps20
    go_wp2_with fail
    go_ret
    exact ⟨rfl, Below.refl _ _⟩
end Go.Proofs.Ytgijhfdlecdijaa
