/- Layer 9: contract of Name (the table of powers of ten reads as the program's text lays it). -/
import Derived.Test.YtondnbnaoacanaaGreatDoorSegP
import Derived.Test.YtondnbnaoacanaaGreatDoorShelf
import Derived.Lib.LaidTab
namespace Go.Proofs.YtondnbnaoacanaaGreatDoor
open Go.ChangeShapes Go.WideShapes Go.ChangeAt Go.RowKit Fb Go.Maps

/-- the table as it was laid -/
def Pw (w : World) : Prop := Lib.TabIs Tryz.prog w "internal/strconv.uint64pow10" .u64 Lib.pow10Tab
theorem Pw.below {w w' : World} (h : Pw w) (hb : Below w.heap.size w w') : Pw w' := by
  unfold Pw Lib.TabIs at h ⊢
  have hv : World.var? Tryz.prog w' "internal/strconv.uint64pow10" = World.var? Tryz.prog w "internal/strconv.uint64pow10" := by
    unfold World.var?
    cases hg : Tryz.prog.globalNamed "internal/strconv.uint64pow10" with
    | none => rfl
    | some g =>
      simp only [Option.bind_some]
      have hlt : g < w.heap.size := by
        rcases Nat.lt_or_ge g w.heap.size with h1 | h1
        · exact h1
        · unfold World.var? at h
          rw [hg, Option.bind_some, Array.getElem?_eq_none h1] at h
          cases h
      rw [hb.block g hlt]
  rw [hv]
  exact h
/-- eight digits -/
def dig8 (n : Nat) : List UInt8 := (Lib.decDigits (100000000 + n)).drop 1
theorem dec9 {n : Nat} (h : n ≤ 99999999) : (Lib.decDigits (100000000 + n)).length = 9 := by
  rw [Lib.decDigits_length]
  have h9 : ∀ u : Nat, 100000000 ≤ u → u ≤ 199999999 → Lib.nDigits u = 9 := by
    intro u h1 h2
    rw [Lib.nDigits_big (by omega), Lib.nDigits_big (by omega), Lib.nDigits_big (by omega), Lib.nDigits_big (by omega), Lib.nDigits_big (by omega), Lib.nDigits_big (by omega), Lib.nDigits_big (by omega), Lib.nDigits_big (by omega), Lib.nDigits_small (by omega)]
  exact h9 _ (by omega) (by omega)
theorem grow_below (w : World) (k : Nat) (os : Array Obj) : Below w.heap.size w (Go.Sort.grow (w.drewN k) os) :=
  ⟨rfl, rfl, rfl, by simp [Go.Sort.grow], fun i hi => by
    show (w.heap ++ os)[i]? = w.heap[i]?
    rw [Array.getElem?_append_left hi]⟩
theorem cat_drop {L D : List UInt8} (h : D = L.drop 1) (hl : L.length = 9) : (⟨#[115, 101, 103, 46]⟩ : ByteArray) ++ (⟨L.toArray⟩ : ByteArray).extract 1 9 = ⟨(115 :: 101 :: 103 :: 46 :: D).toArray⟩ := by
  subst h
  obtain ⟨a, b, c, d, e, f, g, i, j, rfl⟩ : ∃ a b c d e f g i j, L = [a, b, c, d, e, f, g, i, j] := by
    match L, hl with
    | [a, b, c, d, e, f, g, i, j], _ => exact ⟨a, b, c, d, e, f, g, i, j, rfl⟩
  rfl
/-- a segment's file -/
def nmS (n : Int) : ByteArray := if mayB n = true then ⟨([115, 101, 103, 46] ++ dig8 n.toNat).toArray⟩ else ⟨#[]⟩

set_option maxRecDepth 100000 in
set_option maxHeartbeats 4000000 in
theorem Name_any (n : Int) {w : World} (hT : Pw w) :
    Calls Tryz.prog 18 #[.int .i64 n] w fun e w' => e = .returned (.string (nmS n)) ∧ Below w.heap.size w w' := by
  have PN := hid (numbered_any n)
  cases h1 : mayB n with
  | false =>
    rw [h1] at PN
    have e : nmS n = ⟨#[]⟩ := by unfold nmS; rw [h1]; rfl
    rw [e]
    go_enter Tryz.func18, Tryz.ntmps18
    go_wp2_with fail
    refine (PN.out _).mono ?_
    rintro e w1 ⟨rfl, rfl⟩
    go_wp2_with fail
    go_ret
    exact ⟨rfl, Below.refl _ _⟩
  | true =>
    rw [h1] at PN
    obtain ⟨a1, a2⟩ := mayB_iff.1 h1
    obtain ⟨m, rfl⟩ : ∃ m : Nat, n = (m : Int) := ⟨n.toNat, by omega⟩
    have e : nmS (m : Int) = ⟨([115, 101, 103, 46] ++ dig8 m).toArray⟩ := by unfold nmS; rw [h1, Int.toNat_natCast]; rfl
    rw [e]
    have PF := hid (fun (w1 : World) (h : Pw w1) => Tryz.strconv_FormatInt_10 (100000000 + (m : Int)) (by omega) (by omega) w1 h)
    have eI : Lib.itoa (100000000 + (m : Int)) = Lib.decDigits (100000000 + m) := by
      have := Lib.itoa_nonneg (100000000 + m)
      rw [← this]; congr 1
    rw [eI] at PF
    have HD := hid (dec9 (n := m) (by omega))
    have HX : Hid (dig8 m = (Lib.decDigits (100000000 + m)).drop 1) := rfl
    generalize dig8 m = D at *
    generalize Lib.decDigits (100000000 + m) = L at *
    have HT := hid hT
    have hl9 : L.length = 9 := HD.out
    have hL1 : (1 : Int) ≤ ((⟨L.toArray⟩ : ByteArray).size : Int) := by
      have : (⟨L.toArray⟩ : ByteArray).size = 9 := HD.out
      omega
    clear hT h1 e eI
    go_enter Tryz.func18, Tryz.ntmps18
    go_wp2_with fail
    refine (PN.out _).mono ?_
    rintro e w1 ⟨rfl, rfl⟩
    go_wp2_with fail
    refine (PF.out _ HT.out).mono ?_
    rintro e w1 ⟨rfl, k, os, rfl⟩
    go_wp2_with fail
    go_ret
    refine ⟨?_, grow_below _ _ _⟩
    rw [cat_drop HX.out HD.out]
    rfl
end Go.Proofs.YtondnbnaoacanaaGreatDoor
