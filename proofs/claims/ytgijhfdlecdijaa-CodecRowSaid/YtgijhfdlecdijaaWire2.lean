/- Contracts of layer 3 (wire) and of its reference: the bytes of numbers and texts. -/
import Derived.Test.YtgijhfdlecdijaaWire1
import Derived.OwnWalk
import Derived.Lib.AppendStr
namespace Go.Proofs.Ytgijhfdlecdijaa
open Go.ChangeShapes Go.WideShapes Go.ChangeAt Go.RowKit Fb

/-- a slice of the call's own that has these bytes is handed back, and nothing that lay is otherwise -/
def Puts (base : Nat) (w : World) (zs : List Int) (e : Ending) (w' : World) : Prop := (∃ v, e = .returned v ∧ w'.ownsRow base 5 1 v zs.length (by8 zs)) ∧ Below base w w'
/-- twice the number, or twice what it is below 0, less 1 -/
def zig (k : Int) : Nat := if k < 0 then (2 * (-k - 1) + 1).toNat else (2 * k).toNat
theorem zig_lt {k : Int} (h1 : -9223372036854775808 ≤ k) (h2 : k ≤ 9223372036854775807) : zig k < 18446744073709551616 := by unfold zig; split <;> omega
/-- a string's bytes as numbers -/
def sI (s : ByteArray) : List Int := s.data.toList.map fun b => (b.toNat : Int)
theorem sI_len (s : ByteArray) : (sI s).length = s.size := by rw [sI, List.length_map, Array.length_toList]; rfl
theorem sI_cells (s : ByteArray) : Go.Lib.strCells s = by8 (sI s) := by simp [Go.Lib.strCells, by8, sI]
theorem sI_bytes (s : ByteArray) : Bytes (sI s) := by
  intro x hx
  obtain ⟨b, -, rfl⟩ := List.mem_map.1 hx
  have := b.toNat_lt
  omega
theorem sI_snoc (s : ByteArray) (k : Nat) (h : k < s.size) : (sI s).take (k + 1) = (sI s).take k ++ [(s[k].toNat : Int)] := by
  rw [List.take_succ_eq_append_getElem (by rw [sI_len]; exact h)]
  congr 2
  simp only [sI, List.getElem_map]
  rfl
/-- 'v = append(v, s...)', v a slice of the call's own, s a string -/
theorem wpList_pushStr {P : Program} {w : World} {ops : Array Oper} {rest : List Oper} {o : Oper} {a : Act} {Q : Exit → Act → World → Prop} (hgd : o.guard = none) (sl x : Operand) (t u : TypeId)
    (ho : o.op = .call { callee := .builtin .append, args := #[sl, x], argTypes := #[t, u] })
    {base : Nat} {e : TypeId} {i : TypeInfo} (ht : P.underlying t = some (.slice e)) (hu : P.underlying u = some .string) (hi : P.info? e = some i) (hz : i.zero = some (.int .u8 0))
    (hsize : i.size = 1) (hby : i.bytes = 1)
    {v : Value} {n : Nat} {zs : List Int} (hs : a.eval sl = v) (hown : w.ownsRow base e 1 v n (by8 zs)) (s : ByteArray) (hx : a.eval x = .string s)
    (h : ∀ v' w', w'.ownsRow base e 1 v' (n + s.size) (by8 (zs ++ sI s)) → Below base w w' → wpList P ops Q rest (a.put o.dst v') w')
    (h63 : n + s.size ≤ maxLen) (hbytes : n + s.size ≤ 140737488355328) (hbase : base ≤ w.heap.size) : wpList P ops Q (o :: rest) a w := by
  refine Go.Lib.wpList_append_own_string w hgd sl x t u ho base e i ht hu hi hz hsize hby v n (by8 zs) hs hown s hx h63 hbytes hbase (fun v' w' h2 h3 _ => ?_)
  refine h v' w' (by rw [by8_append, ← sI_cells]; exact h2) ((Below.refl _ _).grown h3 hbase fun k hk => ?_)
  obtain ⟨_, hh | ⟨g, cap, cur, hv, hg, _⟩⟩ := hown
  · rw [hh.1] at hk; simp [Value.ownBlock] at hk
  · rw [hv] at hk; simp [Value.ownBlock] at hk; omega

set_option maxHeartbeats 2000000 in
set_option maxRecDepth 100000 in
theorem PutUint_any {A : Option Addr} {n c m : Nat} {zs : List Int} {w : World} (hS : Sl w w.heap.size A n (by8 zs)) (hnil : A = none → c = 0) (hn : zs.length ≤ 100000) (hm : m < 18446744073709551616) :
    Calls Try.prog 24 #[.slice A n c, .int .u64 m] w (Puts w.heap.size w (zs ++ leb m)) := by
  obtain ⟨i0, hi0, hz0, hz1, hz2⟩ := info_parts u8_info
  have hl : n = zs.length := by have := hS.len; rw [by8_len] at this; exact this.symm
  subst hl
  have hlt := leb_ten hm
  have HM := hid hm
  have HN := hid hnil
  clear hm hnil
  go_enter Try.func24, Try.ntmps24
  go_wp2_with fail
  refine (Clone_any hS (Nat.le_refl _) HN.out (by omega)).mono ?_
  rintro e w1 ⟨⟨v, rfl, hown⟩, hbel⟩
  go_wp2
  go_loopw [0, 1] (fun v i wr => ∃ (q : Nat) (pre : List Int), Hid (leb m = pre ++ leb q) ∧ i = .int .u64 q ∧ wr.ownsRow w.heap.size 5 1 v (zs.length + pre.length) (by8 (zs ++ pre)) ∧ Below w.heap.size w wr ∧ Hid (q < 18446744073709551616))
    (fun _ i _ => (intOf i).toNat)
  case atStart => exact ⟨m, [], rfl, rfl, by simpa using hown, hbel, HM⟩
  case round =>
    obtain ⟨q, pre, he, rfl, hown', hbr, hq⟩ := hrel
    have hpre : pre.length + 1 ≤ 10 := by
      have h1 := congrArg List.length he.out
      have h2 := leb_pos q
      rw [List.length_append] at h1; omega
    by_cases h128 : 128 ≤ q
    · have he2 : leb m = (pre ++ [((q % 128 : Nat) : Int) + 128]) ++ leb (q / 128) := by rw [he.out, leb_big h128]; simp
      have HE := hid he2
      clear he he2
      have hq2 : q / 128 < 18446744073709551616 := by have := hq.out; omega
      have HQ := hid hq2
      clear hq hq2
      go_wp2_with (at_builtin; refine wpList_push rfl (.tmp 9) (.tmp 14) 27 rfl Try.underlying27 hi0 hz0 hz1 hz2 rfl (by decide) rfl hown' rfl rfl ?_ ?c1 ?c2 ?c3 ?c4; intro v' w'' hown'' hb'')
      case c1 => simp [Value.oneCell']
      case c2 => simp [maxLen]; omega
      case c3 => omega
      case c4 => exact hbr.size
      have hw : IntKind.u64.wrap (↑q / 128) = ((q / 128 : Nat) : Int) := by rw [u64_in _ (by omega) (by have := HQ.out; omega)]; omega
      go_roundw
      case rel => exact ⟨q / 128, _, HE, by rw [hw], by simpa [by8, Nat.add_assoc] using hown'', hbr.trans hb'', HQ⟩
      case measure => rw [hw]; simp [intOf]; omega
    · have he2 : leb m = pre ++ [(q : Int)] := by rw [he.out, leb_small (by omega)]
      have HE := hid he2
      clear he he2 hq
      go_wp2_with (at_builtin; refine wpList_push rfl (.tmp 18) (.tmp 21) 27 rfl Try.underlying27 hi0 hz0 hz1 hz2 rfl (by decide) rfl hown' rfl rfl ?_ ?c1 ?c2 ?c3 ?c4; intro v' w'' hown'' hb'')
      case c1 => simp [Value.oneCell']
      case c2 => simp [maxLen]; omega
      case c3 => omega
      case c4 => exact hbr.size
      go_ret
      refine ⟨⟨_, rfl, ?_⟩, hbr.trans hb''⟩
      rw [HE.out]
      simpa [by8, Nat.add_assoc] using hown''


/-- '^k' of an int64 -/
theorem i64_turn (k : Int) (h1 : -9223372036854775808 ≤ k) (h2 : k ≤ 9223372036854775807) : bits .xor .i64 (-1) k = -k - 1 := by
  show IntKind.i64.wrap ((BitVec.ofInt 64 (-1) ^^^ BitVec.ofInt 64 k).toNat : Int) = _
  have h3 : BitVec.ofInt 64 (-1) = BitVec.allOnes 64 := by decide
  rw [h3, BitVec.allOnes_xor, BitVec.toNat_not, BitVec.toNat_ofInt]
  simp [IntKind.wrap, IntKind.bits, IntKind.signed]
  omega

set_option maxHeartbeats 2000000 in
theorem PutText_any {A : Option Addr} {n c : Nat} {zs : List Int} {w : World} (hS : Sl w w.heap.size A n (by8 zs)) (hnil : A = none → c = 0) (hn : zs.length ≤ 100000) (s : ByteArray) (hs : s.size ≤ 100000) :
    Calls Try.prog 25 #[.slice A n c, .string s] w (Puts w.heap.size w (zs ++ (leb s.size ++ sI s))) := by
  have hz := PutUint_any (m := s.size) hS hnil hn (by omega)
  obtain ⟨i0, hi0, hz0, hz1, hz2⟩ := info_parts u8_info
  have hl := leb_ten (n := s.size) (by omega)
  have HN := hid hnil
  clear hnil
  go_enter Try.func25, Try.ntmps25
  go_wp2_with fail
  refine hz.mono ?_
  rintro e w1 ⟨⟨v, rfl, hown⟩, hbel⟩
  go_wp2_with (at_builtin; refine wpList_pushStr rfl (.tmp 9) (.tmp 10) 27 9 rfl Try.underlying27 Try.underlying9 hi0 hz0 hz1 hz2 rfl hown s rfl ?_ ?c1 ?c2 ?c3; intro v' w'' hown'' hb'')
  case c1 => simp [maxLen]; omega
  case c2 => simp; omega
  case c3 => exact hbel.size
  go_ret
  refine ⟨⟨_, rfl, ?_⟩, hbel.trans hb''⟩
  have e : (zs ++ (leb s.size ++ sI s)).length = (zs ++ leb s.size).length + s.size := by simp [sI_len]; omega
  rw [e, ← List.append_assoc]
  exact hown''
end Go.Proofs.Ytgijhfdlecdijaa
