/- Texts laid together: Lib, Reads, Bytes, Env, EnvD, Row, Blk, Strs, Flat, Cur, Ctx, Arg8. -/
import Derived.WalkKit
import Derived.ProofKit
import Derived.Below
import Derived.OpenShut
import Derived.ChangeOld
import Derived.Laws.Rows
import Derived.Laws.AppendOwn
import Derived.Laws.AppendOwnNone
import Derived.Deep.Draws
import Derived.Deep.QuietTactic
import Derived.Lib.Hide
import Derived.Test.YtondnbnaoacanaaGreatDoorRows
import Derived.WalkLawsBesides
import Derived.Lib.SliceRun
import Derived.RegionTactic
import Derived.OwnWalk
import Derived.Lib.Bytes
import Derived.Lib.SlBytesConst
import Derived.Deep.RegionHeld
import Derived.Laws.Tables
import Derived.Deep.WholeRow
import Derived.Deep.Strs
import Derived.Deep.Fields
import Derived.WideShapes
import Derived.Lib.SmallJoins
/- Small words for memory: a slice that reads as a list of cells, nil let in. Nothing here speaks of a program. -/
namespace Fb
open Go Go.RowKit

/-- the slice value '.slice A n _' has the cells xs, each of which lies below block B -/
def Sl (w : World) (B : Nat) (A : Option Addr) (n : Nat) (xs : List Value) : Prop :=
  xs.length = n ∧ (0 < n → ∃ b o, A = some ⟨b, o, none⟩ ∧ b < B ∧ ∀ j u, xs[j]? = some u → w.cell? ⟨b, o + j, none⟩ = some u)

def Bytes (l : List Int) : Prop := ∀ x ∈ l, 0 ≤ x ∧ x ≤ 255
def ints (l : List Int) : List Value := l.map (Value.int .i64)
theorem ret_int {k : IntKind} {a b : Int} (h : a = b) : Ending.returned (.int k a) = .returned (.int k b) := by rw [h]
theorem hid {p : Prop} (h : p) : Hid p := h
theorem unhid {p : Prop} (h : Hid p) : p := h

variable {w w' : World} {B B' n : Nat} {A : Option Addr} {xs : List Value}
theorem Sl.len (h : Sl w B A n xs) : xs.length = n := h.1
theorem Sl.nil (w : World) (B : Nat) (A : Option Addr) : Sl w B A 0 [] := ⟨rfl, fun h => absurd h (by omega)⟩
theorem Sl.get (h : Sl w B A n xs) {k : Nat} (hk : k < n) :
    ∃ b o u, A = some ⟨b, o, none⟩ ∧ b < B ∧ xs[k]? = some u ∧ w.cell? ⟨b, o + k, none⟩ = some u := by
  obtain ⟨b, o, hA, hb, hc⟩ := h.2 (by omega)
  have hl : k < xs.length := by have := h.1; omega
  exact ⟨b, o, xs[k], hA, hb, List.getElem?_eq_getElem hl, hc k _ (List.getElem?_eq_getElem hl)⟩
theorem Sl.keep (h : Sl w B A n xs) (hk : ∀ p : Addr, p.block < B → w'.cell? p = w.cell? p) : Sl w' B A n xs :=
  ⟨h.1, fun hn => by
    obtain ⟨b, o, hA, hb, hc⟩ := h.2 hn
    exact ⟨b, o, hA, hb, fun j u hu => (hk _ hb).trans (hc j u hu)⟩⟩
theorem Sl.up (h : Sl w B A n xs) (hB : B ≤ B') : Sl w B' A n xs :=
  ⟨h.1, fun hn => by
    obtain ⟨b, o, hA, hb, hc⟩ := h.2 hn
    exact ⟨b, o, hA, by omega, hc⟩⟩
theorem Sl.below (h : Sl w B A n xs) (hb : Below B w w') : Sl w' B A n xs := h.keep fun _ hp => hb.cell hp
/-- a new block of cells, as a slice over all of it -/
theorem Sl.fresh (w : World) (cs : Array Value) (t : TypeId) (hB : w.heap.size < B) : Sl (w.alloc (.cells cs t)) B (some ⟨w.heap.size, 0, none⟩) cs.size cs.toList :=
  ⟨by simp, fun _ => ⟨w.heap.size, 0, rfl, hB, fun j u hu => by simpa using hu⟩⟩

theorem Sl.freshAt (w : World) (cs : Array Value) (t : TypeId) {b : Nat} {n : Nat} {xs : List Value} (hb : w.heap.size = b) (hB : b < B) (hn : cs.size = n) (hx : cs.toList = xs) : Sl (w.alloc (.cells cs t)) B (some ⟨b, 0, none⟩) n xs := by
  subst hb hn hx
  exact Sl.fresh w cs t hB

/-- likewise a block with a mark on it (a text's bytes as they are typed) -/
theorem Sl.marked (w : World) (cs : Array Value) (t : TypeId) (fr : Nat × Nat) {b : Nat} {n : Nat} {xs : List Value} (hb : w.heap.size = b) (hB : b < B) (hn : cs.size = n) (hx : cs.toList = xs) : Sl (w.alloc (.cells cs t fr)) B (some ⟨b, 0, none⟩) n xs := by
  subst hb hn hx
  exact ⟨by simp, fun _ => ⟨w.heap.size, 0, rfl, hB, fun j u hu => by
    rw [cell_of_row (w.alloc (.cells cs t fr)) w.heap.size (0 + j) cs t fr (heap_alloc_new w _)]
    simpa using hu⟩⟩

open Go.ChangeShapes Go.WideShapes
theorem cell_lt {w : World} {b o : Nat} {u : Value} (h : w.cell? ⟨b, o, none⟩ = some u) : b < w.heap.size := by
  rcases Nat.lt_or_ge b w.heap.size with hlt | hge
  · exact hlt
  · unfold World.cell? at h
    simp [Array.getElem?_eq_none hge] at h

/-- an argument that is a slice of integers -/
theorem open_ints_sl {H : Type} {enc : TypeId × Value → H} {P : Program} {w : World} {base b0 : Nat} {spare : Nat → Bool} {held : Bool} {r : Reach} {t e : TypeId} {k : IntKind} {v : Value} {d : DataW H} {ps : List MemPlace}
    (ht : P.underlying t = some (.slice e)) (he : P.underlying e = some (.int k)) (hc : P.cellsOf e = 1) (hv : Value.okWide P w r b0 t v) (h : DataW.Trod enc P w base spare held t v d ps) :
    ∃ (A : Option Addr) (cap : Nat) (zs : List Int), v = .slice A zs.length cap ∧ zs.length ≤ cap ∧ cap ≤ maxLen ∧ Sl w w.heap.size A zs.length (zs.map (Value.int k)) ∧ (∀ n ∈ zs, (Lit.int k n).wf = true) ∧ (A = none → cap = 0) := by
  obtain ⟨A, n, c, rfl⟩ := okWide_slice ht hv
  obtain ⟨fuel, hf⟩ := h
  rcases open_ints ht he hc hf with ⟨hcs, _⟩ | ⟨x, l, c', zs, hcs, _, hl, hm, hz, _, hcell, hwz⟩
  · simp [Value.cells] at hcs
    obtain ⟨rfl, rfl, rfl⟩ := hcs
    exact ⟨none, 0, [], rfl, Nat.le_refl _, Nat.zero_le _, Sl.nil _ _ _, by simp, fun _ => rfl⟩
  · simp [Value.cells] at hcs
    obtain ⟨rfl, rfl, rfl⟩ := hcs
    have hzl : n ≤ zs.length := by rw [hz]; split <;> omega
    have hlen : (zs.take n).length = n := by simp; omega
    refine ⟨some x, c, zs.take n, by rw [hlen], by rw [hlen]; exact hl, hm, ⟨by simp, fun h0 => ?_⟩, fun q hq => hwz q (List.mem_of_mem_take hq), fun h => by cases h⟩
    rw [hlen] at h0
    obtain ⟨b, o, spot⟩ := x
    have hc0 := hcell 0 (by omega)
    obtain rfl : spot = none := by simpa [Addr.add] using World.cell?_spot hc0
    refine ⟨b, o, rfl, cell_lt (o := o) (by simpa [Addr.add] using hc0), fun j u hu => ?_⟩
    have hj : j < n := by
      rcases Nat.lt_or_ge j n with h | h
      · exact h
      · rw [List.getElem?_eq_none (by simp; omega)] at hu; cases hu
    have hc := hcell j (by omega)
    rw [List.getElem?_map, List.getElem?_take_of_lt hj, List.getElem?_eq_getElem (by omega)] at hu
    simp only [Option.map_some, Option.some.injEq] at hu
    subst hu
    have ha : (⟨b, o, none⟩ : Addr).add j = ⟨b, o + j, none⟩ := by unfold Addr.add; split <;> simp_all
    rw [ha] at hc
    rw [hc, List.getD_eq_getElem?_getD, List.getElem?_eq_getElem (by omega)]
    rfl

theorem Sl.take (h : Sl w B A n xs) {k : Nat} (hk : k ≤ n) : Sl w B A k (xs.take k) :=
  ⟨by have := h.1; simp; omega, fun hk0 => by
    obtain ⟨b, o, hA, hb, hc⟩ := h.2 (by omega)
    refine ⟨b, o, hA, hb, fun j u hu => ?_⟩
    rw [List.getElem?_take] at hu
    split at hu
    · exact hc j u hu
    · cases hu⟩
theorem Sl.drop (h : Sl w B A n xs) {k c : Nat} (hk : k ≤ n) (hc : n ≤ c) : Sl w B (if c = k then A else A.map (·.add k)) (n - k) (xs.drop k) :=
  ⟨by have := h.1; simp; omega, fun hk0 => by
    obtain ⟨b, o, hA, hb, hcell⟩ := h.2 (by omega)
    rw [if_neg (by omega), hA]
    refine ⟨b, o + k, by unfold Addr.add; simp, hb, fun j u hu => ?_⟩
    rw [List.getElem?_drop] at hu
    rw [Nat.add_assoc]
    exact hcell _ u hu⟩

theorem quietL {P : Program} {f : FuncId} {args : Array Value} {w : World} {n : Nat} {v : Value} (h : Calls P f args (w.drewN n) fun e w' => e = .returned v ∧ w.drewN n = w') :
    Calls P f args (w.drewN n) fun e w'' => e = .returned v ∧ ∃ m, w'' = w.drewN m := h.mono fun _ _ ⟨he, hm⟩ => ⟨he, n, hm.symm⟩
theorem quietA {P : Program} {f : FuncId} {args : Array Value} {w : World} {a n : Nat} {v : Value} (h : Calls P f args (w.drewN (a + n)) fun e w' => e = .returned v ∧ w.drewN (a + n) = w') :
    Calls P f args (w.drewN (a + n)) fun e w'' => e = .returned v ∧ ∃ m, w'' = w.drewN (a + m) := h.mono fun _ _ ⟨he, hm⟩ => ⟨he, n, hm.symm⟩
/-- a slice of the call's own, as one that is read -/
theorem Sl.own {base : Nat} {e : TypeId} {v : Value} (h : w.ownsRow base e 1 v n xs) (hB : w.heap.size ≤ B) : ∃ A c, v = .slice A n c ∧ Sl w B A n xs := by
  obtain ⟨hl, h | ⟨g, cap, cur, hv, _, hh, hnc, _, hcs, ht⟩⟩ := h
  · obtain ⟨rfl, rfl⟩ := h
    exact ⟨none, 0, rfl, by simpa using hl, fun h0 => absurd h0 (by omega)⟩
  · refine ⟨_, cap, hv, by simpa using hl, fun h0 => ⟨g, 0, rfl, ?_, fun j u hu => ?_⟩⟩
    · rcases Nat.lt_or_ge g w.heap.size with h1 | h1
      · omega
      · rw [Array.getElem?_eq_none h1] at hh; cases hh
    · rw [cell_of_row w g _ cur e (0, 0) hh]
      rw [← ht, List.getElem?_take] at hu
      split at hu
      · simpa using hu
      · cases hu

/-- 'v = append(v, x)': x has just been laid in a block of its own (cells 'us'), v is a slice of the call's own -/
theorem wpList_push {P : Program} {w : World} {ops : Array Oper} {rest : List Oper} {o : Oper} {a : Act} {Q : Exit → Act → World → Prop} (hgd : o.guard = none) (s x : Operand) (t : TypeId)
    (ho : o.op = .call { callee := .builtin .append, args := #[s, x], argTypes := #[t, t] })
    {base : Nat} {e : TypeId} {i : TypeInfo} {z : Value} {size bytes : Nat} (ht : P.underlying t = some (.slice e)) (hi : P.info? e = some i) (hz : i.zero = some z)
    (hsize : i.size = size) (hby : i.bytes = bytes) (hzs : z.cells.size = size) (hsz : 0 < size)
    {v : Value} {n : Nat} {xs : List Value} (hs : a.eval s = v) (hown : w.ownsRow base e size v n xs) {us : Array Value} {c : Nat}
    (hx : a.eval x = .slice (some ⟨w.heap.size, 0, none⟩) 1 c) (hl : us.size = size)
    (h : ∀ v' w', w'.ownsRow base e size v' (n + 1) (xs ++ us.toList) → Below base w w' → wpList P ops Q rest (a.put o.dst v') w')
    (h1 : ∀ u ∈ us.toList, u.oneCell' = true) (h63 : n + 1 ≤ maxLen) (hbytes : (n + 1) * bytes ≤ 140737488355328) (hbase : base ≤ w.heap.size) :
    wpList P ops Q (o :: rest) a (w.alloc (.cells us e)) := by
  refine wpList_append_own (w.alloc (.cells us e)) hgd s x t ho base e i z size bytes ht hi hz hsize hby hzs hsz v n xs hs (hown.alloc _) ⟨w.heap.size, 0, none⟩ 1 c us.toList hx (by simpa using hl)
    (fun j u hu => ?_) h1 h63 hbytes (by simp; omega) (fun v' w' h2 h3 _ => h v' w' h2 (((Below.refl _ _).alloc hbase _).grown h3 (by simp; omega) ?_))
  · have ha : (⟨w.heap.size, 0, none⟩ : Addr).add j = ⟨w.heap.size, j, none⟩ := by unfold Addr.add; split <;> simp_all
    rw [ha]
    simpa using hu
  · intro k hk
    obtain ⟨_, hh | ⟨g, cap, cur, hv, hg, _⟩⟩ := hown
    · rw [hh.1] at hk; simp [Value.ownBlock] at hk
    · rw [hv] at hk; simp [Value.ownBlock] at hk; omega

/-- 'v = append(v, x...)': v is a slice of the call's own, x any slice of cells, nil let in -/
theorem wpList_pushAll {P : Program} {w : World} {ops : Array Oper} {rest : List Oper} {o : Oper} {a : Act} {Q : Exit → Act → World → Prop} (hgd : o.guard = none) (s x : Operand) (t : TypeId)
    (ho : o.op = .call { callee := .builtin .append, args := #[s, x], argTypes := #[t, t] })
    {base : Nat} {e : TypeId} {i : TypeInfo} {z : Value} {bytes : Nat} (ht : P.underlying t = some (.slice e)) (hi : P.info? e = some i) (hz : i.zero = some z)
    (hsize : i.size = 1) (hby : i.bytes = bytes) (hzs : z.cells.size = 1)
    {v : Value} {n : Nat} {xs : List Value} (hs : a.eval s = v) (hown : w.ownsRow base e 1 v n xs) {B m c : Nat} {A : Option Addr} {news : List Value}
    (hx : a.eval x = .slice A m c) (hnil : A = none → c = 0) (hr : Sl w B A m news)
    (h : ∀ v' w', w'.ownsRow base e 1 v' (n + m) (xs ++ news) → Below base w w' → wpList P ops Q rest (a.put o.dst v') w')
    (h1 : ∀ u ∈ news, u.oneCell' = true) (h63 : n + m ≤ maxLen) (hbytes : (n + m) * bytes ≤ 140737488355328) (hbase : base ≤ w.heap.size) :
    wpList P ops Q (o :: rest) a w := by
  have hlow : ∀ k, v.ownBlock = some k → base ≤ k := by
    intro k hk
    obtain ⟨_, hh | ⟨g, cap, cur, hv, hg, _⟩⟩ := hown
    · rw [hh.1] at hk; simp [Value.ownBlock] at hk
    · rw [hv] at hk; simp [Value.ownBlock] at hk; omega
  rcases A with _ | ad
  · obtain rfl := hnil rfl
    have hm : m = 0 := by
      rcases Nat.eq_zero_or_pos m with h0 | h0
      · exact h0
      · obtain ⟨_, _, hA, _⟩ := hr.2 h0; cases hA
    subst hm
    obtain rfl : news = [] := List.eq_nil_of_length_eq_zero hr.1
    exact wpList_append_own_none hgd s x t ho base e i 1 ht hi v n xs hs hown hx (h v w (by simpa using hown) (Below.refl _ _))
  · have hcells : ∀ j u, news[j]? = some u → w.cell? (ad.add j) = some u := by
      intro j u hu
      rcases Nat.eq_zero_or_pos m with h0 | h0
      · subst h0
        obtain rfl : news = [] := List.eq_nil_of_length_eq_zero hr.1
        simp at hu
      · obtain ⟨b, o, hA, _, hc⟩ := hr.2 h0
        injection hA with hA
        subst hA
        have ha : (⟨b, o, none⟩ : Addr).add j = ⟨b, o + j, none⟩ := by unfold Addr.add; split <;> simp_all
        rw [ha]
        exact hc j u hu
    exact wpList_append_own w hgd s x t ho base e i z 1 bytes ht hi hz hsize hby hzs (by omega) v n xs hs hown ad m c news hx (by simpa using hr.1) hcells h1 h63 hbytes hbase
      (fun v' w' h2 h3 _ => h v' w' h2 ((Below.refl _ _).grown h3 hbase hlow))
/-- a new block of one cell each, as a slice of the call's own -/
theorem own_fresh (w : World) (cs : Array Value) (e : TypeId) {base n : Nat} {xs : List Value} {b : Nat} (hb : w.heap.size = b) (hbase : base ≤ b) (hn : cs.size = n) (hx : cs.toList = xs) (hm : n ≤ maxLen) :
    (w.alloc (.cells cs e)).ownsRow base e 1 (.slice (some ⟨b, 0, none⟩) n n) n xs := by
  subst hb hn hx
  exact ⟨by simp, .inr ⟨w.heap.size, cs.size, cs, rfl, hbase, heap_alloc_new w _, Nat.le_refl _, hm, by simp, List.take_of_length_le (by simp)⟩⟩
/-- a block of three cells: what the walk asks of it -/
theorem blk3 {w : World} {g : Nat} {t : TypeId} {a b c : Value} (h : w.heap[g]? = some (.cells #[a, b, c] t (0, 0))) :
    w.cell? ⟨g, 0, none⟩ = some a ∧ w.cell? ⟨g, 1, none⟩ = some b ∧ w.cell? ⟨g, 2, none⟩ = some c ∧ w.frozen? ⟨g, 0, none⟩ = false ∧ w.frozen? ⟨g, 1, none⟩ = false ∧ w.frozen? ⟨g, 2, none⟩ = false :=
  ⟨cell_of_row w g 0 #[a, b, c] t (0, 0) h, cell_of_row w g 1 #[a, b, c] t (0, 0) h, cell_of_row w g 2 #[a, b, c] t (0, 0) h, by simp [World.frozen?, h], by simp [World.frozen?, h], by simp [World.frozen?, h]⟩
/-- blocks that were made lie as they lay behind a call that leaves what lay -/
theorem kept2 {w w1 : World} {o1 o2 : Obj} (hb : Below ((w.alloc o1).alloc o2).heap.size ((w.alloc o1).alloc o2) w1) : w1.heap[w.heap.size]? = some o1 ∧ w1.heap[w.heap.size + 1]? = some o2 :=
  ⟨(hb.block _ (by simp; omega)).trans ((Below.heap_alloc (w.alloc o1) o2 _ (by simp)).trans (heap_alloc_new w o1)), (hb.block _ (by simp)).trans (by have := heap_alloc_new (w.alloc o1) o2; rwa [World.size_alloc] at this)⟩
theorem kept3 {w w1 : World} {o1 o2 o3 : Obj} (hb : Below (((w.alloc o1).alloc o2).alloc o3).heap.size (((w.alloc o1).alloc o2).alloc o3) w1) : w1.heap[w.heap.size]? = some o1 ∧ w1.heap[w.heap.size + 1]? = some o2 ∧ w1.heap[w.heap.size + 2]? = some o3 := by
  have hk := kept2 (w := w) (w1 := ((w.alloc o1).alloc o2).alloc o3) (o1 := o1) (o2 := o2) ((Below.refl _ _).alloc (Nat.le_refl _) o3)
  exact ⟨(hb.block _ (by simp <;> omega)).trans hk.1, (hb.block _ (by simp <;> omega)).trans hk.2, (hb.block _ (by simp)).trans (by have := heap_alloc_new ((w.alloc o1).alloc o2) o3; simpa only [World.size_alloc, Nat.add_assoc] using this)⟩
end Fb
/- Slices of the call's own, read; words for memory without a type of its own. -/
namespace Go.Proofs.YtondnbnaoacanaaGreatDoor
open Go.ChangeShapes Go.WideShapes Go.ChangeAt Go.RowKit Fb

/-- a slice of the call's own, as one that is read -/
theorem own_reads {w : World} {base n B : Nat} {e : TypeId} {v : Value} {xs : List Value} (h : w.ownsRow base e 1 v n xs) (hB : w.heap.size ≤ B) :
    ∃ A c, v = .slice A n c ∧ n ≤ c ∧ c ≤ maxLen ∧ (A = none → c = 0) ∧ Sl w B A n xs ∧ (∀ a, A = some a → base ≤ a.block) := by
  obtain ⟨A, c, hv, hS⟩ := Sl.own h hB
  refine ⟨A, c, hv, ?_, ?_, ?_, hS, ?_⟩
  all_goals
    rcases h.2 with ⟨h1, h2⟩ | ⟨g, cap, cur, h1, h8, _, h4, h5, _⟩
    · rw [hv] at h1
      simp only [Value.slice.injEq] at h1
      obtain ⟨rfl, _, rfl⟩ := h1
      have := h.1; rw [h2] at this
      first | omega | (intro; rfl) | (intro a ha; cases ha) | (simp at this; omega)
    · rw [hv] at h1
      simp only [Value.slice.injEq] at h1
      obtain ⟨rfl, _, rfl⟩ := h1
      first | omega | (intro h9; cases h9; done) | (intro a ha; cases ha; exact h8)
/-- a slice of the call's own is one from any place ahead on -/
theorem own_down {w : World} {base base' n size : Nat} {e : TypeId} {v : Value} {xs : List Value} (h : w.ownsRow base e size v n xs) (hb : base' ≤ base) : w.ownsRow base' e size v n xs := by
  obtain ⟨hl, h | ⟨g, cap, cur, hv, hg, r⟩⟩ := h
  · exact ⟨hl, .inl h⟩
  · exact ⟨hl, .inr ⟨g, cap, cur, hv, Nat.le_trans hb hg, r⟩⟩
/-- a slice of the call's own stays so where what lay is let be -/
theorem own_below {w w' : World} {base n size : Nat} {e : TypeId} {v : Value} {xs : List Value} (h : w.ownsRow base e size v n xs) (hb : Below w.heap.size w w') : w'.ownsRow base e size v n xs := by
  obtain ⟨hl, h | ⟨g, cap, cur, hv, hg, hh, r⟩⟩ := h
  · exact ⟨hl, .inl h⟩
  · have hlt : g < w.heap.size := by
      rcases Nat.lt_or_ge g w.heap.size with h1 | h1
      · exact h1
      · rw [Array.getElem?_eq_none h1] at hh; cases hh
    exact ⟨hl, .inr ⟨g, cap, cur, hv, hg, (hb.block _ hlt).trans hh, r⟩⟩
end Go.Proofs.YtondnbnaoacanaaGreatDoor
/- Bytes as cells: slices of bytes, their copies, their texts. Words for all layers that speak of bytes. -/
namespace Go.Proofs.YtondnbnaoacanaaGreatDoor
open Go.ChangeShapes Go.WideShapes Go.ChangeAt Go.RowKit Fb

theorem u8_info : (Tryz.prog.info? 5).map (fun i => (i.zero, i.size, i.bytes)) = some (some (.int .u8 0), 1, 1) := by kernel_rfl
/-- bytes as cells -/
def by8 (l : List Int) : List Value := l.map (Value.int .u8)
theorem by8_len (l : List Int) : (by8 l).length = l.length := by simp [by8]
theorem by8_one (l : List Int) : ∀ u ∈ by8 l, u.oneCell' = true := by
  intro u hu
  obtain ⟨x, -, rfl⟩ := List.mem_map.1 hu
  rfl
theorem below_cells {W w1 : World} (hb : Below W.heap.size W w1) : (∀ b o, b < W.heap.size → w1.cell? ⟨b, o, none⟩ = W.cell? ⟨b, o, none⟩) ∧ (∀ b o, b < W.heap.size → w1.frozen? ⟨b, o, none⟩ = W.frozen? ⟨b, o, none⟩) :=
  ⟨fun b o h => hb.cell (p := ⟨b, o, none⟩) h, fun b o h => hb.frozen (p := ⟨b, o, none⟩) h⟩
theorem ret_int8 {k : IntKind} {a b : Int} (h : a = b) : Ending.returned (.int k a) = .returned (.int k b) := by rw [h]
/-- a store far from a slice -/
theorem Sl.far {w : World} {B n : Nat} {A : Option Addr} {xs : List Value} (h : Sl w B A n xs) {p : Addr} (hp : ∀ a, A = some a → a.block ≠ p.block) (u : Value) : Sl (w.setCell p u) B A n xs :=
  ⟨h.1, fun hn => by
    obtain ⟨b, o, hA, hb, hc⟩ := h.2 hn
    exact ⟨b, o, hA, hb, fun j x hx => (World.cell?_setCell_other _ _ _ _ (fun e => hp _ hA (by rw [e]))).trans (hc j x hx)⟩⟩

theorem by8_append (a b : List Int) : by8 (a ++ b) = by8 a ++ by8 b := by simp [by8]
/-- a slice that reads as these bytes, with room as slices have it -/
def Rw (w : World) (A : Option Addr) (n c : Nat) (zs : List Int) : Prop := Sl w w.heap.size A n (by8 zs) ∧ n ≤ c ∧ c ≤ maxLen ∧ (A = none → c = 0)
theorem Rw.below {w w' : World} {A : Option Addr} {n c : Nat} {zs : List Int} (h : Rw w A n c zs) (hb : Below w.heap.size w w') : Rw w' A n c zs := ⟨(h.1.below hb).up hb.size, h.2⟩
theorem Rw.nil (w : World) : Rw w none 0 0 [] := ⟨Sl.nil _ _ _, Nat.le_refl _, Nat.zero_le _, fun _ => rfl⟩
theorem own_rw {w : World} {base n : Nat} {v : Value} {zs : List Int} (h : w.ownsRow base 5 1 v n (by8 zs)) : ∃ A c, v = .slice A n c ∧ Rw w A n c zs ∧ (∀ a, A = some a → base ≤ a.block) := by
  obtain ⟨A, c, hv, h1, h2, h3, h4, h5⟩ := own_reads h (Nat.le_refl _)
  exact ⟨A, c, hv, ⟨h4, h1, h2, h3⟩, h5⟩
/-- 'string(b)' -/
theorem conv8 {w : World} {B n : Nat} {A : Option Addr} {zs : List Int} (c : Nat) (hS : Sl w B A n (by8 zs)) :
    (convert 26 9 (.slice A n c)).run Tryz.prog w = .ok (.string (strOfNums zs)) w := by
  have hl : n = zs.length := by have := hS.len; rw [by8_len] at this; exact this.symm
  rcases Nat.eq_zero_or_pos n with h0 | h0
  · obtain rfl : zs = [] := List.eq_nil_of_length_eq_zero (by omega)
    subst h0
    rcases A with _ | ad
    · exact run_convert_bytes_nil w 26 5 Tryz.underlying26 Tryz.underlying5 0 c 9 Tryz.underlying9
    · exact run_convert_bytes_back w 26 9 5 ad c [] Tryz.underlying26 Tryz.underlying5 Tryz.underlying9 (fun j hj => absurd hj (by simp))
  · obtain ⟨b, o, rfl, -, hc⟩ := hS.2 h0
    exact run_convert_bytes_arg w 26 5 Tryz.underlying26 Tryz.underlying5 b o n c zs hl.symm (fun i hi => hc i _ (by
      rw [by8, List.getElem?_map, List.getElem?_eq_getElem (by omega), List.getD_eq_getElem?_getD, List.getElem?_eq_getElem (by omega)]; rfl)) 9 Tryz.underlying9

theorem conv8d {w : World} {B n : Nat} {A : Option Addr} {zs : List Int} (c : Nat) (hS : Sl w B A n (by8 zs)) :
    (convert 26 9 (.slice A n c)).run Tryz.prog w.drew = .ok (.string (strOfNums zs)) w.drew := conv8 (w := w.drew) (B := B) c ⟨hS.1, hS.2⟩

/-- '[]byte("..")' of a text as it is typed: its row is marked -/
theorem lit8 (w : World) (C : Array Value) (n c b : Nat) (hb : w.heap.size = b) :
    (convert 26 26 (.slice (some ⟨b, 0, none⟩) n c)).run Tryz.prog (w.alloc (.cells C 5)) = .ok (.slice (some ⟨b, 0, none⟩) n c) (w.alloc (.cells C 5 (C.size, C.size + 1))) := by
  subst hb
  exact Go.Lib.run_convert_bytes_const w 26 5 C n c Tryz.underlying26 Tryz.underlying5
theorem str_inj {a b : List Int} (ha : Bytes a) (hb : Bytes b) (h : Go.Lib.bytesOf a = Go.Lib.bytesOf b) : a = b := by
  unfold Go.Lib.bytesOf at h
  have hl : a.length = b.length := by have := congrArg List.length h; simpa using this
  refine List.ext_getElem hl fun i h2 h3 => ?_
  have h4 : (a.map fun n => UInt8.ofNat n.toNat)[i]'(by simpa using h2) = (b.map fun n => UInt8.ofNat n.toNat)[i]'(by simpa using h3) := by simp only [h]
  simp only [List.getElem_map] at h4
  have h5 := congrArg UInt8.toNat h4
  have ba := ha _ (List.getElem_mem h2)
  have bb := hb _ (List.getElem_mem h3)
  rw [UInt8.toNat_ofNat_of_lt' (by simp [UInt8.size]; omega), UInt8.toNat_ofNat_of_lt' (by simp [UInt8.size]; omega)] at h5
  omega
/-- texts of bytes are the same just where the bytes are: as the walk asks it -/
theorem str_eq {a b : List Int} (ha : Bytes a) (hb : Bytes b) : ((strOfNums a).toList == (strOfNums b).toList) = decide (a = b) := by
  rw [Go.Lib.strOfNums_toList, Go.Lib.strOfNums_toList]
  by_cases h : a = b
  · subst h; simp
  · rw [decide_eq_false h]
    simpa using fun e => h (str_inj ha hb e)
set_option maxHeartbeats 1000000 in
theorem Clone_any {A : Option Addr} {n c B : Nat} {zs : List Int} {w : World} (hS : Sl w B A n (by8 zs)) (hB : B ≤ w.heap.size) (hnil : A = none → c = 0) (hn : zs.length ≤ 1000000) :
    Calls Tryz.prog 63 #[.slice A n c] w fun e w' => (∃ v, e = .returned v ∧ w'.ownsRow w.heap.size 5 1 v n (by8 zs)) ∧ Below w.heap.size w w' := by
  have kn := fun (w : World) (a : Option Addr) (n c : Nat) => Go.Lib.run_eql_slice_nil (P := Tryz.prog) w 26 5 a n c 0 0 Tryz.underlying26
  have hl : n = zs.length := by have := hS.len; rw [by8_len] at this; exact this.symm
  rcases A with _ | ad
  · obtain rfl := hnil rfl
    obtain rfl : n = 0 := by
      rcases Nat.eq_zero_or_pos n with h0 | h0
      · exact h0
      · obtain ⟨_, _, hA, _⟩ := hS.2 h0; cases hA
    obtain rfl : zs = [] := List.eq_nil_of_length_eq_zero hl.symm
    clear hnil hS hl
    go_enter Tryz.func63, Tryz.ntmps63
    go_wp2
    go_ret
    exact ⟨⟨_, rfl, by simp [by8], .inl ⟨rfl, rfl⟩⟩, Below.refl _ _⟩
  · obtain ⟨i0, hi0, hz0, hz1, hz2⟩ := info_parts u8_info
    have hnil' := hid hnil
    have hl' := hid hl
    clear hnil hl
    have hn0 : n ≤ 1000000 := by have := hl'.out; omega
    go_enter Tryz.func63, Tryz.ntmps63
    go_wp2_with (at_builtin; refine wpList_pushAll (B := B) rfl (.tmp 5) (.tmp 6) _ rfl Tryz.underlying26 hi0 hz0 hz1 hz2 rfl rfl (own_fresh w #[] 5 (base := w.heap.size) (n := 0) (xs := []) rfl (Nat.le_refl _) rfl rfl (Nat.zero_le _)) rfl (by simp) (m := n) (news := by8 zs) ?SL (fun v' w' hown hbel => ?_) (by8_one zs) (by simp only [maxLen]; omega) (by omega) (by simp))
    case SL => exact hS.below ((Below.refl _ _).alloc hB _)
    go_wp2
    go_ret
    exact ⟨⟨_, rfl, by simpa using hown⟩, ((Below.refl _ _).alloc (Nat.le_refl _) _).trans hbel⟩

set_option maxHeartbeats 1000000 in
theorem BClone_any {A : Option Addr} {n c B : Nat} {zs : List Int} {w : World} (hS : Sl w B A n (by8 zs)) (hB : B ≤ w.heap.size) (hnil : A = none → c = 0) (hn : zs.length ≤ 1000000) :
    Calls Tryz.prog 114 #[.slice A n c] w fun e w' => (∃ v, e = .returned v ∧ w'.ownsRow w.heap.size 5 1 v n (by8 zs)) ∧ Below w.heap.size w w' := by
  have kn := fun (w : World) (a : Option Addr) (n c : Nat) => Go.Lib.run_eql_slice_nil (P := Tryz.prog) w 26 5 a n c 0 0 Tryz.underlying26
  have hl : n = zs.length := by have := hS.len; rw [by8_len] at this; exact this.symm
  rcases A with _ | ad
  · obtain rfl := hnil rfl
    obtain rfl : n = 0 := by
      rcases Nat.eq_zero_or_pos n with h0 | h0
      · exact h0
      · obtain ⟨_, _, hA, _⟩ := hS.2 h0; cases hA
    obtain rfl : zs = [] := List.eq_nil_of_length_eq_zero hl.symm
    clear hnil hS hl
    go_enter Tryz.func114, Tryz.ntmps114
    go_wp2
    go_ret
    exact ⟨⟨_, rfl, by simp [by8], .inl ⟨rfl, rfl⟩⟩, Below.refl _ _⟩
  · obtain ⟨i0, hi0, hz0, hz1, hz2⟩ := info_parts u8_info
    have hnil' := hid hnil
    have hl' := hid hl
    clear hnil hl
    have hn0 : n ≤ 1000000 := by have := hl'.out; omega
    go_enter Tryz.func114, Tryz.ntmps114
    go_wp2_with (at_builtin; refine wpList_pushAll (B := B) rfl (.tmp 5) (.tmp 6) _ rfl Tryz.underlying26 hi0 hz0 hz1 hz2 rfl rfl (own_fresh w #[] 5 (base := w.heap.size) (n := 0) (xs := []) rfl (Nat.le_refl _) rfl rfl (Nat.zero_le _)) rfl (by simp) (m := n) (news := by8 zs) ?SL (fun v' w' hown hbel => ?_) (by8_one zs) (by simp only [maxLen]; omega) (by omega) (by simp))
    case SL => exact hS.below ((Below.refl _ _).alloc hB _)
    go_wp2
    go_ret
    exact ⟨⟨_, rfl, by simpa using hown⟩, ((Below.refl _ _).alloc (Nat.le_refl _) _).trans hbel⟩

end Go.Proofs.YtondnbnaoacanaaGreatDoor
/- A region that draws its order, by a word for each operation: whatever order is picked, each operation that has run has left a value of which its word holds. Nothing here speaks of a program. -/
namespace Fb
open Go

theorem filter_less {α : Type} {p p' : α → Bool} : ∀ (l : List α), (∀ x ∈ l, p' x = true → p x = true) → (∃ x ∈ l, p x = true ∧ p' x = false) → (l.filter p').length < (l.filter p).length
  | [], _, ⟨x, hx, _⟩ => by cases hx
  | y :: l, h, ⟨x, hx, h1, h2⟩ => by
    have hle : ∀ l : List α, (∀ x ∈ l, p' x = true → p x = true) → (l.filter p').length ≤ (l.filter p).length := by
      intro l
      induction l with
      | nil => intro _; simp
      | cons z l ih =>
        intro hz
        have := ih fun x hx => hz x (by simp [hx])
        have hz1 := hz z (by simp)
        rw [List.filter_cons, List.filter_cons]
        cases e1 : p' z <;> cases e2 : p z <;> simp_all <;> omega
    rw [List.filter_cons, List.filter_cons]
    rcases List.mem_cons.1 hx with rfl | hx
    · have := hle l fun x hx => h x (by simp [hx])
      rw [h1, h2]; simp; omega
    · have ih := filter_less l (fun x hx => h x (by simp [hx])) ⟨x, hx, h1, h2⟩
      have hy := h y (by simp)
      cases e1 : p' y <;> cases e2 : p y <;> simp_all <;> omega

/-- the values, one of them anew -/
def upd (vs : Nat → Value) (i : Nat) (v : Value) : Nat → Value := fun k => if k = i then v else vs k

section
variable {P : Program} {ops : Array Oper} {Q : Exit → Act → World → Prop} {A : (Nat → Value) → Act} {E : Nat → Value → World → Prop} {C : World → Prop} {Ext : World → World → Prop}

theorem wpAny_env
    (hstep : ∀ i o, ops[i]? = some o → ∀ vs w, C w → (∀ e ∈ o.after, Region.binds .any e = true → E e.on (vs e.on) w) →
      ∀ K : Act → World → Prop, Shut (∀ v w', E i v w' → Ext w w' → C w' → K (A (upd vs i v)) w') → if Region.wanted o (yielded ops (A vs).tmps) = true then Oper.wp P o (A vs) w K Q else K ((A vs).put o.dst undef) w)
    (hstab : ∀ i v w w', Ext w w' → E i v w → E i v w')
    (hlow : ∀ i o, ops[i]? = some o → ∀ e ∈ o.after, Region.binds .any e = true → e.on < i)
    (hend : ∀ vs w, C w → (∀ i, i < ops.size → E i (vs i) w) → Q .normal (A vs) w) :
    ∀ (fuel : Nat) (listed : Array Bool) (vs : Nat → Value) (w : World), listed.size = ops.size → ((List.range ops.size).filter fun j => !listed.getD j true).length ≤ fuel → C w → (∀ i, listed.getD i false = true → E i (vs i) w) →
      wpAny P .any ops Q fuel listed (A vs) w := by
  have hall : ∀ (listed : Array Bool), listed.size = ops.size → Region.ready .any ops listed = [] → ∀ i, i < ops.size → listed.getD i false = true := by
    intro listed hs hr i
    induction i using Nat.strongRecOn with
    | _ i ih =>
      intro hi
      have ho : ops[i]? = some ops[i] := Array.getElem?_eq_getElem hi
      cases hl : listed.getD i false with
      | true => rfl
      | false =>
        exfalso
        have : i ∈ Region.ready .any ops listed := mem_ready.2 ⟨by simpa [Array.getD, hs, hi] using hl, _, ho, fun e he hb => ih e.on (hlow i _ ho e he hb) (Nat.lt_trans (hlow i _ ho e he hb) hi)⟩
        rw [hr] at this; cases this
  intro fuel
  induction fuel with
  | zero =>
    intro listed vs w hs hc hC hE
    have hr : Region.ready .any ops listed = [] := by
      rcases h : Region.ready .any ops listed with _ | ⟨i, r⟩
      · rfl
      · exfalso
        have hi : i ∈ Region.ready .any ops listed := by rw [h]; simp
        obtain ⟨h1, o, ho, _⟩ := mem_ready.1 hi
        have hi2 : i < ops.size := (Array.getElem?_eq_some_iff.1 ho).1
        have : i ∈ (List.range ops.size).filter fun j => !listed.getD j true := by simp only [List.mem_filter, List.mem_range]; exact ⟨hi2, by rw [h1]; rfl⟩
        have := List.length_pos_of_mem this
        omega
    exact ⟨hr, hend vs w hC fun i hi => hE i (hall listed hs hr i hi)⟩
  | succ fuel ih =>
    intro listed vs w hs hc hC hE
    refine ⟨fun hr => hend vs w hC fun i hi => hE i (hall listed hs hr i hi), fun i hi => ?_⟩
    obtain ⟨h1, o, ho, hdep⟩ := mem_ready.1 hi
    have hi2 : i < ops.size := (Array.getElem?_eq_some_iff.1 ho).1
    refine wpOp_step ho (fun K' hK => hstep i o ho vs w hC (fun e he hb => hE _ (hdep e he hb)) K' (fun v w' hv hx hC' => hK _ _ (ih _ _ _ (by simpa using hs) ?_ hC' fun j hj => ?_)))
    · have := filter_less (p := fun j => !listed.getD j true) (p' := fun j => !(listed.setIfInBounds i true).getD j true) (List.range ops.size) (fun x hx hp => by
        by_cases hxi : i = x
        · subst hxi; simp [Array.getD, hs, hi2] at hp
        · rw [getD_set_ne true hxi] at hp; exact hp) ⟨i, by simpa using hi2, by rw [h1]; rfl, by simp [Array.getD, hs, hi2]⟩
      omega
    · by_cases hji : i = j
      · subst hji; unfold upd; rw [if_pos rfl]; exact hv
      · rw [getD_set_ne false hji] at hj
        unfold upd; rw [if_neg (Ne.symm hji)]
        exact hstab _ _ _ _ hx (hE j hj)

theorem wp_region_env {id : Nat} {a : Act} {w : World} (vs : Nat → Value) (hm : P.follows .mixedOrders = true) (ha : A vs = a) (hC : C w.drew)
    (hstep : ∀ i o, ops[i]? = some o → ∀ vs w, C w → (∀ e ∈ o.after, Region.binds .any e = true → E e.on (vs e.on) w) →
      ∀ K : Act → World → Prop, Shut (∀ v w', E i v w' → Ext w w' → C w' → K (A (upd vs i v)) w') → if Region.wanted o (yielded ops (A vs).tmps) = true then Oper.wp P o (A vs) w K Q else K ((A vs).put o.dst undef) w)
    (hstab : ∀ i v w w', Ext w w' → E i v w → E i v w')
    (hlow : ∀ i o, ops[i]? = some o → ∀ e ∈ o.after, Region.binds .any e = true → e.on < i)
    (hend : ∀ vs w, C w → (∀ i, i < ops.size → E i (vs i) w) → Q .normal (A vs) w) : (Code.region id ops true).wp P Q a w := by
  subst ha
  refine wp_region_any hm (wpAny_env hstep hstab hlow hend ops.size _ vs w.drew (by simp) ?_ hC fun i hi => ?_)
  · exact Nat.le_trans (List.length_filter_le _ _) (by simp)
  · exfalso
    simp [Array.getD] at hi
end
/-- edges go back, asked of a region as it stands -/
def lowB (ops : Array Oper) : Bool := (List.range ops.size).all fun i => match ops[i]? with
  | some o => o.after.all fun e => !Region.binds .any e || decide (e.on < i)
  | none => true
theorem low_of {ops : Array Oper} (h : lowB ops = true) : ∀ i o, ops[i]? = some o → ∀ e ∈ o.after, Region.binds .any e = true → e.on < i := by
  intro i o ho e he hb
  have hi : i < ops.size := (Array.getElem?_eq_some_iff.1 ho).1
  have h1 := List.all_eq_true.1 h i (by simpa using hi)
  rw [ho] at h1
  simp only [Array.all_eq_true'] at h1
  have h2 := h1 e he
  simpa [hb] using h2
end Fb
/- A region that draws its order, by a word for each operation, where a word may ask what is done already: so that what an operation left may be spent by another one (an append in place, a store). Nothing here speaks of a program. -/
namespace Fb
open Go

/-- done besides -/
def mark (dn : Nat → Bool) (i : Nat) : Nat → Bool := fun k => if k = i then true else dn k
theorem mark_self (dn : Nat → Bool) (i : Nat) : mark dn i i = true := by simp [mark]
theorem mark_ne {dn : Nat → Bool} {i j : Nat} (h : j ≠ i) : mark dn i j = dn j := by simp [mark, h]

/-- what is done stands on what is done -/
def Clo (ops : Array Oper) (dn : Nat → Bool) : Prop := ∀ i o, ops[i]? = some o → dn i = true → ∀ e ∈ o.after, Region.binds .any e = true → dn e.on = true

section
variable {P : Program} {ops : Array Oper} {Q : Exit → Act → World → Prop} {A : (Nat → Value) → Act} {E : (Nat → Bool) → Nat → Value → World → Prop} {C : World → Prop} {Ext : Nat → World → World → Prop}

theorem wpAny_envd
    (hstep : ∀ i o, ops[i]? = some o → ∀ dn vs w, dn i = false → C w → (∀ e ∈ o.after, Region.binds .any e = true → dn e.on = true ∧ E dn e.on (vs e.on) w) →
      ∀ K : Act → World → Prop, Shut (∀ v w', E (mark dn i) i v w' → Ext i w w' → C w' → K (A (upd vs i v)) w') → if Region.wanted o (yielded ops (A vs).tmps) = true then Oper.wp P o (A vs) w K Q else K ((A vs).put o.dst undef) w)
    (hstab : ∀ dn k i v w w', Clo ops dn → Clo ops (mark dn k) → dn k = false → dn i = true → C w → Ext k w w' → E dn i v w → E (mark dn k) i v w')
    (hlow : ∀ i o, ops[i]? = some o → ∀ e ∈ o.after, Region.binds .any e = true → e.on < i)
    (hend : ∀ dn vs w, (∀ i, i < ops.size → dn i = true) → C w → (∀ i, i < ops.size → E dn i (vs i) w) → Q .normal (A vs) w) :
    ∀ (fuel : Nat) (listed : Array Bool) (dn : Nat → Bool) (vs : Nat → Value) (w : World), (∀ i, dn i = listed.getD i false) → Clo ops dn → listed.size = ops.size → ((List.range ops.size).filter fun j => !listed.getD j true).length ≤ fuel → C w → (∀ i, dn i = true → E dn i (vs i) w) →
      wpAny P .any ops Q fuel listed (A vs) w := by
  have hall : ∀ (listed : Array Bool), listed.size = ops.size → Region.ready .any ops listed = [] → ∀ i, i < ops.size → listed.getD i false = true := by
    intro listed hs hr i
    induction i using Nat.strongRecOn with
    | _ i ih =>
      intro hi
      have ho : ops[i]? = some ops[i] := Array.getElem?_eq_getElem hi
      cases hl : listed.getD i false with
      | true => rfl
      | false =>
        exfalso
        have : i ∈ Region.ready .any ops listed := mem_ready.2 ⟨by simpa [Array.getD, hs, hi] using hl, _, ho, fun e he hb => ih e.on (hlow i _ ho e he hb) (Nat.lt_trans (hlow i _ ho e he hb) hi)⟩
        rw [hr] at this; cases this
  intro fuel
  induction fuel with
  | zero =>
    intro listed dn vs w hd hcl hs hc hC hE
    have hr : Region.ready .any ops listed = [] := by
      rcases h : Region.ready .any ops listed with _ | ⟨i, r⟩
      · rfl
      · exfalso
        have hi : i ∈ Region.ready .any ops listed := by rw [h]; simp
        obtain ⟨h1, o, ho, _⟩ := mem_ready.1 hi
        have hi2 : i < ops.size := (Array.getElem?_eq_some_iff.1 ho).1
        have : i ∈ (List.range ops.size).filter fun j => !listed.getD j true := by simp only [List.mem_filter, List.mem_range]; exact ⟨hi2, by rw [h1]; rfl⟩
        have := List.length_pos_of_mem this
        omega
    exact ⟨hr, hend dn vs w (fun i hi => (hd i).trans (hall listed hs hr i hi)) hC fun i hi => hE i ((hd i).trans (hall listed hs hr i hi))⟩
  | succ fuel ih =>
    intro listed dn vs w hd hcl hs hc hC hE
    refine ⟨fun hr => hend dn vs w (fun i hi => (hd i).trans (hall listed hs hr i hi)) hC fun i hi => hE i ((hd i).trans (hall listed hs hr i hi)), fun i hi => ?_⟩
    obtain ⟨h1, o, ho, hdep⟩ := mem_ready.1 hi
    have hi2 : i < ops.size := (Array.getElem?_eq_some_iff.1 ho).1
    have hdi : dn i = false := by rw [hd]; simpa [Array.getD, hs, hi2] using h1
    have hcl' : Clo ops (mark dn i) := by
      intro j o' ho' hj e he hb
      by_cases hei : e.on = i
      · rw [hei, mark_self]
      · rw [mark_ne hei]
        by_cases hji : j = i
        · subst hji
          obtain rfl : o = o' := Option.some.inj (ho.symm.trans ho')
          exact (hd _).trans (hdep e he hb)
        · rw [mark_ne hji] at hj
          exact hcl j o' ho' hj e he hb
    refine wpOp_step ho (fun K' hK => hstep i o ho dn vs w hdi hC (fun e he hb => ⟨(hd _).trans (hdep e he hb), hE _ ((hd _).trans (hdep e he hb))⟩) K' (fun v w' hv hx hC' => hK _ _ (ih _ (mark dn i) _ _ ?_ hcl' (by simpa using hs) ?_ hC' fun j hj => ?_)))
    · intro j
      by_cases hji : i = j
      · subst hji; rw [mark_self]; simp [Array.getD, hs, hi2]
      · rw [mark_ne (Ne.symm hji), hd, getD_set_ne false hji]
    · have := filter_less (p := fun j => !listed.getD j true) (p' := fun j => !(listed.setIfInBounds i true).getD j true) (List.range ops.size) (fun x hx hp => by
        by_cases hxi : i = x
        · subst hxi; simp [Array.getD, hs, hi2] at hp
        · rw [getD_set_ne true hxi] at hp; exact hp) ⟨i, by simpa using hi2, by rw [h1]; rfl, by simp [Array.getD, hs, hi2]⟩
      omega
    · by_cases hji : i = j
      · subst hji; unfold upd; rw [if_pos rfl]; exact hv
      · rw [mark_ne (Ne.symm hji)] at hj
        unfold upd; rw [if_neg (Ne.symm hji)]
        exact hstab _ _ _ _ _ _ hcl hcl' hdi hj hC hx (hE j hj)

theorem wp_region_envd {id : Nat} {a : Act} {w : World} (vs : Nat → Value) (hm : P.follows .mixedOrders = true) (ha : A vs = a) (hC : C w.drew)
    (hstep : ∀ i o, ops[i]? = some o → ∀ dn vs w, dn i = false → C w → (∀ e ∈ o.after, Region.binds .any e = true → dn e.on = true ∧ E dn e.on (vs e.on) w) →
      ∀ K : Act → World → Prop, Shut (∀ v w', E (mark dn i) i v w' → Ext i w w' → C w' → K (A (upd vs i v)) w') → if Region.wanted o (yielded ops (A vs).tmps) = true then Oper.wp P o (A vs) w K Q else K ((A vs).put o.dst undef) w)
    (hstab : ∀ dn k i v w w', Clo ops dn → Clo ops (mark dn k) → dn k = false → dn i = true → C w → Ext k w w' → E dn i v w → E (mark dn k) i v w')
    (hlow : ∀ i o, ops[i]? = some o → ∀ e ∈ o.after, Region.binds .any e = true → e.on < i)
    (hend : ∀ dn vs w, (∀ i, i < ops.size → dn i = true) → C w → (∀ i, i < ops.size → E dn i (vs i) w) → Q .normal (A vs) w) : (Code.region id ops true).wp P Q a w := by
  subst ha
  refine wp_region_any hm (wpAny_envd hstep hstab hlow hend ops.size _ (fun _ => false) vs w.drew (fun i => ?_) (fun i o _ h => by cases h) (by simp) ?_ hC fun i hi => by cases hi)
  · simp [Array.getD]
  · exact Nat.le_trans (List.length_filter_le _ _) (by simp)
end
end Fb
/- A whole block is written at once. Nothing here speaks of a program. -/
namespace Fb
open Go Go.RowKit

theorem wpList_store_blk {P : Program} {ops : Array Oper} {rest : List Oper} {o : Oper} {a : Act} {w : World} {Q : Exit → Act → World → Prop} (hgd : o.guard = none) (ty : TypeId) (x y : Operand) (ho : o.op = .store ty x y)
    (g : Nat) (cells : Array Value) (hx : a.eval x = .pointer (some ⟨g, 0, none⟩)) (hy : a.eval y = .agg cells)
    (t : TypeId) (old : Array Value) (hg : w.heap[g]? = some (.cells old t (0, 0))) (hi : (P.info? ty).map (·.size) = some cells.size)
    (hold : old.size = cells.size) (h1 : cells.all (·.oneCell') = true)
    (h : ∀ w', Hid (w'.heap[g]? = some (.cells cells t (0, 0))) → (∀ B w0, Below B w0 w → B ≤ g → Below B w0 w') → wpList P ops Q rest (a.put o.dst undef) w') : wpList P ops Q (o :: rest) a w :=
  wpList_plain hgd fun _ hK => wp_store_row ty x y ho g cells hx hy t old hg hi hold h1 (hK _ _ (h _ (setRow_heap w g old cells t (0, 0) hg) fun B w0 hb hB => hb.trans ⟨rfl, rfl, rfl, by simp [World.setRow], fun k hk => setRow_other w g k cells (by omega)⟩))
end Fb
/- Blocks that are written while the world is a variable. Nothing here speaks of a program. -/
namespace Fb
open Go Go.RowKit

/-- only block g is otherwise -/
structure Sto (g : Nat) (w w' : World) : Prop where
  os : w'.os = w.os
  tape : w'.tape = w.tape
  output : w'.output = w.output
  size : w'.heap.size = w.heap.size
  block : ∀ k, k ≠ g → w'.heap[k]? = w.heap[k]?
variable {w0 w w' w'' : World} {g B B' n : Nat} {A : Option Addr} {xs : List Value}
theorem Sto.refl (g : Nat) (w : World) : Sto g w w := ⟨rfl, rfl, rfl, rfl, fun _ _ => rfl⟩
theorem Sto.trans (h : Sto g w w') (k : Sto g w' w'') : Sto g w w'' := ⟨k.os.trans h.os, k.tape.trans h.tape, k.output.trans h.output, k.size.trans h.size, fun i hi => (k.block i hi).trans (h.block i hi)⟩
theorem Sto.cell (w : World) (g j : Nat) (u : Value) : Sto g w (w.setCell ⟨g, j, none⟩ u) := ⟨rfl, rfl, rfl, by simp [World.setCell], fun k hk => Below.heap_setCell _ _ _ _ hk⟩
theorem Sto.drew (h : Sto g w w') : Sto g w w'.drew := ⟨h.os, h.tape, h.output, h.size, h.block⟩
theorem Sto.below (h : Sto g w w') (hb : Below B w0 w) (hB : B ≤ g) : Below B w0 w' := hb.trans ⟨h.os, h.tape, h.output, Nat.le_of_eq h.size.symm, fun k hk => h.block k (by omega)⟩
theorem Sto.sl (h : Sto g w w') (hS : Sl w B A n xs) (hA : 0 < n → ∀ a, A = some a → a.block ≠ g) : Sl w' B A n xs :=
  ⟨hS.1, fun hn => by
    obtain ⟨b, o, e, hb, hc⟩ := hS.2 hn
    refine ⟨b, o, e, hb, fun j u hu => ?_⟩
    rw [World.cell?_of_block (w := w) (h.block b (hA hn _ e))]
    exact hc j u hu⟩
theorem Sto.own {base size : Nat} {e : TypeId} {v : Value} (h : Sto g w w') (ho : w.ownsRow base e size v n xs) (hg : g < base) : w'.ownsRow base e size v n xs := by
  obtain ⟨hl, hh | ⟨b, cap, cur, hv, hb, hh, r⟩⟩ := ho
  · exact ⟨hl, .inl hh⟩
  · exact ⟨hl, .inr ⟨b, cap, cur, hv, hb, (h.block b (by omega)).trans hh, r⟩⟩
theorem fld3 {t : TypeId} {a b c u : Value} (K : w.heap[g]? = some (.cells #[a, b, c] t (0, 0))) :
    (w.setCell ⟨g, 0, none⟩ u).heap[g]? = some (.cells #[u, b, c] t (0, 0)) ∧ (w.setCell ⟨g, 1, none⟩ u).heap[g]? = some (.cells #[a, u, c] t (0, 0)) ∧ (w.setCell ⟨g, 2, none⟩ u).heap[g]? = some (.cells #[a, b, u] t (0, 0)) := by
  refine ⟨?_, ?_, ?_⟩ <;> simp [World.setCell, Array.getElem?_modify, K]
theorem all3 {t : TypeId} {a b c a' b' c' : Value} (K : w.heap[g]? = some (.cells #[a, b, c] t (0, 0))) :
    (((w.setCell ⟨g, 0, none⟩ a').setCell ⟨g, 1, none⟩ b').setCell ⟨g, 2, none⟩ c').heap[g]? = some (.cells #[a', b', c'] t (0, 0)) := by
  simp [World.setCell, Array.getElem?_modify, K]
theorem sto3 (w : World) (g : Nat) (a b c : Value) : Sto g w (((w.setCell ⟨g, 0, none⟩ a).setCell ⟨g, 1, none⟩ b).setCell ⟨g, 2, none⟩ c) := ((Sto.cell w g 0 a).trans (Sto.cell _ g 1 b)).trans (Sto.cell _ g 2 c)

/-- what lay is let be, but for block g -/
structure Lts (g : Nat) (w w' : World) : Prop where
  os : w'.os = w.os
  tape : w'.tape = w.tape
  output : w'.output = w.output
  size : w.heap.size ≤ w'.heap.size
  block : ∀ k, k < w.heap.size → k ≠ g → w'.heap[k]? = w.heap[k]?
theorem Lts.of (h : Below w.heap.size w w') (g : Nat) : Lts g w w' := ⟨h.os, h.tape, h.output, h.size, fun k hk _ => h.block k hk⟩
theorem Sto.lts (h : Sto g w w') : Lts g w w' := ⟨h.os, h.tape, h.output, Nat.le_of_eq h.size.symm, fun k _ hk => h.block k hk⟩
theorem Lts.trans (h : Lts g w w') (k : Lts g w' w'') : Lts g w w'' := ⟨k.os.trans h.os, k.tape.trans h.tape, k.output.trans h.output, Nat.le_trans h.size k.size, fun i hi hg => (k.block i (Nat.lt_of_lt_of_le hi h.size) hg).trans (h.block i hi hg)⟩
theorem Lts.refl (g : Nat) (w : World) : Lts g w w := ⟨rfl, rfl, rfl, Nat.le_refl _, fun _ _ _ => rfl⟩
theorem Lts.drew (h : Lts g w w') : Lts g w w'.drew := ⟨h.os, h.tape, h.output, h.size, h.block⟩
theorem Lts.below (h : Lts g w w') (hb : Below B w0 w) (hB : B ≤ g) (hs : B ≤ w.heap.size) : Below B w0 w' := hb.trans ⟨h.os, h.tape, h.output, h.size, fun k hk => h.block k (by omega) (by omega)⟩
theorem Lts.sl (h : Lts g w w') (hS : Sl w w.heap.size A n xs) (hA : 0 < n → ∀ a, A = some a → a.block ≠ g) : Sl w' w'.heap.size A n xs :=
  ⟨hS.1, fun hn => by
    obtain ⟨b, o, e, hb, hc⟩ := hS.2 hn
    refine ⟨b, o, e, Nat.lt_of_lt_of_le hb h.size, fun j u hu => ?_⟩
    rw [World.cell?_of_block (w := w) (h.block b hb (hA hn _ e))]
    exact hc j u hu⟩
/-- a whole block is written -/
theorem wpList_store_sto {P : Program} {ops : Array Oper} {rest : List Oper} {o : Oper} {a : Act} {w : World} {Q : Exit → Act → World → Prop} (hgd : o.guard = none) (ty : TypeId) (x y : Operand) (ho : o.op = .store ty x y)
    (g : Nat) (cells : Array Value) (hx : a.eval x = .pointer (some ⟨g, 0, none⟩)) (hy : a.eval y = .agg cells)
    (t : TypeId) (old : Array Value) (hg : w.heap[g]? = some (.cells old t (0, 0))) (hi : (P.info? ty).map (·.size) = some cells.size)
    (hold : old.size = cells.size) (h1 : cells.all (·.oneCell') = true)
    (h : ∀ w', Hid (w'.heap[g]? = some (.cells cells t (0, 0))) → Sto g w w' → wpList P ops Q rest (a.put o.dst undef) w') : wpList P ops Q (o :: rest) a w :=
  wpList_plain hgd fun _ hK => wp_store_row ty x y ho g cells hx hy t old hg hi hold h1 (hK _ _ (h _ (setRow_heap w g old cells t (0, 0) hg) ⟨rfl, rfl, rfl, by simp [World.setRow], fun k hk => setRow_other w g k cells hk⟩))
end Fb
/- An argument that is a slice of strings, as a slice that reads as a list. Nothing here speaks of a program. -/
namespace Fb
open Go Go.RowKit Go.ChangeShapes Go.WideShapes Go.Deep

theorem open_strs_sl {H : Type} {enc : TypeId × Value → H} {P : Program} {w : World} {base b0 : Nat} {spare : Nat → Bool} {held : Bool} {r : Reach} {t e : TypeId} {v : Value} {d : DataW H} {ps : List MemPlace}
    (ht : P.underlying t = some (.slice e)) (he : P.underlying e = some .string) (hc : P.cellsOf e = 1) (hv : Value.okWide P w r b0 t v) (h : DataW.Trod enc P w base spare held t v d ps) :
    ∃ (A : Option Addr) (cap : Nat) (ss : List ByteArray), v = .slice A ss.length cap ∧ ss.length ≤ cap ∧ cap ≤ maxLen ∧ Sl w w.heap.size A ss.length (ss.map Value.string) ∧ (∀ s ∈ ss, s.size ≤ maxLen) ∧ (A = none → cap = 0) := by
  obtain ⟨A, n, c, rfl⟩ := okWide_slice ht hv
  obtain ⟨fuel, hf⟩ := h
  rcases open_strs ht he hc hf with ⟨hcs, _⟩ | ⟨x, l, c', m, Sx, hcs, _, hl, hm, hmm, _, hcell⟩
  · simp [Value.cells] at hcs
    obtain ⟨rfl, rfl, rfl⟩ := hcs
    exact ⟨none, 0, [], rfl, Nat.le_refl _, Nat.zero_le _, Sl.nil _ _ _, by simp, fun _ => rfl⟩
  · simp [Value.cells] at hcs
    obtain ⟨rfl, rfl, rfl⟩ := hcs
    have hnm : n ≤ m := by rw [hmm]; split <;> omega
    have hlen : ((List.range n).map Sx).length = n := by simp
    refine ⟨some x, c, (List.range n).map Sx, by rw [hlen], by rw [hlen]; exact hl, hm, ⟨by simp, fun h0 => ?_⟩, fun s hs => ?_, fun h => by cases h⟩
    · rw [hlen] at h0
      obtain ⟨b, o, spot⟩ := x
      have hc0 := (hcell 0 (by omega)).1
      obtain rfl : spot = none := by simpa [Addr.add] using World.cell?_spot hc0
      refine ⟨b, o, rfl, cell_lt (o := o) (by simpa [Addr.add] using hc0), fun j u hu => ?_⟩
      have hj : j < n := by
        rcases Nat.lt_or_ge j n with h | h
        · exact h
        · rw [List.getElem?_eq_none (by simp; omega)] at hu; cases hu
      have hc := (hcell j (by omega)).1
      simp only [List.map_map, List.getElem?_map, List.getElem?_range hj, Option.map_some, Option.some.injEq, Function.comp] at hu
      subst hu
      have ha : (⟨b, o, none⟩ : Addr).add j = ⟨b, o + j, none⟩ := by unfold Addr.add; split <;> simp_all
      rw [ha] at hc
      exact hc
    · obtain ⟨i, hi, rfl⟩ := List.mem_map.1 hs
      exact (hcell i (by have := List.mem_range.1 hi; omega)).2
end Fb
/- An argument that is a struct whose fields are a cell each, however many: opened. An event. Nothing here speaks of a program. -/
namespace Fb
open Go Go.RowKit Go.ChangeShapes Go.WideShapes Go.Deep

theorem open_flat {H : Type} {enc : TypeId × Value → H} {P : Program} {w : World} {base b0 : Nat} {spare : Nat → Bool} {held : Bool} {r : Reach} {t : TypeId} {fs : Array Field} {v : Value} {d : DataW H} {ps : List MemPlace}
    (hs : P.underlying t = some (.struct fs)) (hone : oneCellFields P fs = true) (hC : P.cellsOf t = fs.size) (hv : Value.okWide P w r b0 t v) (h : DataW.Trod enc P w base spare held t v d ps) :
    ∃ (cs : Array Value) (n : Nat), v = .agg cs ∧ cs.size = fs.size ∧ ∀ (i : Nat) (f : Field), fs[i]? = some f → ∃ u y, cs[i]? = some u ∧ DataW.trod enc P w base spare held n f.type [u] = some y := by
  obtain ⟨cs, rfl, hsz⟩ := okWide_struct hs hv
  obtain ⟨fuel, hf⟩ := h
  obtain ⟨xs, n, -, -, -, hlen, hg⟩ := DataW.trod_struct hs hf
  refine ⟨cs, n, rfl, hsz.trans hC, fun i f hi => ?_⟩
  have hlt : i < fs.size := (Array.getElem?_eq_some_iff.1 hi).1
  obtain ⟨ho, hk⟩ := hone_of hone i f hi
  have h1 := hg i f hi
  rw [ho, hk, List.getElem?_eq_getElem (by omega)] at h1
  have hci : i < cs.size := by omega
  have h2 : ((Value.agg cs).cells.toList.drop i).take 1 = [cs[i]] := by
    simp only [Value.cells]
    rw [List.drop_eq_getElem_cons (by simpa using hci)]
    simp
  rw [h2] at h1
  exact ⟨cs[i], _, Array.getElem?_eq_getElem hci, h1⟩

theorem open_event {H : Type} {enc : TypeId × Value → H} {P : Program} {w : World} {base b0 : Nat} {spare : Nat → Bool} {held : Bool} {r : Reach} {t : TypeId} {f0 f1 f2 f3 f4 f5 f6 : Field} {v : Value} {d : DataW H} {ps : List MemPlace}
    (hs : P.underlying t = some (.struct #[f0, f1, f2, f3, f4, f5, f6])) (hone : oneCellFields P #[f0, f1, f2, f3, f4, f5, f6] = true) (hC : P.cellsOf t = 7)
    (h0 : P.underlying f0.type = some (.int .i64)) (h1 : P.underlying f1.type = some (.int .i64)) (h2 : P.underlying f2.type = some (.int .i64)) (h3 : P.underlying f3.type = some .string) (h4 : P.underlying f4.type = some (.int .i64)) (h5 : P.underlying f5.type = some (.int .i64)) (h6 : P.underlying f6.type = some (.int .i64))
    (hv : Value.okWide P w r b0 t v) (h : DataW.Trod enc P w base spare held t v d ps) :
    ∃ (q s k a b c : Int) (x : ByteArray), v = .agg #[.int .i64 q, .int .i64 s, .int .i64 k, .string x, .int .i64 a, .int .i64 b, .int .i64 c] ∧ x.size ≤ maxLen := by
  obtain ⟨cs, n, rfl, hsz, hg⟩ := open_flat hs hone hC hv h
  obtain ⟨u0, y0, g0, t0⟩ := hg 0 f0 rfl
  obtain ⟨u1, y1, g1, t1⟩ := hg 1 f1 rfl
  obtain ⟨u2, y2, g2, t2⟩ := hg 2 f2 rfl
  obtain ⟨u3, y3, g3, t3⟩ := hg 3 f3 rfl
  obtain ⟨u4, y4, g4, t4⟩ := hg 4 f4 rfl
  obtain ⟨u5, y5, g5, t5⟩ := hg 5 f5 rfl
  obtain ⟨u6, y6, g6, t6⟩ := hg 6 f6 rfl
  obtain ⟨q, e0, -, -⟩ := DataW.trod_int h0 t0
  obtain ⟨s, e1, -, -⟩ := DataW.trod_int h1 t1
  obtain ⟨k, e2, -, -⟩ := DataW.trod_int h2 t2
  obtain ⟨x, e3, -, hx⟩ := DataW.trod_string h3 t3
  obtain ⟨a, e4, -, -⟩ := DataW.trod_int h4 t4
  obtain ⟨b, e5, -, -⟩ := DataW.trod_int h5 t5
  obtain ⟨c, e6, -, -⟩ := DataW.trod_int h6 t6
  simp only [List.cons.injEq, and_true] at e0 e1 e2 e3 e4 e5 e6
  subst e0 e1 e2 e3 e4 e5 e6
  refine ⟨q, s, k, a, b, c, x, ?_, hx⟩
  congr 1
  apply Array.ext
  · exact hsz
  · intro i i1 i2
    have i3 : i < 7 := i2
    rcases (show i = 0 ∨ i = 1 ∨ i = 2 ∨ i = 3 ∨ i = 4 ∨ i = 5 ∨ i = 6 by omega) with rfl | rfl | rfl | rfl | rfl | rfl | rfl
    · rw [Array.getElem?_eq_getElem i1] at g0; exact Option.some.inj g0
    · rw [Array.getElem?_eq_getElem i1] at g1; exact Option.some.inj g1
    · rw [Array.getElem?_eq_getElem i1] at g2; exact Option.some.inj g2
    · rw [Array.getElem?_eq_getElem i1] at g3; exact Option.some.inj g3
    · rw [Array.getElem?_eq_getElem i1] at g4; exact Option.some.inj g4
    · rw [Array.getElem?_eq_getElem i1] at g5; exact Option.some.inj g5
    · rw [Array.getElem?_eq_getElem i1] at g6; exact Option.some.inj g6
end Fb
/- An argument that is a struct of a slice of bytes and two numbers. Nothing here speaks of a program. -/
namespace Fb
open Go Go.RowKit Go.ChangeShapes Go.WideShapes Go.Deep Go.Joins

theorem ints_raw {H : Type} {enc : TypeId × Value → H} {P : Program} {w : World} {base : Nat} {spare : Nat → Bool} {held : Bool} {t e : TypeId} {k : IntKind} {v : Value} {fuel : Nat} {x : DataW H × List MemPlace}
    (ht : P.underlying t = some (.slice e)) (he : P.underlying e = some (.int k)) (hc : P.cellsOf e = 1) (hf : DataW.trod enc P w base spare held fuel t [v] = some x) :
    ∃ (A : Option Addr) (cap : Nat) (zs : List Int), v = .slice A zs.length cap ∧ zs.length ≤ cap ∧ cap ≤ maxLen ∧ Sl w w.heap.size A zs.length (zs.map (Value.int k)) ∧ (∀ n ∈ zs, (Lit.int k n).wf = true) ∧ (A = none → cap = 0) := by
  rcases open_ints ht he hc hf with ⟨hcs, _⟩ | ⟨x, n, c, zs, hcs, _, hl, hm, hz, _, hcell, hwz⟩
  · obtain rfl : v = .slice none 0 0 := by simpa using hcs
    exact ⟨none, 0, [], rfl, Nat.le_refl _, Nat.zero_le _, Sl.nil _ _ _, by simp, fun _ => rfl⟩
  · obtain rfl : v = .slice (some x) n c := by simpa using hcs
    have hzl : n ≤ zs.length := by rw [hz]; split <;> omega
    have hlen : (zs.take n).length = n := by simp; omega
    refine ⟨some x, c, zs.take n, by rw [hlen], by rw [hlen]; exact hl, hm, ⟨by simp, fun h0 => ?_⟩, fun q hq => hwz q (List.mem_of_mem_take hq), fun h => by cases h⟩
    rw [hlen] at h0
    obtain ⟨b, o, spot⟩ := x
    have hc0 := hcell 0 (by omega)
    obtain rfl : spot = none := by simpa [Addr.add] using World.cell?_spot hc0
    refine ⟨b, o, rfl, cell_lt (o := o) (by simpa [Addr.add] using hc0), fun j u hu => ?_⟩
    have hj : j < n := by
      rcases Nat.lt_or_ge j n with h | h
      · exact h
      · rw [List.getElem?_eq_none (by simp; omega)] at hu; cases hu
    have hc := hcell j (by omega)
    rw [List.getElem?_map, List.getElem?_take_of_lt hj, List.getElem?_eq_getElem (by omega)] at hu
    simp only [Option.map_some, Option.some.injEq] at hu
    subst hu
    have ha : (⟨b, o, none⟩ : Addr).add j = ⟨b, o + j, none⟩ := by unfold Addr.add; split <;> simp_all
    rw [ha] at hc
    rw [hc, List.getD_eq_getElem?_getD, List.getElem?_eq_getElem (by omega)]
    rfl

theorem open_cursor {H : Type} {enc : TypeId × Value → H} {P : Program} {w : World} {base b0 : Nat} {spare : Nat → Bool} {held : Bool} {r : Reach} {t e : TypeId} {f0 f1 f2 : Field} {v : Value} {d : DataW H} {ps : List MemPlace}
    (hs : P.underlying t = some (.struct #[f0, f1, f2])) (hone : oneCellFields P #[f0, f1, f2] = true) (hC : P.cellsOf t = 3)
    (h0 : P.underlying f0.type = some (.slice e)) (he : P.underlying e = some (.int .u8)) (hc : P.cellsOf e = 1) (h1 : P.underlying f1.type = some (.int .i64)) (h2 : P.underlying f2.type = some (.int .i64))
    (hv : Value.okWide P w r b0 t v) (h : DataW.Trod enc P w base spare held t v d ps) :
    ∃ (A : Option Addr) (cap : Nat) (zs : List Int) (p er : Int), v = .agg #[.slice A zs.length cap, .int .i64 p, .int .i64 er] ∧ zs.length ≤ cap ∧ cap ≤ maxLen ∧ Sl w w.heap.size A zs.length (zs.map (Value.int .u8)) ∧ (∀ n ∈ zs, (Lit.int .u8 n).wf = true) ∧ (A = none → cap = 0) ∧ (Lit.int .i64 p).wf = true ∧ (Lit.int .i64 er).wf = true := by
  obtain ⟨v0, v1, v2, y0, y1, y2, n, rfl, -, -, g0, g1, g2⟩ := open_agg3 hs hone hC hv h
  obtain ⟨A, cap, zs, rfl, a1, a2, a3, a4, a5⟩ := ints_raw h0 he hc g0
  obtain ⟨p, e1, -, w1⟩ := DataW.trod_int h1 g1
  obtain ⟨q, e2, -, w2⟩ := DataW.trod_int h2 g2
  obtain rfl : v1 = .int .i64 p := by simpa using e1
  obtain rfl : v2 = .int .i64 q := by simpa using e2
  exact ⟨A, cap, zs, p, q, rfl, a1, a2, a3, a4, a5, w1, w2⟩
end Fb
/- An argument that is a struct of two numbers and a slice of strings. Nothing here speaks of a program. -/
namespace Fb
open Go Go.RowKit Go.ChangeShapes Go.WideShapes Go.Deep Go.Joins

theorem strs_raw {H : Type} {enc : TypeId × Value → H} {P : Program} {w : World} {base : Nat} {spare : Nat → Bool} {held : Bool} {t e : TypeId} {v : Value} {fuel : Nat} {x : DataW H × List MemPlace}
    (ht : P.underlying t = some (.slice e)) (he : P.underlying e = some .string) (hc : P.cellsOf e = 1) (hf : DataW.trod enc P w base spare held fuel t [v] = some x) :
    ∃ (A : Option Addr) (cap : Nat) (ss : List ByteArray), v = .slice A ss.length cap ∧ ss.length ≤ cap ∧ cap ≤ maxLen ∧ Sl w w.heap.size A ss.length (ss.map Value.string) ∧ (∀ s ∈ ss, s.size ≤ maxLen) ∧ (A = none → cap = 0) := by
  rcases open_strs ht he hc hf with ⟨hcs, _⟩ | ⟨x, l, c', m, Sx, hcs, _, hl, hm, hmm, _, hcell⟩
  · obtain rfl : v = .slice none 0 0 := by simpa using hcs
    exact ⟨none, 0, [], rfl, Nat.le_refl _, Nat.zero_le _, Sl.nil _ _ _, by simp, fun _ => rfl⟩
  · obtain rfl : v = .slice (some x) l c' := by simpa using hcs
    have hnm : l ≤ m := by rw [hmm]; split <;> omega
    have hlen : ((List.range l).map Sx).length = l := by simp
    refine ⟨some x, c', (List.range l).map Sx, by rw [hlen], by rw [hlen]; exact hl, hm, ⟨by simp, fun h0 => ?_⟩, fun s hs => ?_, fun h => by cases h⟩
    · rw [hlen] at h0
      obtain ⟨b, o, spot⟩ := x
      have hc0 := (hcell 0 (by omega)).1
      obtain rfl : spot = none := by simpa [Addr.add] using World.cell?_spot hc0
      refine ⟨b, o, rfl, cell_lt (o := o) (by simpa [Addr.add] using hc0), fun j u hu => ?_⟩
      have hj : j < l := by
        rcases Nat.lt_or_ge j l with h | h
        · exact h
        · rw [List.getElem?_eq_none (by simp; omega)] at hu; cases hu
      have hc := (hcell j (by omega)).1
      simp only [List.map_map, List.getElem?_map, List.getElem?_range hj, Option.map_some, Option.some.injEq, Function.comp] at hu
      subst hu
      have ha : (⟨b, o, none⟩ : Addr).add j = ⟨b, o + j, none⟩ := by unfold Addr.add; split <;> simp_all
      rw [ha] at hc
      exact hc
    · obtain ⟨i, hi, rfl⟩ := List.mem_map.1 hs
      exact (hcell i (by have := List.mem_range.1 hi; omega)).2

theorem open_ctx {H : Type} {enc : TypeId × Value → H} {P : Program} {w : World} {base b0 : Nat} {spare : Nat → Bool} {held : Bool} {r : Reach} {t e : TypeId} {f0 f1 f2 : Field} {v : Value} {d : DataW H} {ps : List MemPlace}
    (hs : P.underlying t = some (.struct #[f0, f1, f2])) (hone : oneCellFields P #[f0, f1, f2] = true) (hC : P.cellsOf t = 3)
    (h0 : P.underlying f0.type = some (.int .i64)) (h1 : P.underlying f1.type = some (.int .i64)) (h2 : P.underlying f2.type = some (.slice e)) (he : P.underlying e = some .string) (hc : P.cellsOf e = 1)
    (hv : Value.okWide P w r b0 t v) (h : DataW.Trod enc P w base spare held t v d ps) :
    ∃ (A : Option Addr) (cap : Nat) (ss : List ByteArray) (p er : Int), v = .agg #[.int .i64 p, .int .i64 er, .slice A ss.length cap] ∧ ss.length ≤ cap ∧ cap ≤ maxLen ∧ Sl w w.heap.size A ss.length (ss.map Value.string) ∧ (∀ s ∈ ss, s.size ≤ maxLen) ∧ (A = none → cap = 0) := by
  obtain ⟨v0, v1, v2, y0, y1, y2, n, rfl, -, -, g0, g1, g2⟩ := open_agg3 hs hone hC hv h
  obtain ⟨A, cap, ss, rfl, a1, a2, a3, a4, a5⟩ := strs_raw h2 he hc g2
  obtain ⟨p, e1, -, -⟩ := DataW.trod_int h0 g0
  obtain ⟨q, e2, -, -⟩ := DataW.trod_int h1 g1
  obtain rfl : v0 = .int .i64 p := by simpa using e1
  obtain rfl : v1 = .int .i64 q := by simpa using e2
  exact ⟨A, cap, ss, p, q, rfl, a1, a2, a3, a4, a5⟩
end Fb
/- An argument of bytes. -/
namespace Go.Proofs.YtondnbnaoacanaaGreatDoor
open Fb Go.RowKit

/-- an argument of bytes -/
structure Arg8 (w : World) (A : Option Addr) (n c : Nat) (zs : List Int) : Prop where
  rw : Rw w A n c zs
  bytes : Bytes zs
theorem Arg8.len {w : World} {A : Option Addr} {n c : Nat} {zs : List Int} (h : Arg8 w A n c zs) : n = zs.length := by
  have := h.rw.1.len
  rw [by8_len] at this
  exact this.symm
end Go.Proofs.YtondnbnaoacanaaGreatDoor
