/- Rows that grow, and whose room has only cells of some kind (Z): what is of another kind elsewhere is let be. Nothing here speaks of a program. -/
import Derived.Test.YtondnbnaoacanaaGreatDoorBase
import Derived.Maps.AppendAt
import Derived.Deep.AppendLies
namespace Fb
open Go Go.RowKit

/-- from there on the row's block is empty -/
def SprY (Z : Value → Prop) (w : World) (v : Value) (k : Nat) : Prop := ∀ g, v.ownBlock = some g → ∀ i u, k ≤ i → w.cell? ⟨g, i, none⟩ = some u → Z u
/-- what is not empty is let be -/
def NzY (Z : Value → Prop) (w w' : World) : Prop := ∀ a u, w.cell? a = some u → ¬ Z u → w'.cell? a = some u
theorem NzY.trans {Z : Value → Prop} {a b c : World} (h : NzY Z a b) (k : NzY Z b c) : NzY Z a c := fun x u hu hz => k x u (h x u hu hz) hz
theorem NzY.sl {Z : Value → Prop} {w w' : World} {B n : Nat} {A : Option Addr} {xs : List Value} (h : NzY Z w w') (hS : Sl w B A n xs) (hx : ∀ u ∈ xs, ¬ Z u) : Sl w' B A n xs :=
  ⟨hS.1, fun hn => by
    obtain ⟨b, o, e, hb, hc⟩ := hS.2 hn
    exact ⟨b, o, e, hb, fun j u hu => h _ u (hc j u hu) (hx u (List.mem_of_getElem? hu))⟩⟩
theorem SprY.nil {Z : Value → Prop} (w : World) (k : Nat) : SprY Z w (.slice none 0 0) k := fun g hg => by simp [Value.ownBlock] at hg
theorem SprY.kept {Z : Value → Prop} {w w' : World} {base n size k : Nat} {e : TypeId} {v : Value} {xs : List Value} {row : Option Nat} (h : SprY Z w v k) (ho : w.ownsRow base e size v n xs) (hg : w.grownBy w' row) (hne : v.ownBlock = none ∨ v.ownBlock ≠ row) : SprY Z w' v k := by
  intro g hgv i u hi hu
  refine h g hgv i u hi ?_
  have hlt := (ho.lt g hgv).2
  have hne' : some g ≠ row := by
    rcases hne with h1 | h1
    · rw [h1] at hgv; cases hgv
    · rwa [hgv] at h1
  rw [← World.cell?_of_block (w := w) (w' := w') (a := ⟨g, i, none⟩) (hg.block g hlt hne')]
  exact hu
theorem mem_zeroY {Z : Value → Prop} {zs : Array Value} {n i : Nat} {u : Value} (hz : ∀ x ∈ zs.toList, Z x) (h : (Builtin.zeroCells zs n)[i]? = some u) : Z u := by
  unfold Builtin.zeroCells at h
  simp only [Array.getElem?_map, Array.getElem?_range] at h
  split at h
  · rename_i hlt
    simp only [Option.map_some, Option.some.injEq] at h
    have hpos : 0 < zs.size := by
      rcases Nat.eq_zero_or_pos zs.size with h0 | h0
      · rw [h0] at hlt; omega
      · exact h0
    have hm : i % zs.size < zs.size := Nat.mod_lt _ hpos
    rw [getElem!_pos zs _ hm] at h
    subst h
    exact hz _ (by simp)
  · simp at h
theorem cell_inY {w : World} {g i : Nat} {cur : Array Value} {e : TypeId} (hg : w.heap[g]? = some (.cells cur e (0, 0))) : w.cell? ⟨g, i, none⟩ = cur[i]? := cell_of_row w g i cur e (0, 0) hg

section
variable {P : Program} (w : World)
theorem run_append_zeroY {Z : Value → Prop} (base : Nat) (t ty e : TypeId) (i : TypeInfo) (z : Value) (size bytes : Nat) (ht : P.underlying t = some (.slice e)) (hi : P.info? e = some i) (hz : i.zero = some z)
    (hsize : i.size = size) (hby : i.bytes = bytes) (hzs : z.cells.size = size) (hsz : 0 < size) (hzz : ∀ x ∈ z.cells.toList, Z x)
    (v : Value) (n : Nat) (xs : List Value) (hown : w.ownsRow base e size v n xs) (hsp : SprY Z w v (n * size))
    (a : Addr) (m c : Nat) (news : List Value) (hl : news.length = m * size) (hnews : ∀ j u, news[j]? = some u → w.cell? (a.add j) = some u) (h1 : ∀ u ∈ news, u.oneCell' = true)
    (h63 : n + m ≤ maxLen) (hbytes : (n + m) * bytes ≤ 140737488355328) (hbase : base ≤ w.heap.size) :
    ∃ v' w', (Builtin.append_ #[t, t] ty #[v, .slice (some a) m c]).run P w = .ok v' w' ∧ w'.ownsRow base e size v' (n + m) (xs ++ news) ∧ SprY Z w' v' ((n + m) * size) ∧ w.grownBy w' v.ownBlock ∧ NzY Z w w' ∧
      (v'.ownBlock = v.ownBlock ∨ v'.ownBlock = some w.heap.size) := by
  subst hsize
  subst hby
  have hsmall : n + m ≤ 9223372036854775807 := by simp only [maxLen] at h63; omega
  have hlen : (xs ++ news).length = (n + m) * i.size := by rw [List.length_append, hown.1, hl, Nat.add_mul]
  have grown : ∀ (old : Nat), old < n + m → ∀ (row : Option Nat),
      (w.drew.alloc (.cells (xs.toArray ++ news.toArray ++ Builtin.zeroCells z.cells (grownCap w (n + m) old e - (n + m))) e)).ownsRow base e i.size
        (.slice (some ⟨w.heap.size, 0, none⟩) (n + m) (grownCap w (n + m) old e)) (n + m) (xs ++ news) ∧
      SprY Z (w.drew.alloc (.cells (xs.toArray ++ news.toArray ++ Builtin.zeroCells z.cells (grownCap w (n + m) old e - (n + m))) e)) (.slice (some ⟨w.heap.size, 0, none⟩) (n + m) (grownCap w (n + m) old e)) ((n + m) * i.size) ∧
      w.grownBy (w.drew.alloc (.cells (xs.toArray ++ news.toArray ++ Builtin.zeroCells z.cells (grownCap w (n + m) old e - (n + m))) e)) row ∧
      NzY Z w (w.drew.alloc (.cells (xs.toArray ++ news.toArray ++ Builtin.zeroCells z.cells (grownCap w (n + m) old e - (n + m))) e)) := by
    intro old ho row
    have hge := grownCap_ge w (n + m) old e
    have hcm : grownCap w (n + m) old e ≤ maxLen := grownCap_le_maxLen w (n + m) old e h63
    refine ⟨⟨hlen, .inr ⟨w.heap.size, _, _, rfl, hbase, heap_alloc_new w.drew _, hge, hcm, ?_, ?_⟩⟩, ?_, ⟨rfl, rfl, rfl, by simp, fun k hk _ => Below.heap_alloc w.drew _ k hk⟩, ?_⟩
    · simp only [Array.size_append, List.size_toArray, size_zeroCells, hzs, hown.1, hl, ← Nat.add_mul]
      congr 1
      omega
    · simp only [Array.toList_append, List.append_assoc]
      rw [← List.append_assoc, ← hlen]
      exact List.take_left
    · intro g hg j u hj hu
      simp only [Value.ownBlock, Option.some.injEq] at hg
      subst hg
      have hnew : (w.drew.alloc (.cells (xs.toArray ++ news.toArray ++ Builtin.zeroCells z.cells (grownCap w (n + m) old e - (n + m))) e)).heap[w.heap.size]? = some (.cells (xs.toArray ++ news.toArray ++ Builtin.zeroCells z.cells (grownCap w (n + m) old e - (n + m))) e (0, 0)) := heap_alloc_new w.drew _
      rw [cell_inY hnew, Array.getElem?_append_right (by simp only [Array.size_append, List.size_toArray]; rw [← List.length_append, hlen]; exact hj)] at hu
      exact mem_zeroY hzz hu
    · intro b u hu _
      rw [World.cell?_of_block (w := w) (Below.heap_alloc w.drew _ b.block (World.block_lt_of_cell? w b hu))]
      exact hu
  rcases hown.2 with ⟨rfl, rfl⟩ | ⟨g, cap, cur, rfl, hbg, hg, hnc, hcm, hcs, htake⟩
  · have hx : xs = [] := List.eq_nil_of_length_eq_zero (by simpa using hown.1)
    subst hx
    by_cases hm : m = 0
    · subst hm
      have hn : news = [] := List.eq_nil_of_length_eq_zero (by simpa using hl)
      subst hn
      refine ⟨.slice none 0 0, w, ?_, World.ownsRow_nil w base e i.size, SprY.nil _ _, ⟨rfl, rfl, rfl, Nat.le_refl _, fun _ _ _ => rfl⟩, fun _ _ h _ => h, Or.inl rfl⟩
      simp [Builtin.append_, run_underlying ht, Go.sizeOf, typeInfo, hi, Builtin.lenOf, Builtin.firstCells, loadCells, loadCellsFrom]
    · have hr := run_append_nil (P := P) w t ty e i z ht hi hz a m c news hl hnews (by omega) (by omega) (by have hb := hbytes; simp only [Nat.zero_add] at hb; omega)
      have hgr := grown 0 (by omega) (Value.ownBlock (.slice none 0 0))
      simp only [Nat.zero_add, List.nil_append, Array.empty_append] at hgr ⊢
      exact ⟨_, _, hr, hgr.1, hgr.2.1, hgr.2.2.1, hgr.2.2.2, Or.inr rfl⟩
  · by_cases hroom : n + m ≤ cap
    · have hfit : n * i.size + news.length ≤ cur.size := by rw [hl, hcs, ← Nat.add_mul]; exact Nat.mul_le_mul_right _ hroom
      have hr := run_append_room (P := P) w t ty e i ht hi g n cap cur hg a m c news hl hnews h1 hroom hfit
      have hh := setRow_heap w g cur (cur.toList.take (n * i.size) ++ news ++ cur.toList.drop (n * i.size + news.length)).toArray e _ hg
      have hsz2 : n * i.size ≤ cur.toList.length := by rw [Array.length_toList]; omega
      have hpart : (cur.toList.take (n * i.size) ++ news).length = (n + m) * i.size := by rw [htake]; exact hlen
      refine ⟨_, _, hr, ⟨hlen, .inr ⟨g, cap, _, rfl, hbg, hh, hroom, hcm, ?_, ?_⟩⟩, ?_, ⟨rfl, rfl, rfl, by simp, fun k _ hk => setRow_other w g k _ (fun e => hk (by simp [Value.ownBlock, e]))⟩, ?_, Or.inl rfl⟩
      · simp only [List.size_toArray, List.length_append, List.length_take, List.length_drop, Array.length_toList]
        omega
      · rw [htake, ← hlen]
        exact List.take_left
      · intro g' hg' j u hj hu
        simp only [Value.ownBlock, Option.some.injEq] at hg'
        subst hg'
        rw [cell_inY hh, List.getElem?_toArray, List.getElem?_append_right (by rw [hpart]; exact hj), hpart, List.getElem?_drop] at hu
        have e1 : n * i.size + news.length + (j - (n + m) * i.size) = j := by rw [hl, ← Nat.add_mul]; omega
        rw [e1] at hu
        refine hsp g rfl j u (Nat.le_trans (Nat.mul_le_mul_right _ (Nat.le_add_right n m)) hj) ?_
        rw [cell_inY hg, ← Array.getElem?_toList]
        exact hu
      · intro b u hu hzu
        by_cases hb : b.block = g
        · obtain ⟨b, o, s⟩ := b
          simp only at hb
          subst hb
          obtain rfl : s = none := World.cell?_spot hu
          rw [cell_inY hg] at hu
          have ho : o < n * i.size := by
            rcases Nat.lt_or_ge o (n * i.size) with h | h
            · exact h
            · exact absurd (hsp b rfl o u h (by rw [cell_inY hg]; exact hu)) hzu
          rw [cell_inY hh, List.getElem?_toArray, List.append_assoc, List.getElem?_append_left (by rw [List.length_take, Array.length_toList]; omega), List.getElem?_take, if_pos ho, Array.getElem?_toList]
          exact hu
        · rw [World.cell?_of_block (w := w) (setRow_other w g b.block _ hb)]
          exact hu
    · have holds : ∀ j u, xs[j]? = some u → w.cell? ((⟨g, 0, none⟩ : Addr).add j) = some u := hown.cells (g := g) rfl
      have hr := run_append_grow (P := P) w t ty e i z ht hi hz ⟨g, 0, none⟩ n cap xs hown.1 holds a m c news hl hnews (by omega) (by omega) (growslice_fits (by omega) hbytes)
      have hgr := grown cap (by omega) (Value.ownBlock (.slice (some ⟨g, 0, none⟩) n cap))
      exact ⟨_, _, hr, hgr.1, hgr.2.1, hgr.2.2.1, hgr.2.2.2, Or.inr rfl⟩
end

/-- 'append(s, x)' of one element, which lies in a block of its own -/
theorem wpList_pushY {Z : Value → Prop} {P : Program} {w : World} {ops : Array Oper} {rest : List Oper} {o : Oper} {a : Act} {Q : Exit → Act → World → Prop} (hgd : o.guard = none) (s x : Operand) (t : TypeId)
    (ho : o.op = .call { callee := .builtin .append, args := #[s, x], argTypes := #[t, t] })
    {base : Nat} {e : TypeId} {i : TypeInfo} {z : Value} {size bytes : Nat} (ht : P.underlying t = some (.slice e)) (hi : P.info? e = some i) (hz : i.zero = some z)
    (hsize : i.size = size) (hby : i.bytes = bytes) (hzs : z.cells.size = size) (hsz : 0 < size) (hzz : ∀ x ∈ z.cells.toList, Z x)
    {v : Value} {n : Nat} {xs : List Value} (hs : a.eval s = v) (hown : w.ownsRow base e size v n xs) (hsp : SprY Z w v (n * size)) {us : Array Value} {c : Nat}
    (hx : a.eval x = .slice (some ⟨w.heap.size, 0, none⟩) 1 c) (hl : us.size = size)
    (h : ∀ v' w', w'.ownsRow base e size v' (n + 1) (xs ++ us.toList) → SprY Z w' v' ((n + 1) * size) → w.grownBy w' v.ownBlock → NzY Z w w' → (v'.ownBlock = v.ownBlock ∨ v'.ownBlock = some (w.heap.size + 1)) → wpList P ops Q rest (a.put o.dst v') w')
    (h1 : ∀ u ∈ us.toList, u.oneCell' = true) (h63 : n + 1 ≤ maxLen) (hbytes : (n + 1) * bytes ≤ 140737488355328) (hbase : base ≤ w.heap.size) :
    wpList P ops Q (o :: rest) a (w.alloc (.cells us e)) := by
  have hgA : w.grownBy (w.alloc (.cells us e)) v.ownBlock := ⟨rfl, rfl, rfl, by simp, fun k hk _ => Below.heap_alloc w _ k hk⟩
  have hnA : NzY Z w (w.alloc (.cells us e)) := fun b u hu _ => by
    rw [World.cell?_of_block (w := w) (Below.heap_alloc w _ b.block (World.block_lt_of_cell? w b hu))]
    exact hu
  have hspA : SprY Z (w.alloc (.cells us e)) v (n * size) := by
    intro g hg j u hj hu
    refine hsp g hg j u hj ?_
    rw [← World.cell?_of_block (w := w) (w' := w.alloc (.cells us e)) (a := ⟨g, j, none⟩) (Below.heap_alloc w _ g (hown.lt g hg).2)]
    exact hu
  refine wpList_plain hgd fun K hK => ?_
  obtain ⟨v', w', hr, h2, h3, h4, h5, h6⟩ := run_append_zeroY (P := P) (w.alloc (.cells us e)) base t o.type e i z size bytes ht hi hz hsize hby hzs hsz hzz v n xs (hown.alloc _) hspA ⟨w.heap.size, 0, none⟩ 1 c us.toList (by simpa using hl)
    (fun j u hu => by
      have ha : (⟨w.heap.size, 0, none⟩ : Addr).add j = ⟨w.heap.size, j, none⟩ := by unfold Addr.add; split <;> simp_all
      rw [ha, cell_inY (heap_alloc_new w _), ← Array.getElem?_toList]
      exact hu) h1 h63 hbytes (by simp; omega)
  unfold Oper.wp execOp
  simp only [ho, resolve, invoke, builtin, Sem.run_bind, Sem.run_pure, Result.andThen_ok, List.map_toArray, List.map_cons, List.map_nil, hs, hx, hr]
  exact hK _ _ (h v' w' h2 h3 (hgA.trans h4) (hnA.trans h5) (by simpa using h6))
/-- 'append(v, x...)': v is a slice of the call's own with room of one kind alone -/
theorem wpList_pushAllY {Z : Value → Prop} {P : Program} {w : World} {ops : Array Oper} {rest : List Oper} {o : Oper} {a : Act} {Q : Exit → Act → World → Prop} (hgd : o.guard = none) (s x : Operand) (t : TypeId)
    (ho : o.op = .call { callee := .builtin .append, args := #[s, x], argTypes := #[t, t] })
    {base : Nat} {e : TypeId} {i : TypeInfo} {z : Value} {bytes : Nat} (ht : P.underlying t = some (.slice e)) (hi : P.info? e = some i) (hz : i.zero = some z)
    (hsize : i.size = 1) (hby : i.bytes = bytes) (hzs : z.cells.size = 1) (hzz : ∀ x ∈ z.cells.toList, Z x)
    {v : Value} {n : Nat} {xs : List Value} (hs : a.eval s = v) (hown : w.ownsRow base e 1 v n xs) (hsp : SprY Z w v n) {B m c : Nat} {A : Option Addr} {news : List Value}
    (hx : a.eval x = .slice A m c) (hnil : A = none → c = 0) (hr : Sl w B A m news)
    (h : ∀ v' w', w'.ownsRow base e 1 v' (n + m) (xs ++ news) → SprY Z w' v' (n + m) → w.grownBy w' v.ownBlock → NzY Z w w' → wpList P ops Q rest (a.put o.dst v') w')
    (h1 : ∀ u ∈ news, u.oneCell' = true) (h63 : n + m ≤ maxLen) (hbytes : (n + m) * bytes ≤ 140737488355328) (hbase : base ≤ w.heap.size) :
    wpList P ops Q (o :: rest) a w := by
  rcases A with _ | ad
  · obtain rfl := hnil rfl
    have hm : m = 0 := by
      rcases Nat.eq_zero_or_pos m with h0 | h0
      · exact h0
      · obtain ⟨_, _, hA, _⟩ := hr.2 h0; cases hA
    subst hm
    obtain rfl : news = [] := List.eq_nil_of_length_eq_zero hr.1
    exact wpList_append_own_none hgd s x t ho base e i 1 ht hi v n xs hs hown hx (h v w (by simpa using hown) hsp ⟨rfl, rfl, rfl, Nat.le_refl _, fun _ _ _ => rfl⟩ fun _ _ h _ => h)
  · have hcells : ∀ j u, news[j]? = some u → w.cell? (ad.add j) = some u := by
      intro j u hu
      rcases Nat.eq_zero_or_pos m with h0 | h0
      · subst h0
        obtain rfl : news = [] := List.eq_nil_of_length_eq_zero hr.1
        simp at hu
      · obtain ⟨b, o, hA, _, hc⟩ := hr.2 h0
        injection hA with hA
        subst hA
        have ha : (⟨b, o, none⟩ : Addr).add j = ⟨b, o + j, none⟩ := by unfold Addr.add; split <;> simp_all
        rw [ha]
        exact hc j u hu
    refine wpList_plain hgd fun K hK => ?_
    obtain ⟨v', w', hr2, h2, h3, h4, h5, h6⟩ := run_append_zeroY (P := P) (Z := Z) w base t o.type e i z 1 bytes ht hi hz hsize hby hzs (by omega) hzz v n xs hown (by rwa [Nat.mul_one]) ad m c news (by simpa using hr.1) hcells h1 h63 hbytes hbase
    unfold Oper.wp execOp
    simp only [ho, resolve, invoke, builtin, Sem.run_bind, Sem.run_pure, Result.andThen_ok, List.map_toArray, List.map_cons, List.map_nil, hs, hx, hr2]
    exact hK _ _ (h v' w' h2 (by rwa [Nat.mul_one] at h3) h4 h5)
/-- 'append(v, x...)' in a region that draws its order -/
theorem step_append_Y {Z : Value → Prop} {P : Program} {w : World} {ops : Array Oper} {o : Oper} {a : Act} {K : Act → World → Prop} {Q : Exit → Act → World → Prop} {E : Prop} (hgd : o.guard = none) (s x : Operand) (t : TypeId)
    (ho : o.op = .call { callee := .builtin .append, args := #[s, x], argTypes := #[t, t] })
    (base : Nat) (e : TypeId) (i : TypeInfo) (z : Value) (size bytes : Nat) (ht : P.underlying t = some (.slice e)) (hi : P.info? e = some i) (hz : i.zero = some z)
    (hsize : i.size = size) (hby : i.bytes = bytes) (hzs : z.cells.size = size) (hsz : 0 < size) (hzz : ∀ x ∈ z.cells.toList, Z x)
    (v : Value) (n : Nat) (xs : List Value) (hs : a.eval s = v) (hown : w.ownsRow base e size v n xs) (hsp : SprY Z w v (n * size))
    (ad : Addr) (m c : Nat) (news : List Value) (hx : a.eval x = .slice (some ad) m c) (hl : news.length = m * size) (hnews : ∀ j u, news[j]? = some u → w.cell? (ad.add j) = some u) (h1 : ∀ u ∈ news, u.oneCell' = true)
    (h63 : n + m ≤ maxLen) (hbytes : (n + m) * bytes ≤ 140737488355328) (hbase : base ≤ w.heap.size)
    (h : ∀ v' w', w'.ownsRow base e size v' (n + m) (xs ++ news) → SprY Z w' v' ((n + m) * size) → w.grownBy w' v.ownBlock → NzY Z w w' → K (a.put o.dst v') w') :
    if Region.wanted o (yielded ops a.tmps) = true then Oper.wp P o a w K Q else E := by
  have hw : Region.wanted o (yielded ops a.tmps) = true := by simp [Region.wanted, hgd]
  rw [if_pos hw]
  obtain ⟨v', w', hr, h2, h3, h4, h5, h6⟩ := run_append_zeroY (P := P) (Z := Z) w base t o.type e i z size bytes ht hi hz hsize hby hzs hsz hzz v n xs hown hsp ad m c news hl hnews h1 h63 hbytes hbase
  unfold Oper.wp execOp
  simp only [ho, resolve, invoke, builtin, Sem.run_bind, Sem.run_pure, Result.andThen_ok, List.map_toArray, List.map_cons, List.map_nil, hs, hx, hr]
  exact h v' w' h2 h3 h4 h5
theorem SprY.below {Z : Value → Prop} {w w' : World} {base n size k : Nat} {e : TypeId} {v : Value} {xs : List Value} (h : SprY Z w v k) (ho : w.ownsRow base e size v n xs) (hb : Below w.heap.size w w') : SprY Z w' v k := by
  intro g hg i u hi hu
  refine h g hg i u hi ?_
  rw [← World.cell?_of_block (w := w) (w' := w') (a := ⟨g, i, none⟩) (hb.block g (ho.lt g hg).2)]
  exact hu
theorem SprY.fresh {Z : Value → Prop} (w : World) (cs : Array Value) (e : TypeId) {n c b : Nat} (hb : w.heap.size = b) (hn : cs.size = n) : SprY Z (w.alloc (.cells cs e)) (.slice (some ⟨b, 0, none⟩) n c) n := by
  subst hb hn
  intro g hg i u hi hu
  simp only [Value.ownBlock, Option.some.injEq] at hg
  subst hg
  rw [cell_inY (heap_alloc_new w _), Array.getElem?_eq_none hi] at hu
  cases hu
theorem grown_low {w w' : World} {base n size : Nat} {e : TypeId} {v : Value} {xs : List Value} {B : Nat} {w0 : World} (h : w.ownsRow base e size v n xs) (hg : w.grownBy w' v.ownBlock) (hb : Below B w0 w) (hB : B ≤ base) (hs : B ≤ w.heap.size) : Below B w0 w' :=
  hb.trans ⟨hg.os, hg.tape, hg.output, hg.size, fun k hk => hg.block k (by omega) fun e1 => by have := (h.lt k e1.symm).1; omega⟩
/-- blocks of another type are let be by what grows a row -/
theorem grown_elseY {w w' : World} {base n size : Nat} {e : TypeId} {v : Value} {xs : List Value} (hg : w.grownBy w' v.ownBlock) (h : w.ownsRow base e size v n xs) {g : Nat} {o : Array Value} {ty : TypeId} (hh : w.heap[g]? = some (.cells o ty (0, 0))) (hne : ty ≠ e) : w'.heap[g]? = some (.cells o ty (0, 0)) := by
  refine (hg.block g ?_ fun e1 => ?_).trans hh
  · rcases Nat.lt_or_ge g w.heap.size with h1 | h1
    · exact h1
    · rw [Array.getElem?_eq_none h1] at hh; cases hh
  · obtain ⟨_, h1 | ⟨b, cap, cur, hv, _, hb, _⟩⟩ := h
    · rw [h1.1] at e1; simp [Value.ownBlock] at e1
    · rw [hv] at e1
      simp [Value.ownBlock] at e1
      subst e1
      rw [hh] at hb
      simp at hb
      exact hne hb.2
/-- a row is let be by what is stored to a block of another type -/
theorem own_elseY {w w' : World} {base n size : Nat} {e : TypeId} {v : Value} {xs : List Value} (h : w.ownsRow base e size v n xs) {g : Nat} {o : Array Value} {ty : TypeId} (hh : w.heap[g]? = some (.cells o ty (0, 0))) (hne : ty ≠ e) (hS : ∀ k, k ≠ g → w'.heap[k]? = w.heap[k]?) : w'.ownsRow base e size v n xs ∧ (∀ {Z : Value → Prop} {k : Nat}, SprY Z w v k → SprY Z w' v k) := by
  obtain ⟨hl, h1 | ⟨b, cap, cur, hv, hb, hbk, r⟩⟩ := h
  · refine ⟨⟨hl, .inl h1⟩, fun hz g' hg' => ?_⟩
    rw [h1.1] at hg'; simp [Value.ownBlock] at hg'
  · have hne2 : b ≠ g := by
      intro h9
      subst h9
      rw [hh] at hbk
      simp at hbk
      exact hne hbk.2
    refine ⟨⟨hl, .inr ⟨b, cap, cur, hv, hb, (hS b hne2).trans hbk, r⟩⟩, fun hz g' hg' i u hi hu => ?_⟩
    have e1 : g' = b := by rw [hv] at hg'; simp [Value.ownBlock] at hg'; exact hg'.symm
    refine hz g' hg' i u hi ?_
    rw [← World.cell?_of_block (w := w) (w' := w') (a := ⟨g', i, none⟩) (hS g' (by omega))]
    exact hu
end Fb
