/- Kinds of one cell: a slice's block, cell by cell: an append in place, an append of zeros, a clear; what is a list of one's own behind these. -/
import Derived.Lib.AppendZerosOnto
import Derived.Lib.SliceRun
import Derived.Lib.Overlaps
import Derived.Test.YtokbmimbbeedcaaGreatDoorKN1
import Derived.Test.YtokbmimbbeedcaaGreatDoorKS3
namespace Go.Proofs.YtokbmimbbeedcaaGreatDoor
open Go Go.RowKit Sm

theorem splice_end {β : Type} (L cs : List β) (o k : Nat) (hk : k = o + cs.length) (ho : o ≤ L.length) : (splice L o cs).take k = L.take o ++ cs := by
  subst hk
  unfold splice
  rw [← List.append_assoc, List.take_append_of_le_length (by simp; omega)]
  exact List.take_of_length_le (by simp; omega)
theorem splice_pre {β : Type} (L cs : List β) (o k : Nat) (hk : k ≤ o) (ho : o ≤ L.length) : (splice L o cs).take k = L.take k := by
  unfold splice
  rw [List.take_append_of_le_length (by simp; omega), List.take_take, Nat.min_eq_left hk]
theorem splice_mid {β : Type} (L cs : List β) (o k : Nat) (hk : o + cs.length ≤ k) (hl : k ≤ L.length) : (splice L o cs).take k = L.take o ++ cs ++ (L.take k).drop (o + cs.length) := by
  unfold splice
  rw [← List.append_assoc, List.take_append, List.take_of_length_le (by simp; omega)]
  congr 1
  rw [List.drop_take]
  congr 1
  simp
  omega
theorem splice_len {β : Type} (L cs : List β) (o : Nat) (h : o + cs.length ≤ L.length) : (splice L o cs).length = L.length := by
  unfold splice
  simp
  omega
theorem splice_aft {β : Type} (L cs : List β) (o k : Nat) (hk : o + cs.length ≤ k) (ho : o ≤ L.length) : (splice L o cs)[k]? = L[k]? := by
  unfold splice
  have hl : (L.take o).length = o := by rw [List.length_take]; omega
  rw [List.getElem?_append_right (by omega), List.getElem?_append_right (by omega), List.getElem?_drop, hl]
  congr 1
  omega
theorem drop_get {β : Type} {L : List β} {n j k : Nat} {v : β} (h : ((L.take n).drop j)[k]? = some v) : L[j + k]? = some v := by
  rw [List.getElem?_drop, List.getElem?_take] at h
  split at h
  · exact h
  · cases h
section
variable {α : Type} {E : El α}
def BlkE (E : El α) (w : World) (g : Nat) (cur : List Value) : Prop := w.heap[g]? = some (.cells cur.toArray E.ty (0, 0))
theorem cells1_take (h1 : E.z = 1) : ∀ (L : List α) (i : Nat), elCells E (L.take i) = (elCells E L).take i
  | [], i => by simp [elCells]
  | _ :: _, 0 => by simp [elCells]
  | x :: r, i + 1 => by
    have ih := cells1_take h1 r i
    have hx := E.len x
    rw [h1] at hx
    match he : E.enc x, hx with
    | [y], _ =>
      simp only [elCells, List.take_succ_cons, List.flatMap_cons, he, List.singleton_append] at ih ⊢
      rw [ih]
theorem cells1_drop (h1 : E.z = 1) : ∀ (L : List α) (i : Nat), elCells E (L.drop i) = (elCells E L).drop i
  | [], i => by simp [elCells]
  | _ :: _, 0 => by simp [elCells]
  | x :: r, i + 1 => by
    have ih := cells1_drop h1 r i
    have hx := E.len x
    rw [h1] at hx
    match he : E.enc x, hx with
    | [y], _ =>
      simp only [elCells, List.drop_succ_cons, List.flatMap_cons, he, List.singleton_append] at ih ⊢
      rw [ih]
theorem cells1_len (h1 : E.z = 1) (L : List α) : (elCells E L).length = L.length := by rw [elCells_len, h1, Nat.mul_one]
theorem OwnE.blk (h1 : E.z = 1) {w : World} {B : Nat} {v : Value} {L : List α} (h : OwnE E w B v L) (hL : 0 < L.length) : ∃ g c cur, v = .slice (some ⟨g, 0, none⟩) L.length c ∧ B ≤ g ∧ BlkE E w g cur ∧ L.length ≤ c ∧ c ≤ maxLen ∧ cur.length = c ∧ cur.take L.length = elCells E L := by
  obtain ⟨-, h2⟩ := h
  rcases h2 with ⟨-, h0⟩ | ⟨g, cap, cur, rfl, hg, hh, hn, hc, hs, ht⟩
  · omega
  · rw [h1, Nat.mul_one] at hs ht
    exact ⟨g, cap, cur.toList, rfl, hg, by unfold BlkE; simpa using hh, hn, hc, by simpa using hs, ht⟩
theorem OwnE.of_blk (h1 : E.z = 1) {w : World} {B g c : Nat} {cur : List Value} {L : List α} {n : Nat} (hn : n = L.length) (hB : B ≤ g) (hb : BlkE E w g cur) (hc : cur.length = c) (hm : c ≤ maxLen) (hl : L.length ≤ c) (ht : cur.take L.length = elCells E L) : OwnE E w B (.slice (some ⟨g, 0, none⟩) n c) L := by
  subst hn
  refine ⟨elCells_len E L, .inr ⟨g, c, cur.toArray, rfl, hB, hb, hl, hm, by rw [h1, Nat.mul_one]; simpa using hc, by rw [h1, Nat.mul_one]; simpa using ht⟩⟩
theorem OwnE.pre {w : World} {B g n c : Nat} {L : List α} (h : OwnE E w B (.slice (some ⟨g, 0, none⟩) n c) L) (i : Nat) (hi : i ≤ L.length) (h1 : E.z = 1) : OwnE E w B (.slice (some ⟨g, 0, none⟩) i c) (L.take i) := by
  obtain ⟨hl, h2⟩ := h
  have hli : (L.take i).length = i := by rw [List.length_take]; omega
  rcases h2 with ⟨e, -⟩ | ⟨g', cap, cur, e, hg, hh, hn, hc, hs, ht⟩
  · cases e
  · cases e
    refine ⟨elCells_len E _, .inr ⟨g, c, cur, by rw [hli], hg, hh, by rw [hli]; omega, hc, hs, ?_⟩⟩
    rw [hli, cells1_take h1, ← ht, h1, Nat.mul_one, Nat.mul_one, List.take_take]
    congr 1
    omega
theorem BlkE.turned {F : Nat → Prop} {w w' : World} {g : Nat} {cur : List Value} (h : BlkE E w g cur) (ht : Turned F w w') (hF : ¬ F g) : BlkE E w' g cur := ht.heap h hF
theorem BlkE.cell {w : World} {g : Nat} {cur : List Value} (h : BlkE E w g cur) (o : Nat) : w.cell? ⟨g, o, none⟩ = cur[o]? := cell_whole h o
/-- What stands from a place on. -/
theorem BlkE.from {w : World} {g : Nat} {cur : List Value} (h : BlkE E w g cur) (o : Nat) (cs : List Value) (hc : ∀ j v, cs[j]? = some v → cur[o + j]? = some v) : ∀ j v, cs[j]? = some v → w.cell? ((⟨g, o, none⟩ : Addr).add j) = some v := fun j v hj => by
  have e : (⟨g, o, none⟩ : Addr).add j = ⟨g, o + j, none⟩ := by
    unfold Addr.add
    split
    · rename_i h0; subst h0; rfl
    · rfl
  rw [e, h.cell]
  exact hc j v hj

variable {ops : Array Oper} {rest : List Oper} {o : Oper} {a : Act} {Q : Exit → Act → World → Prop} {w : World}
theorem wpList_append_in (E : El α) (sl : TypeId) (hsl : E.sl = sl) (h1 : E.z = 1) (hgd : o.guard = none) (s x : Operand) (ho : o.op = .call { callee := .builtin .append, args := #[s, x], argTypes := #[sl, sl] })
    (pp : Option Addr) (n c : Nat) (hs : a.eval s = .slice pp n c) (g : Nat) (cur : List Value) (hp : pp = some ⟨g, 0, none⟩) (hb : BlkE E w g cur) (M : List α) (q : Option Addr) (cq m nk : Nat) (hx : a.eval x = .slice q m cq) (hm : M.length = m) (hnk : n + m = nk) (hM : Els E w q M) (hfit : n + m ≤ cur.length) (hroom : n + m ≤ c)
    (h : ∀ w', BlkE E w' g (splice cur n (elCells E M)) → Turned (· = g) w w' → wpList Tryz.prog ops Q rest (a.put o.dst (.slice (some ⟨g, 0, none⟩) nk c)) w') : wpList Tryz.prog ops Q (o :: rest) a w := by
  subst hnk hm hsl hp
  obtain ⟨i0, hi0, hz0, hz1, hz2⟩ := info_parts E.info
  by_cases hne : M = []
  · subst hne
    refine wpList_plain hgd fun K hK => ?_
    have hu := E.under
    have hrun : (Builtin.append_ #[E.sl, E.sl] o.type #[.slice (some ⟨g, 0, none⟩) n c, .slice q 0 cq]).run Tryz.prog w = .ok (.slice (some ⟨g, 0, none⟩) n c) w := by
      have hle : n ≤ c := by omega
      cases q <;> simp [Builtin.append_, run_underlying hu, sizeOf, typeInfo, hi0, Builtin.lenOf, Builtin.firstCells, loadCells, loadCellsFrom, hle, storeCells]
    unfold Oper.wp execOp
    simp only [List.length_nil] at hx
    simp only [ho, resolve, invoke, builtin, Sem.run_bind, Sem.run_pure, Result.andThen_ok, List.map_toArray, List.map_cons, List.map_nil, hs, hx, hrun]
    exact hK _ _ (h w (by rw [show elCells E ([] : List α) = [] from rfl, splice_nil]; exact hb) (Turned.refl _ _))
  · obtain ⟨b, o', rfl, -⟩ := hM hne
    refine wpList_plain hgd fun K hK => ?_
    have hl := cells1_len h1 M
    have hrun := run_append_room (P := Tryz.prog) w E.sl o.type E.ty i0 E.under hi0 g n c cur.toArray hb ⟨b, o', none⟩ M.length cq (elCells E M) (by rw [hz1, h1, hl, Nat.mul_one]) (hM.news _ rfl) (elCells_one E M) hroom (by rw [hz1, h1, hl, Nat.mul_one]; simpa using hfit)
    unfold Oper.wp execOp
    simp only [ho, resolve, invoke, builtin, Sem.run_bind, Sem.run_pure, Result.andThen_ok, List.map_toArray, List.map_cons, List.map_nil, hs, hx, hrun]
    refine hK _ _ (h _ ?_ (turned_setRow (F := (· = g)) (Turned.refl _ _) rfl _))
    have := setRow_heap w g _ (cur.toArray.toList.take (n * i0.size) ++ elCells E M ++ cur.toArray.toList.drop (n * i0.size + (elCells E M).length)).toArray E.ty (0, 0) hb
    unfold BlkE
    rw [this, hz1, h1, Nat.mul_one]
    simp [splice]
theorem wpList_clear_blk (E : El α) (sl : TypeId) (hsl : E.sl = sl) (_h1 : E.z = 1) (hzc : E.zero.cells = #[E.zero]) (ho1 : E.zero.oneCell' = true) (hgd : o.guard = none) (s : Operand) (ho : o.op = .call { callee := .builtin .clear, args := #[s], argTypes := #[sl] })
    (pp : Option Addr) (n c : Nat) (hs : a.eval s = .slice pp n c) (g f : Nat) (cur : List Value) (hp : 0 < n → pp = some ⟨g, f, none⟩) (hb : BlkE E w g cur) (hfit : f + n ≤ cur.length)
    (h : ∀ w', BlkE E w' g (splice cur f (List.replicate n E.zero)) → Turned (· = g) w w' → wpList Tryz.prog ops Q rest (a.put o.dst (.tuple #[])) w') : wpList Tryz.prog ops Q (o :: rest) a w := by
  subst hsl
  obtain ⟨i0, hi0, hz0, hz1, hz2⟩ := info_parts E.info
  have hu := E.under
  have hzv : ∀ w : World, (zeroValue E.ty).run Tryz.prog w = .ok E.zero w := fun w => by simp [zeroValue, typeInfo, hi0, hz0]
  refine wpList_plain hgd fun K hK => ?_
  by_cases hn : n = 0
  · subst hn
    have hrun : (Builtin.clear_ #[E.sl] o.type #[.slice pp 0 c]).run Tryz.prog w = .ok (.tuple #[]) w := by cases pp <;> simp [Builtin.clear_, run_underlying hu]
    unfold Oper.wp execOp
    simp only [ho, resolve, invoke, builtin, Sem.run_bind, Sem.run_pure, Result.andThen_ok, List.map_toArray, List.map_cons, List.map_nil, hs, hrun]
    exact hK _ _ (h w (by rw [List.replicate_zero, splice_nil]; exact hb) (Turned.refl _ _))
  · obtain rfl := hp (by omega)
    have hrun := Go.Lib.run_clear_slice (P := Tryz.prog) w E.sl E.ty o.type E.zero E.under hzv hzc ho1 g f n c (by omega) (fun j hj => by rw [hb.cell]; simp; omega) (fun j _ => frozen_whole hb _)
    unfold Oper.wp execOp
    simp only [ho, resolve, invoke, builtin, Sem.run_bind, Sem.run_pure, Result.andThen_ok, List.map_toArray, List.map_cons, List.map_nil, hs, hrun]
    refine hK _ _ (h _ ?_ ((Turned.refl (· = g) w).setCells f _ rfl))
    have := heap_setCells_same g E.ty (0, 0) (List.replicate n E.zero) f w cur hb (by rw [List.length_replicate]; exact hfit)
    exact this
theorem wpList_zeros_onto (E : El α) (sl : TypeId) (hsl : E.sl = sl) (h1 : E.z = 1) (hzc : E.zero.cells = #[E.zero]) (hgd : o.guard = none) (s x : Operand) (tn : TypeId) (htn : Tryz.prog.underlying tn = some (.int .i64)) (ho : o.op = .call { callee := .builtin .append, args := #[s, x], argTypes := #[sl, tn] })
    (pp : Option Addr) (n c : Nat) (hs : a.eval s = .slice pp n c) (z : Int) (hx : a.eval x = .int .i64 z) (g : Nat) (cur : List Value) (hp : pp = some ⟨g, 0, none⟩) (hb : BlkE E w g cur) (hfit : n ≤ cur.length) (k nk : Nat) (hz : z = k) (hnk : n + k = nk) (h0 : 0 < k) (hc : c < n + k) (hbig : n + k ≤ 1000000)
    (h : ∀ w' c' cur', BlkE E w' w.heap.size cur' → cur'.length = c' → nk ≤ c' → c' ≤ maxLen → cur'.take n = cur.take n → Below w.heap.size w w' → wpList Tryz.prog ops Q rest (a.put o.dst (.slice (some ⟨w.heap.size, 0, none⟩) nk c')) w') : wpList Tryz.prog ops Q (o :: rest) a w := by
  subst hsl hp hz hnk
  obtain ⟨i0, hi0, hz0, hz1, hz2⟩ := info_parts E.info
  have hfew := E.few
  have hb63 : (n + k) * E.bytes ≤ 140737488355328 := Nat.le_trans (Nat.mul_le_mul_left _ hfew) (by omega)
  have hk63 : k * E.bytes ≤ (n + k) * E.bytes := Nat.mul_le_mul_right _ (by omega)
  have hlt : (cur.take n).length = n := by rw [List.length_take]; omega
  have hold : (Builtin.firstCells i0.size n (.slice (some ⟨g, 0, none⟩) n c)).run Tryz.prog w.drew = .ok (cur.take n).toArray w.drew :=
    run_firstCells_some (P := Tryz.prog) w.drew i0.size n ⟨g, 0, none⟩ n c (cur.take n) (by rw [hlt, hz1, h1, Nat.mul_one]) (fun j u hj => by
      have hj' : cur[0 + j]? = some u := by
        rw [List.getElem?_take] at hj
        split at hj
        · rw [Nat.zero_add]; exact hj
        · cases hj
      have hb' : BlkE E w.drew g cur := hb
      exact hb'.from 0 (cur.take n) (fun j v hv => by
        rw [List.getElem?_take] at hv
        split at hv
        · rw [Nat.zero_add]; exact hv
        · cases hv) j u hj)
  have hrun := Go.Lib.run_append_grow_zeros (P := Tryz.prog) w E.sl tn o.type E.ty i0 E.zero .i64 .i64 E.under htn hi0 hz0 (some ⟨g, 0, none⟩) n c (cur.take n) hold k h0 (by rw [hz1, h1]; decide) hc (by omega) (by rw [hz2]; omega) (by rw [hz2]; exact growslice_fits hc hb63)
  have hge := grownCap_ge w (n + k) c E.ty
  have hmx := grownCap_le_maxLen w (n + k) c E.ty (by unfold maxLen; omega)
  refine wpList_plain hgd fun K hK => ?_
  unfold Oper.wp execOp
  simp only [ho, resolve, invoke, builtin, Sem.run_bind, Sem.run_pure, Result.andThen_ok, List.map_toArray, List.map_cons, List.map_nil, hs, hx, hrun]
  generalize grownCap w (n + k) c E.ty = C at hge hmx ⊢
  obtain ⟨cs, hcs⟩ : ∃ cs : Array Value, (cur.take n).toArray ++ Builtin.zeroCells E.zero.cells k ++ Builtin.zeroCells E.zero.cells (C - (n + k)) = cs := ⟨_, rfl⟩
  rw [hcs]
  refine hK _ _ (h _ C cs.toList ?_ ?_ hge hmx ?_ (below_al (Below.refl w.heap.size w).drew _))
  · exact heap_alloc_new w.drew (.cells cs E.ty)
  · rw [← hcs]
    simp only [Array.length_toList, Array.size_append, size_zeroCells, hzc, List.size_toArray, hlt]
    show n + k * 1 + (C - (n + k)) * 1 = C
    omega
  · rw [← hcs]
    simp only [Array.toList_append, List.append_assoc]
    rw [List.take_append_of_le_length (by simp [hlt])]
    exact List.take_of_length_le (by simp [hlt])
end
end Go.Proofs.YtokbmimbbeedcaaGreatDoor
