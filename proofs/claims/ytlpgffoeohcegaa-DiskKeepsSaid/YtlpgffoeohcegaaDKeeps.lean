/- DiskKeeps: what was synced is read behind any crash, but where something else was written then. -/
import Derived.Test.YtlpgffoeohcegaaDE
import Derived.Deep.RegionHeld3
import Derived.Deep.DrawnRows
namespace Go.Proofs.Ytlpgffoeohcegaa
open Go.RowKit
attribute [local go_sem ↓] Go.wp_at_zero Go.wp_at_succ

/-- What holds ahead of each round of the first loop. -/
def K1 (B d kb sb : Nat) (w : World) (k : Nat) (w' : World) : Prop := ∃ v D, DiskAt w' d kb sb v D ∧ From B d kb sb v ∧ Below B w w' ∧ D.kept.length = 8 ∧ D.uns.length ≤ k ∧ D.ops ≤ k

theorem wr_kept (D : Dk) {n : Nat} (h : D.kept.length = n) (i : Int) (s : List UInt8) : (D.wr i s).kept.length = n := by
  unfold Dk.wr; split <;> exact h
theorem wr_uns (D : Dk) {n : Nat} (h : D.uns.length ≤ n) (i : Int) (s : List UInt8) : (D.wr i s).uns.length ≤ n + 1 := by
  unfold Dk.wr; split
  · simp [Dk.write]; exact h
  · omega
theorem wr_ops (D : Dk) {n : Nat} (h : D.ops ≤ n) (i : Int) (s : List UInt8) : (D.wr i s).ops ≤ n + 1 := by
  unfold Dk.wr; split
  · simp [Dk.write]; exact h
  · omega

theorem K1_step {B d kb sb : Nat} {v : Value} {D : Dk} {w wr : World} {k : Nat} (hD : DiskAt wr d kb sb v D) (hF : From B d kb sb v) (hB : Below B w wr) (hl : D.kept.length = 8) (hu : D.uns.length ≤ k) (ho : D.ops ≤ k) (hk : k < 1000000) {W : World} (ht : Turned (fun _ => False) wr W) (i : Int) (s : List UInt8) (hs : B ≤ w.heap.size := by exact Nat.le_refl _) :
    Calls Try.prog 19 #[.pointer (some ⟨d, 0, none⟩), .int .i64 i, .string ⟨s.toArray⟩] W fun e w' => (∃ r, e = .returned (.int .i64 r)) ∧ K1 B d kb sb w (k + 1) w' ∧ Below B w w' := by
  have hD' : DiskAt W d kb sb v D := hD.kept' ht (fun _ => False.elim)
  have hB' : Below B w W := hB.trans (ht.toBelow (Nat.le_trans hs hB.size) fun _ _ => False.elim)
  refine (wr_any hD' i s (by omega) (by omega)).mono ?_
  rintro e w2 ⟨rfl, v2, hD2, hT2, hv2⟩
  exact ⟨⟨_, rfl⟩, ⟨v2, _, hD2, hF.next (Nat.le_trans hs hB'.size) hv2, hF.below hB' hs hT2, wr_kept D hl _ _, wr_uns D hu _ _, wr_ops D ho _ _⟩, hF.below hB' hs hT2⟩

def strs (l : List (List UInt8)) : List Value := l.map fun s => .string ⟨s.toArray⟩
/-- The array of what was read: the first k sectors. -/
def wasCells (E : Dk) (k : Nat) : List Value := strs (E.seen.take k) ++ List.replicate (8 - k) (.string ⟨#[]⟩)
theorem length_was (E : Dk) (h : E.seen.length = 8) {k : Nat} (hk : k ≤ 8) : (wasCells E k).length = 8 := by simp [wasCells, strs, h]; omega
theorem was_set (E : Dk) (h : E.seen.length = 8) {k : Nat} (hk : k < 8) {s : List UInt8} (hs : E.seen[k]? = some s) : (wasCells E k).set k (.string ⟨s.toArray⟩) = wasCells E (k + 1) := by
  have hl : (strs (E.seen.take k)).length = k := by simp [strs, h]; omega
  have e1 : E.seen.take (k + 1) = E.seen.take k ++ [s] := by rw [List.take_add_one, hs]; rfl
  have e2 : 8 - k = (8 - (k + 1)) + 1 := by omega
  unfold wasCells
  rw [List.set_append_right _ _ (by omega), hl, Nat.sub_self, e1, e2, List.replicate_succ, List.set_cons_zero]
  simp [strs]
theorem below_al' {B : Nat} {w x : World} (h : Below B w x) (o : Obj) (hB : B ≤ w.heap.size := by exact Nat.le_refl _) : Below B w (x.alloc o) := h.alloc (Nat.le_trans hB h.size) o

/-- What holds ahead of each round of the second loop. -/
def W2 (w : World) (d kb sb : Nat) (v : Value) (E : Dk) (wb k : Nat) (w' : World) : Prop := DiskAt w' d kb sb v E ∧ Below w.heap.size w w' ∧ w'.heap[wb]? = some (.cells (wasCells E k).toArray 50 (0, 0))

theorem W2_start {w w2 : World} {d kb sb : Nat} {v : Value} {E : Dk} (hD : DiskAt w2 d kb sb v E) (hB : Below w.heap.size w w2) : W2 w d kb sb v E w2.heap.size 0 (w2.alloc (.cells (wasCells E 0).toArray 50)) :=
  ⟨hD.kept' (F := fun _ => False) ((Turned.refl _ w2).alloc _) (fun _ => False.elim), below_al' hB _, by rw [heap_alloc_if, if_pos rfl]⟩

theorem W2_eight {w w' : World} {d kb sb : Nat} {v : Value} {E : Dk} {wb k : Nat} (h : W2 w d kb sb v E wb k w') (hk : k = 8) : W2 w d kb sb v E wb 8 w' := hk ▸ h

theorem W2_read {w wr : World} {d kb sb : Nat} {v : Value} {E : Dk} {wb k : Nat} (h : W2 w d kb sb v E wb k wr) (hl : E.seen.length = 8) (hk : k < 8) :
    Calls Try.prog 17 #[.pointer (some ⟨d, 0, none⟩), .int .i64 k] wr fun e w3 => ∃ s : List UInt8, e = .returned (.tuple #[.string ⟨s.toArray⟩, .int .i64 0]) ∧ E.seen[k]? = some s ∧ W2 w d kb sb v E wb k w3
      ∧ w3.cell? ⟨wb, k, none⟩ = some (.string ⟨#[]⟩) ∧ w3.frozen? ⟨wb, k, none⟩ = false := by
  obtain ⟨hD, hB, hw⟩ := h
  have hs : E.seen[k]? = some E.seen[k] := List.getElem?_eq_getElem (by omega)
  refine (read_any hD k _ hs).mono ?_
  rintro e w3 ⟨rfl, hb⟩
  have hw3 := (hb.block _ (lt_of_heap hw)).trans hw
  refine ⟨_, rfl, hs, ⟨hD.kept' (F := fun _ => False) (Turned.new hb) (fun _ => False.elim), hB.trans (hb.mono hB.size), hw3⟩, ?_, frozen_whole hw3 k⟩
  rw [cell_whole hw3 k]
  have hl' : (strs (E.seen.take k)).length = k := by simp [strs, hl]; omega
  rw [wasCells, List.getElem?_append_right (by omega), hl', Nat.sub_self, List.getElem?_replicate, if_pos (by omega)]

theorem W2_next {w w3 : World} {d kb sb : Nat} {v : Value} {E : Dk} {wb k : Nat} {s : List UInt8} (h : W2 w d kb sb v E wb k w3) (hs : E.seen[k]? = some s) (hl : E.seen.length = 8) (hk : k < 8) (hf : ∀ j, Foot d kb sb v j → j < wb) (hB : w.heap.size ≤ wb := by omega) :
    W2 w d kb sb v E wb (k + 1) (w3.setCell ⟨wb, k, none⟩ (.string ⟨s.toArray⟩)) := by
  obtain ⟨hD, hB', hw⟩ := h
  have hT : Turned (fun j => j = wb) w3 (w3.setCell ⟨wb, k, none⟩ (.string ⟨s.toArray⟩)) := Turned.setCell (F := fun j => j = wb) (p := ⟨wb, k, none⟩) (Turned.refl _ w3) rfl _
  refine ⟨hD.kept' hT fun j hj hfj => by subst hj; exact absurd (hf _ hfj) (Nat.lt_irrefl _), hB'.trans (hT.toBelow hB'.size fun j _ hj => by subst hj; exact hB), ?_⟩
  rw [heap_setCell_at hw]
  simp only [List.setIfInBounds_toArray]
  rw [was_set E hl hk hs]

def bools (M : List Bool) : List Value := M.map .bool
structure Rel (E D : Dk) (M : List Bool) (j : Nat) : Prop where
  k8 : D.kept.length = 8
  m8 : M.length = 8
  few : D.uns.length ≤ j
  ops : D.ops ≤ 81 + j
  met : ∀ x ∈ D.uns, M[x.1]? = some true
  same : ∀ i : Nat, M[i]? = some false → D.seen[i]? = E.seen[i]?

/-- What holds ahead of each round of the third loop. -/
def K3 (w : World) (d kb sb : Nat) (E : Dk) (wb mb j : Nat) (w' : World) : Prop := ∃ v D M, DiskAt w' d kb sb v D ∧ From w.heap.size d kb sb v ∧ Below w.heap.size w w' ∧ w'.heap[wb]? = some (.cells (wasCells E 8).toArray 50 (0, 0))
  ∧ w'.heap[mb]? = some (.cells (bools M).toArray 51 (0, 0)) ∧ Rel E D M j ∧ ∀ f, Foot d kb sb v f → f ≠ wb ∧ f ≠ mb

theorem K3_below {w w' : World} {d kb sb : Nat} {E : Dk} {wb mb j : Nat} (h : K3 w d kb sb E wb mb j w') : Below w.heap.size w w' := by
  obtain ⟨v, D, M, -, -, hB, -⟩ := h
  exact hB

theorem K3_start {w wr : World} {d kb sb : Nat} {v : Value} {E : Dk} {wb : Nat} (h : W2 w d kb sb v E wb 8 wr) (hF : From w.heap.size d kb sb v) (hE : E.uns = [] ∧ E.kept.length = 8 ∧ E.ops ≤ 81) (hl : E.seen.length = 8) (hf : ∀ j, Foot d kb sb v j → j < wb) :
    K3 w d kb sb E wb wr.heap.size 0 (wr.alloc (.cells (bools (List.replicate 8 false)).toArray 51)) := by
  obtain ⟨hD, hB, hw⟩ := h
  have hlt := lt_of_heap hw
  refine ⟨v, E, List.replicate 8 false, hD.kept' (F := fun _ => False) ((Turned.refl _ wr).alloc _) (fun _ => False.elim), hF, below_al' hB _, ?_, by rw [heap_alloc_if, if_pos rfl], ⟨hE.2.1, rfl, by rw [hE.1]; exact Nat.zero_le _, hE.2.2, by rw [hE.1]; exact (fun x hx => nomatch hx), fun _ _ => rfl⟩, fun f hf' => ?_⟩
  · rw [heap_alloc_if, if_neg (by omega)]; exact hw
  · have := hf f hf'
    have := hD.flt hf'
    omega

theorem K3_cell {w w' : World} {d kb sb : Nat} {E : Dk} {wb mb j m : Nat} (h : K3 w d kb sb E wb mb j w') (hm : m < 8) : ∃ y, w'.cell? ⟨mb, m, none⟩ = some (.bool y) ∧ w'.frozen? ⟨mb, m, none⟩ = false := by
  obtain ⟨v, D, M, hD, hF, hB, hw, hM, hR, hf⟩ := h
  refine ⟨M[m]'(by rw [hR.m8]; exact hm), ?_, frozen_whole hM m⟩
  rw [cell_whole hM m]
  simp [bools, hR.m8, hm]

/-- Behind the store: m is met. -/
def K3m (w : World) (d kb sb : Nat) (E : Dk) (wb mb j m : Nat) (w' : World) : Prop := ∃ v D M, DiskAt w' d kb sb v D ∧ From w.heap.size d kb sb v ∧ Below w.heap.size w w' ∧ w'.heap[wb]? = some (.cells (wasCells E 8).toArray 50 (0, 0))
  ∧ w'.heap[mb]? = some (.cells (bools M).toArray 51 (0, 0)) ∧ Rel E D M j ∧ (∀ f, Foot d kb sb v f → f ≠ wb ∧ f ≠ mb) ∧ M[m]? = some true

theorem K3_met {w w' : World} {d kb sb : Nat} {E : Dk} {wb mb j m : Nat} (h : K3 w d kb sb E wb mb j w') (hm : m < 8) (hb : w.heap.size ≤ wb) (hwm : wb < mb) : K3m w d kb sb E wb mb j m (w'.setCell ⟨mb, m, none⟩ (.bool true)) := by
  obtain ⟨v, D, M, hD, hF, hB, hw, hM, hR, hf⟩ := h
  have hT : Turned (fun j => j = mb) w' (w'.setCell ⟨mb, m, none⟩ (.bool true)) := Turned.setCell (F := fun j => j = mb) (p := ⟨mb, m, none⟩) (Turned.refl _ w') rfl _
  have hl := hR.m8
  refine ⟨v, D, M.set m true, hD.kept' hT (fun j hj hfj => (hf j hfj).2 hj), hF, hB.trans (hT.toBelow hB.size fun j _ hj => by omega), hT.heap hw (by omega), ?_, ⟨hR.k8, by simp [hl], hR.few, hR.ops, fun x hx => ?_, fun i hi => ?_⟩, hf, by simp [hl, hm]⟩
  · rw [heap_setCell_at hM]
    simp [bools, List.map_set]
  · have := hR.met x hx
    rw [List.getElem?_set]
    split
    · rename_i h; subst h; simp [hl, hm]
    · exact this
  · refine hR.same i ?_
    rw [List.getElem?_set] at hi
    split at hi
    · rename_i h; subst h; simp [hl, hm] at hi
    · exact hi

theorem K3_write {w w' : World} {d kb sb : Nat} {E : Dk} {wb mb j m : Nat} (h : K3m w d kb sb E wb mb j m w') (hj : j < 20) (hm : m < 8) (hb : w.heap.size ≤ wb) (hwm : wb < mb) :
    Calls Try.prog 19 #[.pointer (some ⟨d, 0, none⟩), .int .i64 m, .string ⟨#[110, 101, 119]⟩] w' fun e w2 => (∃ r, e = .returned (.int .i64 r)) ∧ K3 w d kb sb E wb mb (j + 1) w2 := by
  obtain ⟨v, D, M, hD, hF, hB, hw, hM, hR, hf, hmt⟩ := h
  have hfew := hR.few
  have hops := hR.ops
  refine (write_any hD m [110, 101, 119] (by rw [hR.k8]; exact hm) (by decide) (by omega) (by omega)).mono ?_
  rintro e w2 ⟨rfl, v2, hD2, hT2, hv2⟩
  have hwl := lt_of_heap hw
  have hml := lt_of_heap hM
  refine ⟨⟨_, rfl⟩, v2, _, M, hD2, hF.next hB.size hv2, hF.below hB (Nat.le_refl _) hT2, hT2.heap hw (fun hh => (hf _ hh).1 rfl), hT2.heap hM (fun hh => (hf _ hh).2 rfl), ⟨hR.k8, hR.m8, by simp [Dk.write]; omega, by simp [Dk.write]; omega, fun x hx => ?_, fun i hi => ?_⟩, fun f hf' => ?_⟩
  · rcases List.mem_append.1 hx with hx | hx
    · exact hR.met x hx
    · obtain rfl := List.mem_singleton.1 hx
      exact hmt
  · show (D.seen.set m _)[i]? = _
    rw [List.getElem?_set_ne (by rintro rfl; rw [hmt] at hi; cases hi)]
    exact hR.same i hi
  · rcases hf' with rfl | rfl | rfl | hk
    · exact hf _ (.inl rfl)
    · exact hf _ (.inr (.inl rfl))
    · exact hf _ (.inr (.inr (.inl rfl)))
    · rcases hv2 with hv2 | hv2
      · exact hf _ (.inr (.inr (.inr (by rw [← hv2]; exact hk))))
      · have := hv2 _ hk
        omega

/-- Behind the crash. -/
def K4 (w : World) (d kb sb : Nat) (E : Dk) (wb mb : Nat) (v : Value) (D : Dk) (M : List Bool) (w' : World) : Prop := DiskAt w' d kb sb v D ∧ Below w.heap.size w w' ∧ w'.heap[wb]? = some (.cells (wasCells E 8).toArray 50 (0, 0))
  ∧ w'.heap[mb]? = some (.cells (bools M).toArray 51 (0, 0)) ∧ M.length = 8 ∧ D.seen.length = 8 ∧ ∀ i : Nat, M[i]? = some false → D.seen[i]? = E.seen[i]?

theorem cut_any (p : Option Addr) (n cap : Nat) (w : World) (h : n ≤ cap) (hc : cap ≤ 9223372036854775807) : Calls Try.prog 23 #[.slice p n cap] w fun e w' => e = .returned (.slice p (min n 80) cap) ∧ w = w' := by
  go_enter Try.func23, Try.ntmps23
  go_wp2
  case inl h => go_ret; exact ⟨congrArg (fun x => Ending.returned (Value.slice p x cap)) (by omega), rfl⟩
  case inr => go_ret; exact ⟨congrArg (fun x => Ending.returned (Value.slice p x cap)) (by omega), rfl⟩

theorem fallAll_get (kept : List (List UInt8)) (i : Nat) : ∀ (l : List (Nat × List UInt8)) (seen : List (List UInt8)), (∀ x ∈ l, x.1 ≠ i) → (fallAll kept seen l)[i]? = seen[i]?
  | [], seen, _ => rfl
  | x :: l, seen, h => by
    show (fallAll kept (seen.set x.1 _) l)[i]? = _
    rw [fallAll_get kept i l _ fun y hy => h y (List.mem_cons_of_mem _ hy), List.getElem?_set_ne (h x List.mem_cons_self)]

theorem K3_crash {w w' : World} {d kb sb : Nat} {E : Dk} {wb mb j : Nat} {p : Option Addr} {zs : List Int} {cap : Nat} (h : K3 w d kb sb E wb mb j w') (hz : Ints w p zs) (hp : ∀ a, p = some a → a.block < w.heap.size) (hj : j ≤ 20) (hl : zs.length ≤ 9223372036854775807) (hb : w.heap.size ≤ wb) (hwm : wb < mb) :
    Calls Try.prog 21 #[.pointer (some ⟨d, 0, none⟩), .slice p (min zs.length 80) cap] w' fun e w2 => (∃ r, e = .returned (.int .i64 r)) ∧ ∃ v D M, K4 w d kb sb E wb mb v D M w2 := by
  obtain ⟨v, D, M, hD, hF, hB, hw, hM, hR, hf⟩ := h
  have hlen : (zs.take 80).length = min zs.length 80 := by rw [List.length_take, Nat.min_comm]
  have hz' : Ints w' p (zs.take 80) := fun hne => by
    obtain ⟨b, off, rfl, hc⟩ := hz (by rintro rfl; exact hne rfl)
    refine ⟨b, off, rfl, fun i hi => ?_⟩
    rw [hlen] at hi
    rw [World.cell?_of_block (w := w) (hB.block b (hp _ rfl)), hc i (by omega)]
    simp only [List.getD, List.getElem?_take]
    rw [if_pos (by omega)]
  have hap : Apart w' d kb sb v p := fun b off e => ⟨Nat.lt_of_lt_of_le (hp _ e) hB.size, fun hh => by have := hF _ hh; have := hp _ e; simp only at this; omega⟩
  have hseen : D.seen.length = 8 := hD.ok.len.trans hR.k8
  have hsame : ∀ {w2 : World}, Below w'.heap.size w' w2 → K4 w d kb sb E wb mb v D M w2 := fun {w2} hb2 =>
    ⟨hD.kept' (F := fun _ => False) (Turned.new hb2) (fun _ => False.elim), hB.trans (hb2.mono hB.size), (hb2.block _ (lt_of_heap hw)).trans hw, (hb2.block _ (lt_of_heap hM)).trans hM, hR.m8, hseen, hR.same⟩
  rw [← hlen]
  by_cases h1 : D.uns.length < (zs.take 80).length
  · refine (crash_more hD p (zs.take 80) cap (by rw [hlen]; omega) h1).mono ?_
    rintro e w2 ⟨rfl, hb2⟩
    exact ⟨⟨_, rfl⟩, v, D, M, hsame hb2⟩
  · by_cases h2 : allIn 0 64 (zs.take 80) = true
    · refine (crash_any hD p (zs.take 80) cap (by omega) hz' hap h2).mono ?_
      rintro e w2 ⟨rfl, v2, hD2, hT2, hv2⟩
      refine ⟨⟨_, rfl⟩, v2, _, M, hD2, hF.below hB (Nat.le_refl _) hT2, hT2.heap hw (fun hh => (hf _ hh).1 rfl), hT2.heap hM (fun hh => (hf _ hh).2 rfl), hR.m8, by simp [Dk.crash, length_fallAll, hseen], fun i hi => ?_⟩
      show (fallAll _ D.seen D.uns)[i]? = _
      rw [fallAll_get _ i D.uns D.seen fun x hx e => by have := hR.met x hx; rw [e, hi] at this; cases this]
      exact hR.same i hi
    · refine (crash_wrong hD p (zs.take 80) cap (by omega) hz' hap (by simpa using h2)).mono ?_
      rintro e w2 ⟨rfl, hb2⟩
      exact ⟨⟨_, rfl⟩, v, D, M, hsame hb2⟩

theorem K4_read {w wr : World} {d kb sb : Nat} {v : Value} {E D : Dk} {M : List Bool} {wb mb k : Nat} (h : K4 w d kb sb E wb mb v D M wr) (hl : E.seen.length = 8) (hk : k < 8) :
    Calls Try.prog 17 #[.pointer (some ⟨d, 0, none⟩), .int .i64 k] wr fun e w3 => ∃ (s s' : List UInt8) (y : Bool), e = .returned (.tuple #[.string ⟨s.toArray⟩, .int .i64 0]) ∧ K4 w d kb sb E wb mb v D M w3
      ∧ w3.cell? ⟨wb, k, none⟩ = some (.string ⟨s'.toArray⟩) ∧ w3.cell? ⟨mb, k, none⟩ = some (.bool y) ∧ (y = false → s = s') := by
  obtain ⟨hD, hB, hw, hM, hm, hs8, hs⟩ := h
  have e1 : D.seen[k]? = some D.seen[k] := List.getElem?_eq_getElem (by omega)
  have e2 : E.seen[k]? = some E.seen[k] := List.getElem?_eq_getElem (by omega)
  have e3 : M[k]? = some M[k] := List.getElem?_eq_getElem (by omega)
  refine (read_any hD k _ e1).mono ?_
  rintro e w3 ⟨rfl, hb⟩
  have hw3 := (hb.block _ (lt_of_heap hw)).trans hw
  have hM3 := (hb.block _ (lt_of_heap hM)).trans hM
  refine ⟨_, E.seen[k], M[k], rfl, ⟨hD.kept' (F := fun _ => False) (Turned.new hb) (fun _ => False.elim), hB.trans (hb.mono hB.size), hw3, hM3, hm, hs8, hs⟩, ?_, ?_, fun hf => ?_⟩
  · rw [cell_whole hw3 k]
    simp [wasCells, strs, hl, hk]
  · rw [cell_whole hM3 k]
    simp [bools, hm, hk]
  · have := hs k (by rw [e3, hf])
    rw [e1, e2] at this
    exact Option.some.inj this

theorem mod8 (t : Int) : ∃ m : Nat, IntKind.i64.wrap ((IntKind.u64.wrap t).tmod 8) = (m : Int) ∧ m < 8 := by
  have h0 : 0 ≤ IntKind.u64.wrap t := by simp [IntKind.wrap, IntKind.bits, IntKind.signed]; omega
  generalize IntKind.u64.wrap t = u at h0 ⊢
  have h1 : u.tmod 8 = u % 8 := Int.tmod_eq_emod_of_nonneg h0
  refine ⟨(u % 8).toNat, ?_, by omega⟩
  rw [h1, Int.toNat_of_nonneg (by omega)]
  simp [IntKind.wrap, IntKind.bits, IntKind.signed]
  omega

set_option maxHeartbeats 2000000 in
set_option maxRecDepth 100000 in
theorem keeps_any (p : Option Addr) (l : List A) (lc : Nat) (q : Option Addr) (ts : List Int) (tc : Nat) (r : Option Addr) (zs : List Int) (zc : Nat) (w : World)
    (hA : Acts w p l) (hT : Ints w q ts) (hZ : Ints w r zs) (hp : ∀ a, p = some a → a.block < w.heap.size) (hq : ∀ a, q = some a → a.block < w.heap.size) (hr : ∀ a, r = some a → a.block < w.heap.size)
    (ll : l.length ≤ 9223372036854775807) (tl : ts.length ≤ 9223372036854775807) (zl : zs.length ≤ 9223372036854775807) (zlc : zs.length ≤ zc) (zc9 : zc ≤ 9223372036854775807) :
    Calls Try.prog 5 #[.slice p l.length lc, .slice q ts.length tc, .slice r zs.length zc] w fun e w' => e = .returned (.bool true) ∧ Below w.heap.size w w' := by
  have HA := Lib.hid hA
  have HT := Lib.hid hT
  have HZ := Lib.hid hZ
  have HP := Lib.hid hp
  have HQ := Lib.hid hq
  have HR := Lib.hid hr
  clear hA hT hZ hp hq hr
  go_enter Try.func5, Try.ntmps5
  go_wp2_with fail
  refine (shown_any w).mono ?_
  rintro e w0 ⟨rfl, hb0⟩
  go_wp2_with fail
  refine (new_any 8 (by omega) (by omega) w0).mono ?_
  rintro e w1 ⟨d, kb, sb, rfl, hD1, hb1, hd, hk, hsb⟩
  have HK := Lib.hid (show K1 w.heap.size d kb sb w 0 w1 from ⟨_, _, hD1, From.new (Nat.le_trans hb0.size hd) (Nat.le_trans hb0.size hk) (Nat.le_trans hb0.size hsb), hb0.trans (hb1.mono hb0.size), by simp [Dk.new], by simp [Dk.new], by simp [Dk.new]⟩)
  clear hD1 hb1 hb0 hd hk hsb
  go_wp2_with fail
  go_loopw [10] (fun i w' => ∃ k : Nat, k ≤ l.length ∧ k ≤ 80 ∧ i = .int .i64 k ∧ K1 w.heap.size d kb sb w k w') (fun i _ => 80 - (intOf i).toNat)
  case atStart => exact ⟨0, Nat.zero_le _, Nat.zero_le _, rfl, HK.out⟩
  case round i wr =>
    obtain ⟨k, hk, hk8, rfl, v, D, hD, hF, hB, hl8, hu8, ho8⟩ := hrel
    have PD := Lib.hid hD
    have PF := Lib.hid hF
    have PB := Lib.hid hB
    have PL := Lib.hid hl8
    clear hD hF hB hl8 HK
    by_cases hin : k < l.length ∧ k < 80
    · obtain ⟨h1, h2⟩ := hin
      obtain ⟨b, off, rfl, hc⟩ := HA.out (by intro h; simp [h] at h1)
      have hbl := HP.out _ rfl
      have hc' := hc k l[k] (List.getElem?_eq_getElem h1)
      generalize l[k] = x at hc'
      have e : ∀ o, wr.cell? ⟨b, o, none⟩ = w.cell? ⟨b, o, none⟩ := fun o => World.cell?_of_block (PB.out.block b hbl)
      rw [← e, ← e, ← e, ← e] at hc'
      obtain ⟨hxs, hc0, hc1, hc2, hc3⟩ := hc'
      have HBL := Lib.hid hbl
      clear e hc hc3 hbl
      have XS := Lib.hid hxs
      clear hxs
      go_wp2_with fail
      · clear hc0
        have ST : ∀ w', Below w.heap.size w w' → (w'.cell? ⟨b, off + k * 4 + 1, none⟩ = some (.int .i64 x.sec) ∧ w'.cell? ⟨b, off + k * 4 + 2, none⟩ = some (.string x.s)) := fun w' ht =>
          have e' : ∀ o, w'.cell? ⟨b, o, none⟩ = wr.cell? ⟨b, o, none⟩ := fun o => World.cell?_of_block ((ht.block b HBL.out).trans (PB.out.block b HBL.out).symm)
          ⟨(e' _).trans hc1, (e' _).trans hc2⟩
        have SR : Turned (fun _ => False) wr wr := Turned.refl _ _
        have CW := Lib.hid fun (w' : World) (ht : Turned (fun _ => False) wr w') => K1_step PD.out PF.out PB.out PL.out hu8 ho8 (by omega) ht x.sec (x.s.data.toList.take 70)
        have ST' := Lib.hid ST
        clear ST
        go_region_held3 (fun w' => w'.cell? ⟨b, off + k * 4 + 1, none⟩ = some (.int .i64 x.sec) ∧ w'.cell? ⟨b, off + k * 4 + 2, none⟩ = some (.string x.s) ∧ Below w.heap.size w w') (refine ⟨(ST'.out _ ?_).1, (ST'.out _ ?_).2, ?_⟩ <;> first | assumption | exact PB.out | exact PB.out.drew) (first | (go_at_call 22; refine (text_any x.s _ XS.out).mono ?_; rintro e w2 ⟨rfl, rfl⟩) | (go_at_call 19; refine (CW.out _ SR.drew).mono ?_; rintro e w2 ⟨⟨r, rfl⟩, hk2, hb2⟩))
        go_wp2_with fail
        go_roundw
        case rel => exact ⟨k + 1, by omega, by omega, by go_num, hk2⟩
        case measure => simp [intOf]; omega
      · go_roundw
        case rel => exact ⟨k + 1, by omega, by omega, by go_num, v, D, PD.out, PF.out, PB.out, PL.out, by omega, by omega⟩
        case measure => simp [intOf]; omega
    have hend : (¬ k < l.length) ∨ (k < l.length ∧ ¬ k < 80) := by omega
    clear hin
    rcases hend with h1 | ⟨h1, h2⟩
    all_goals
      go_wp2_with fail
      refine (sync_any PD.out (by omega)).mono ?_
      rintro e w2 ⟨rfl, v2, hD2, hT2, hv2⟩
      have hB2 := PF.out.below PB.out (Nat.le_refl _) hT2
      have hF2 := PF.out.next PB.out.size hv2
      have hE : D.sync.uns = [] ∧ D.sync.kept.length = 8 ∧ D.sync.ops ≤ 81 := ⟨rfl, by simp [Dk.sync, length_keepAll]; exact PL.out, by simp [Dk.sync]; omega⟩
      generalize D.sync = E at hD2 hE
      have QD := Lib.hid hD2
      have QF := Lib.hid hF2
      have QB := Lib.hid hB2
      have QE := Lib.hid hE
      have hlen : E.seen.length = 8 := hD2.ok.len.trans hE.2.1
      have hlt : ∀ j, Foot d kb sb v2 j → j < w2.heap.size := fun j hj => hD2.flt hj
      have KL := Lib.hid hlt
      have QL := Lib.hid hlen
      clear hD2 hF2 hB2 hE hT2 hv2 PD PF PB PL hu8 ho8 hlt hlen
      have L2 := Lib.hid (W2_start QD.out QB.out)
      go_wp2_with fail
      go_loopw [13] (fun i w' => ∃ k : Nat, k ≤ 8 ∧ i = .int .i64 k ∧ W2 w d kb sb v2 E w2.heap.size k w') (fun i _ => 8 - (intOf i).toNat)
      case atStart => exact ⟨0, Nat.zero_le _, rfl, L2.out⟩
      case round i wr =>
        obtain ⟨k, hk, rfl, hW2⟩ := hrel
        have P2 := Lib.hid hW2
        clear hW2 L2
        by_cases h8 : k < 8
        · have R := Lib.hid (W2_read P2.out QL.out h8)
          go_wp2_with fail
          refine R.out.mono ?_
          rintro e w3 ⟨s, rfl, hs, hW3, hc, hz⟩
          have P3 := Lib.hid (W2_next hW3 hs QL.out h8 KL.out QB.out.size)
          clear hW3 hs
          go_wp2_with fail
          go_roundw
          case rel => exact ⟨k + 1, by omega, by go_num, P3.out⟩
          case measure => simp [intOf]; omega
        · have P3 := Lib.hid (W2_eight P2.out (show k = 8 by omega))
          clear P2
          obtain ⟨u3, rfl⟩ : ∃ u3, u3 = wr := ⟨wr, rfl⟩
          have L3 := Lib.hid (K3_start P3.out QF.out QE.out QL.out KL.out)
          have WB : w2.heap.size < u3.heap.size := lt_of_heap P3.out.2.2
          have BB : w.heap.size ≤ w2.heap.size := QB.out.size
          clear P3
          go_wp2_with fail
          go_loopw [17, 18] (fun i _ w' => ∃ k : Nat, k ≤ ts.length ∧ k ≤ 20 ∧ i = .int .i64 k ∧ K3 w d kb sb E w2.heap.size u3.heap.size k w') (fun i _ _ => 20 - (intOf i).toNat)
          case atStart => exact ⟨0, Nat.zero_le _, Nat.zero_le _, rfl, L3.out⟩
          case round =>
            obtain ⟨k, hk, hk2, rfl, hK⟩ := hrel
            have P3 := Lib.hid hK
            clear hK L3
            by_cases hin : k < ts.length ∧ k < 20
            · obtain ⟨h1, h2⟩ := hin
              obtain ⟨b, off, rfl, hc⟩ := HT.out (by intro h; simp [h] at h1)
              have hbl := HQ.out _ rfl
              have hc' := hc k h1
              obtain ⟨m, hm, hm8⟩ := mod8 (ts.getD k 0)
              generalize ts.getD k 0 = t at hc' hm
              have e : ∀ o, wr.cell? ⟨b, o, none⟩ = w.cell? ⟨b, o, none⟩ := fun o => World.cell?_of_block (K3_below P3.out |>.block b hbl)
              rw [← e] at hc'
              clear e hc hbl
              obtain ⟨y, hy, hz⟩ := K3_cell P3.out hm8
              have P4 := Lib.hid (K3_met P3.out hm8 BB WB)
              clear P3
              go_wp2_with fail
              refine (K3_write P4.out h2 hm8 BB WB).mono ?_
              rintro e w4 ⟨⟨r, rfl⟩, hK⟩
              have P5 := Lib.hid hK
              clear hK
              go_wp2_with fail
              go_roundw
              case rel => exact ⟨k + 1, by omega, by omega, by go_num, P5.out⟩
              case measure => simp [intOf]; omega
            have hend : (¬ k < ts.length) ∨ (k < ts.length ∧ ¬ k < 20) := by omega
            clear hin
            rcases hend with h1 | ⟨h1, h2⟩
            all_goals
              go_wp2_with fail
              refine (cut_any r zs.length zc wr zlc zc9).mono ?_
              rintro e w4 ⟨rfl, rfl⟩
              go_wp2_with fail
              refine (K3_crash P3.out HZ.out HR.out (by omega) zl BB WB).mono ?_
              rintro e w4 ⟨⟨r4, rfl⟩, v4, D4, M, hK⟩
              have P4 := Lib.hid hK
              clear hK P3
              go_wp2_with fail
              go_loopw [19] (fun i w' => ∃ k : Nat, k ≤ 8 ∧ i = .int .i64 k ∧ K4 w d kb sb E w2.heap.size u3.heap.size v4 D4 M w') (fun i _ => 8 - (intOf i).toNat)
              case atStart => exact ⟨0, Nat.zero_le _, rfl, P4.out⟩
              case round =>
                obtain ⟨k, hk, rfl, hK⟩ := hrel
                have P5 := Lib.hid hK
                clear hK P4
                by_cases h8 : k < 8
                · have R := Lib.hid (K4_read P5.out QL.out h8)
                  clear P5
                  go_wp2_with fail
                  refine R.out.mono ?_
                  rintro e w5 ⟨s, s', y, rfl, hK, hc1, hc2, hs⟩
                  have P6 := Lib.hid hK
                  clear hK
                  cases y with
                  | true =>
                    clear hs R
                    go_wp2_with fail
                    go_roundw
                    case rel => exact ⟨k + 1, by omega, by go_num, P6.out⟩
                    case measure => simp [intOf]; omega
                  | false =>
                    obtain rfl := hs rfl
                    clear hs R
                    go_wp2_with fail
                    go_roundw
                    case rel => exact ⟨k + 1, by omega, by go_num, P6.out⟩
                    case measure => simp [intOf]; omega
                · go_wp2_with fail
                  go_ret
                  exact ⟨rfl, P5.out.2.1⟩
end Go.Proofs.Ytlpgffoeohcegaa
