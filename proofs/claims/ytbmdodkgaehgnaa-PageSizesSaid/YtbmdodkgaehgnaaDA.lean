/- The walk of Crash. -/
import Derived.Test.YtbmdodkgaehgnaaD9
namespace Go.Proofs.Ytbmdodkgaehgnaa
open Go.RowKit
attribute [local go_sem] Oper.semAt_some

/-- The sectors that are read, those of the writes fallen back. -/
def fallAll (kept seen : List (List UInt8)) (l : List (Nat × List UInt8)) : List (List UInt8) := l.foldl (fun S x => S.set x.1 (kept.getD x.1 [])) seen
theorem fallAll_snoc (kept seen : List (List UInt8)) (l : List (Nat × List UInt8)) (x : Nat × List UInt8) : fallAll kept seen (l ++ [x]) = (fallAll kept seen l).set x.1 (kept.getD x.1 []) := by simp [fallAll]
theorem length_fallAll (kept : List (List UInt8)) (l : List (Nat × List UInt8)) : ∀ seen, (fallAll kept seen l).length = seen.length := by
  induction l with
  | nil => exact fun _ => rfl
  | cons x l ih => intro seen; show (fallAll kept _ l).length = _; rw [ih]; simp
theorem fallAll_64 (kept : List (List UInt8)) (hk : ∀ s ∈ kept, s.length = 64) (l : List (Nat × List UInt8)) (hl : ∀ x ∈ l, x.1 < kept.length) : ∀ seen : List (List UInt8), (∀ s ∈ seen, s.length = 64) → ∀ s ∈ fallAll kept seen l, s.length = 64 := by
  induction l with
  | nil => exact fun seen hs => hs
  | cons x l ih =>
    intro seen hs
    refine ih (fun y hy => hl y (List.mem_cons_of_mem _ hy)) _ ?_
    intro s hm
    rcases List.mem_or_eq_of_mem_set hm with hm | rfl
    · exact hs s hm
    · have := hl x List.mem_cons_self
      exact hk _ (by simp [List.getD, this])

def crashKept (D : Dk) (zs : List Int) : List (List UInt8) := keepAll D.kept (D.uns.zip (zs.map Int.toNat))
def Dk.crash (D : Dk) (zs : List Int) : Dk := { kept := crashKept D zs, seen := fallAll (crashKept D zs) D.seen D.uns, uns := [], ops := D.ops }

/-- The list of numbers lies apart from the disk. -/
def Apart (w : World) (d kb sb : Nat) (v : Value) (p : Option Addr) : Prop := ∀ b off, p = some ⟨b, off, none⟩ → b < w.heap.size ∧ ¬ Foot d kb sb v b

set_option maxRecDepth 10000 in
set_option maxHeartbeats 1000000 in
theorem crash_more {w : World} {d kb sb : Nat} {v : Value} {D : Dk} (h : DiskAt w d kb sb v D) (p : Option Addr) (zs : List Int) (cap : Nat) (hl : zs.length ≤ 9223372036854775807) (hm : D.uns.length < zs.length) :
    Calls Try.prog 48 #[.pointer (some ⟨d, 0, none⟩), .slice p zs.length cap] w fun e w' => e = .returned (.int .i64 2) ∧ Below w.heap.size w w' := by
  refine calls_of_wp_marks Try.func48 rfl ?_
  simp only [Try.ntmps48, List.size_toArray, List.length_cons, List.length_nil, Nat.reduceAdd, Nat.reduceSub, Array.replicate_succ, Array.replicate_zero, List.push_toArray, List.append_toArray, List.nil_append, List.cons_append]
  have hfew := h.ok.few
  have hdlt := h.dlt
  have hc2 := h.c2
  obtain ⟨q, qc, rfl⟩ : ∃ q qc, v = .slice q D.uns.length qc := by
    rcases h.uns.2 with ⟨h1, h2⟩ | ⟨g, cap, cur, h, _⟩
    · exact ⟨none, 0, by rw [h1, h2]⟩
    · exact ⟨_, _, h⟩
  clear h
  go_wp2
  go_step3
  go_wp2
  have e1 : ((w.alloc (.cells #[.pointer (some ⟨d, 0, none⟩)] 38)).alloc (.cells #[.slice p zs.length cap] 48)).drew.cell? ⟨w.heap.size, 0, none⟩ = some (.pointer (some ⟨d, 0, none⟩)) := by simp [go_sem]
  have e2 : ((w.alloc (.cells #[.pointer (some ⟨d, 0, none⟩)] 38)).alloc (.cells #[.slice p zs.length cap] 48)).drew.cell? ⟨w.heap.size + 1, 0, none⟩ = some (.slice p zs.length cap) := by simp [go_sem]
  have hb2 : Below w.heap.size w ((w.alloc (.cells #[.pointer (some ⟨d, 0, none⟩)] 38)).alloc (.cells #[.slice p zs.length cap] 48)).drew := (below_al (below_al (Below.refl _ _) _) _).drew
  have e3 := (hb2.cell (p := ⟨d, 2, none⟩) hdlt).trans hc2
  obtain ⟨W, hW⟩ : ∃ W, ((w.alloc (.cells #[.pointer (some ⟨d, 0, none⟩)] 38)).alloc (.cells #[.slice p zs.length cap] 48)).drew = W := ⟨_, rfl⟩
  refine region_tail 8 (by kernel_rfl) (by kernel_rfl) W hW ?_
  rw [hW] at e1 e2 e3 hb2
  clear hW hc2
  simp only [List.take_succ_cons, List.take_zero, List.drop_succ_cons, List.drop_zero]
  iterate 8 still_step
  refine wpStill_nil ?_
  go_wp2
  refine only_normal ?_
  go_wp2
  rw [Exit.noGoto_ret]
  exact leaves_none (results_tmp rfl _ _ _) ⟨rfl, hb2⟩

/-- A list reads as it did in a world in which its block lies as it lay. -/
theorem Ints.kept {w w' : World} {p : Option Addr} {zs : List Int} (h : Ints w p zs) (hb : ∀ b off, p = some ⟨b, off, none⟩ → w'.heap[b]? = w.heap[b]?) : Ints w' p zs := fun hz => by
  obtain ⟨b, off, hp, hc⟩ := h hz
  exact ⟨b, off, hp, fun i hi => by rw [World.cell?_of_block (w := w) (hb b off hp)]; exact hc i hi⟩

set_option maxRecDepth 10000 in
set_option maxHeartbeats 1000000 in
theorem crash_wrong {w : World} {d kb sb : Nat} {v : Value} {D : Dk} (h : DiskAt w d kb sb v D) (p : Option Addr) (zs : List Int) (cap : Nat) (hm : zs.length ≤ D.uns.length) (hz : Ints w p zs) (hp : Apart w d kb sb v p) (ha : allIn 0 64 zs = false) :
    Calls Try.prog 48 #[.pointer (some ⟨d, 0, none⟩), .slice p zs.length cap] w fun e w' => e = .returned (.int .i64 2) ∧ Below w.heap.size w w' := by
  refine calls_of_wp_marks Try.func48 rfl ?_
  simp only [Try.ntmps48, List.size_toArray, List.length_cons, List.length_nil, Nat.reduceAdd, Nat.reduceSub, Array.replicate_succ, Array.replicate_zero, List.push_toArray, List.append_toArray, List.nil_append, List.cons_append]
  have hfew := h.ok.few
  have hdlt := h.dlt
  have hc2 := h.c2
  obtain ⟨q, qc, rfl⟩ : ∃ q qc, v = .slice q D.uns.length qc := by
    rcases h.uns.2 with ⟨h1, h2⟩ | ⟨g, cap, cur, h, _⟩
    · exact ⟨none, 0, by rw [h1, h2]⟩
    · exact ⟨_, _, h⟩
  have HA := Lib.hid ha
  clear h ha
  go_wp2
  go_step3
  go_wp2
  have e1 : ((w.alloc (.cells #[.pointer (some ⟨d, 0, none⟩)] 38)).alloc (.cells #[.slice p zs.length cap] 48)).drew.cell? ⟨w.heap.size, 0, none⟩ = some (.pointer (some ⟨d, 0, none⟩)) := by simp [go_sem]
  have e2 : ((w.alloc (.cells #[.pointer (some ⟨d, 0, none⟩)] 38)).alloc (.cells #[.slice p zs.length cap] 48)).drew.cell? ⟨w.heap.size + 1, 0, none⟩ = some (.slice p zs.length cap) := by simp [go_sem]
  have hb2 : Below w.heap.size w ((w.alloc (.cells #[.pointer (some ⟨d, 0, none⟩)] 38)).alloc (.cells #[.slice p zs.length cap] 48)).drew := (below_al (below_al (Below.refl _ _) _) _).drew
  have e3 := (hb2.cell (p := ⟨d, 2, none⟩) hdlt).trans hc2
  have hz2 := hz.kept (fun b off he => hb2.block b (hp b off he).1)
  obtain ⟨W, hW⟩ : ∃ W, ((w.alloc (.cells #[.pointer (some ⟨d, 0, none⟩)] 38)).alloc (.cells #[.slice p zs.length cap] 48)).drew = W := ⟨_, rfl⟩
  refine region_tail 8 (by kernel_rfl) (by kernel_rfl) W hW ?_
  rw [hW] at e1 e2 e3 hb2 hz2
  have HZ := Lib.hid hz2
  clear hW hc2 hz2 hz
  simp only [List.take_succ_cons, List.take_zero, List.drop_succ_cons, List.drop_zero]
  iterate 8 still_step
  refine wpStill_nil ?_
  go_wp2
  refine only_normal ?_
  go_wp2_with (go_at_call 40; refine (within_any 0 64 p zs cap W HZ.out (by omega)).mono ?_; rintro e w3 ⟨rfl, rfl⟩; rw [HA.out])
  rw [Exit.noGoto_ret]
  exact leaves_none (results_tmp rfl _ _ _) ⟨rfl, hb2⟩
end Go.Proofs.Ytbmdodkgaehgnaa
