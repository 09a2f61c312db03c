/- Goods, by the program: each and its iterator, cut, first. -/
import Derived.Test.YtbbfmddechpnjaaDoorKI0
import Derived.Test.YtbbfmddechpnjaaDoorKI4
import Derived.Test.YtbbfmddechpnjaaDoorKO1
import Derived.Test.YtbbfmddechpnjaaDoorKS3
namespace Go.Proofs.YtbbfmddechpnjaaDoor
open Go Go.RowKit Sm
attribute [local go_sem] Oper.semAt_some

theorem calls_roundG {P : Program} {f : FuncId} {args : Array Value} {w : World} {R : Ending → World → Prop} {l m : Nat} (h : Calls P f args w R) :
    Fence.wide.fn f ∧ (Fence.wide.depth.isSome = true → 1 ≤ m) ∧ CallsIn (Fence.wide.inRound l) (m - 1) P f args w R := by
  refine ⟨trivial, fun hd => by simp [Fence.wide] at hd, ?_⟩
  have h' := (callsIn_wide (n := m - 1)).2 h
  refine ⟨trivial, fun cs hr => ?_⟩
  obtain ⟨e, w2, fr, hR, hs, hf⟩ := h'.2 cs (room_wide _)
  exact ⟨e, w2, fr, hR, hs, hf⟩
theorem packG {w : World} {g : Nat} {a0 a1 : Value} {t : TypeId} (h : w.heap[g]? = some (.cells #[a0, a1] t (0, 0))) :
    (w.cell? ⟨g, 0, none⟩ = some a0 ∧ w.cell? ⟨g, 1, none⟩ = some a1) ∧ (w.frozen? ⟨g, 0, none⟩ = false ∧ w.frozen? ⟨g, 1, none⟩ = false) := by
  have h' : w.heap[g]? = some (.cells [a0, a1].toArray t (0, 0)) := h
  exact ⟨⟨cell_whole h' 0, cell_whole h' 1⟩, frozen_whole h _, frozen_whole h _⟩
section
variable {α : Type} {E : El α}
theorem els_old {w : World} {p : Option Addr} {L : List α} (h : Els E w p L) (hL : L ≠ []) : ∀ a, p = some a → a.block < w.heap.size := by
  obtain ⟨b, o, rfl, hr⟩ := h hL
  intro a ha
  cases ha
  have h0 := hr 0 0 (by cases L with | nil => exact absurd rfl hL | cons => simp) E.pos
  have h2 : 0 < (E.enc (L.getD 0 E.d)).length := by rw [E.len]; exact E.pos
  rw [List.getElem?_eq_getElem h2] at h0
  exact (World.block_lt_of_cell? w _ h0 :)
theorem Els.turned' {F : Nat → Prop} {w w' : World} {p : Option Addr} {L : List α} (h : Els E w p L) (ht : Turned F w w') (hF : L ≠ [] → ∀ a, p = some a → ¬ F a.block) : Els E w' p L := by
  by_cases hL : L = []
  · subst hL; exact Els.nil _ _
  · exact h.turned ht (hF hL)
theorem Els.booked' {B : Nat} {w w' : World} {p : Option Addr} {L : List α} (h : Els E w p L) (hb : Booked B w w') : Els E w' p L := h.cells fun _ _ _ _ _ hx => hb.cell6 hx
end

/-! ### The iterator -/
def handsG (L : List St) (k : Nat) : Array Value := #[.int .i64 k, .agg #[.int .u16 (L.getD k St.zero).item, .int .i64 (L.getD k St.zero).n]]
/-! ### first -/
theorem idx_at {α : Type} {so : α → Bool} {L : List α} {d : α} {k : Nat} (h : k < L.length) (ht : so (L.getD k d) = true) (hn : ∀ i, i < k → so (L.getD i d) = false) : L.findIdx so = k := by
  rw [List.findIdx_eq h]
  have e : ∀ j, (hj : j < L.length) → L.getD j d = L[j] := fun j hj => by simp [List.getD, hj]
  rw [e k h] at ht
  refine ⟨ht, fun j hj => ?_⟩
  have := hn j hj
  rwa [e j (by omega)] at this
theorem idx_none {α : Type} {so : α → Bool} {L : List α} {d : α} (hn : ∀ i, i < L.length → so (L.getD i d) = false) : L.findIdx so = L.length := by
  rw [List.findIdx_eq_length]
  intro x hx
  obtain ⟨i, hi, rfl⟩ := List.getElem_of_mem hx
  have := hn i hi
  rwa [show L.getD i d = L[i] by simp [List.getD, hi]] at this
section
variable {w : World} {B1 B2 B3 B4 : Nat} {p : Option Addr} {L : List St} {cap k : Nat} {F : Value} {s : St} {A A' : World}
end

end Go.Proofs.YtbbfmddechpnjaaDoor
