/- Goods: the document's own amount, Right, Count, Same. -/
import Derived.BigQuiet
import Derived.Test.YtbbfmddechpnjaaDoorKI0
namespace Go.Proofs.YtbbfmddechpnjaaDoor
open Go Go.RowKit Sm
attribute [local go_sem] Oper.semAt_some

theorem ret_boolG {a b : Bool} (h : a = b) : Ending.returned (.bool a) = Ending.returned (.bool b) := by rw [h]
theorem bg_drewN {B : Nat} {w w1 : World} (n : Nat) (h : Below B w w1) : Below B w (w1.drewN n) := ⟨h.os, h.tape, h.output, h.size, h.block⟩

theorem okAll_take (l : List St) (k : Nat) : (List.range (k + 1)).all (okAt l) = ((List.range k).all (okAt l) && okAt l k) := by
  rw [List.range_succ, List.all_append]
  simp
theorem okAll_out (l : List St) (k : Nat) (h : k < l.length) (hf : okAt l k = false) : rightG l = false := by
  unfold rightG
  rw [Bool.and_eq_false_iff]
  refine .inr ?_
  rw [List.all_eq_false]
  exact ⟨k, List.mem_range.2 h, by rw [hf]; decide⟩

end Go.Proofs.YtbbfmddechpnjaaDoor

/- Goods: the document's own Count, Same. -/
namespace Go.Proofs.YtbbfmddechpnjaaDoor
open Go Go.RowKit Sm
attribute [local go_sem] Oper.semAt_some

theorem drop_getD (l : List St) (k : Nat) (h : k < l.length) : l.drop k = l.getD k St.zero :: l.drop (k + 1) := by
  rw [List.drop_eq_getElem_cons h]
  simp [List.getD, h]
theorem take_nextS {a b : List St} {m : Nat} (h1 : m < a.length) (h2 : m < b.length) (h : a.take m = b.take m) (he : a.getD m St.zero = b.getD m St.zero) : a.take (m + 1) = b.take (m + 1) := by
  rw [List.take_add_one, List.take_add_one, h]
  have e1 : a[m]? = some (a.getD m St.zero) := by simp [List.getD, h1]
  have e2 : b[m]? = some (b.getD m St.zero) := by simp [List.getD, h2]
  rw [e1, e2, he]
/-- Are two goods the same? -/
def sameG (a b : List St) : Bool := decide (a.length = b.length) && (List.range a.length).all fun i => decide ((a.getD i St.zero).item = (b.getD i St.zero).item) && decide ((a.getD i St.zero).n = (b.getD i St.zero).n)
theorem sameG_iff (a b : List St) : sameG a b = true ↔ a = b := by
  unfold sameG
  constructor
  · intro h
    rw [Bool.and_eq_true, decide_eq_true_iff, List.all_eq_true] at h
    obtain ⟨h1, h2⟩ := h
    refine List.ext_getElem h1 fun i hi hi' => ?_
    have := h2 i (List.mem_range.2 hi)
    rw [Bool.and_eq_true, decide_eq_true_iff, decide_eq_true_iff] at this
    have e1 : a.getD i St.zero = a[i] := by simp [List.getD, hi]
    have e2 : b.getD i St.zero = b[i] := by simp [List.getD, hi']
    rw [e1, e2] at this
    obtain ⟨p, q⟩ := this
    cases ha : a[i]
    cases hb : b[i]
    rw [ha, hb] at p q
    dsimp only at p q
    rw [p, q]
  · rintro rfl
    simp
theorem St.apart {x y : St} (h : x ≠ y) : (x.item : Int) ≠ (y.item : Int) ∨ x.item = y.item ∧ x.n ≠ y.n := by
  obtain ⟨a, b⟩ := x
  obtain ⟨c, d⟩ := y
  dsimp only
  by_cases h1 : a = c
  · subst h1
    by_cases h2 : b = d
    · subst h2; exact absurd rfl h
    · exact .inr ⟨rfl, h2⟩
  · exact .inl (by omega)

end Go.Proofs.YtbbfmddechpnjaaDoor
