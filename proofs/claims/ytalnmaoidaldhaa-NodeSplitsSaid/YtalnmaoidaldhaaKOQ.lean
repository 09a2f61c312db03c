/- A region that draws its order: a call's answer, parted, its node laid into a box. -/
import Derived.Test.YtalnmaoidaldhaaKOP
import Derived.Test.YtalnmaoidaldhaaKG
namespace Go.Proofs.Ytalnmaoidaldhaa
open Go Go.RowKit Sm

def Box3 (W : World) (g : Nat) : Prop := ∃ p1 n1 c1 p2 n2 c2 p3 n3 c3, W.heap[g]? = some (.cells #[.slice p1 n1 c1, .slice p2 n2 c2, .slice p3 n3 c3] 26 (0, 0))
theorem els_box {α : Type} {E : El α} {W W' : World} {p : Option Addr} {L : List α} {g : Nat} (h : Els E W p L) (hE : ∀ x q n c, (E.enc x)[0]? ≠ some (.slice q n c)) (hg : Box3 W g) (ht : Turned (· = g) W W') : Els E W' p L := fun hne => by
  refine h.turned ht (fun x hx e => ?_) hne
  obtain ⟨b, o, hp, hc⟩ := h hne
  rw [hp] at hx
  cases hx
  have h1 := hc 0 0 (List.length_pos_iff.2 hne) E.pos
  obtain ⟨p1, n1, c1, p2, n2, c2, p3, n3, c3, hg⟩ := hg
  have hg' : W.heap[g]? = some (.cells [.slice p1 n1 c1, .slice p2 n2 c2, .slice p3 n3 c3].toArray 26 (0, 0)) := hg
  have e' : b = g := e
  simp only [e', Nat.zero_mul, Nat.add_zero] at h1
  rw [cell_whole hg' o] at h1
  have hz : 0 < (E.enc (L.getD 0 E.d)).length := by rw [E.len]; exact E.pos
  rw [List.getElem?_eq_getElem hz] at h1
  have h2 := hE (L.getD 0 E.d)
  rw [List.getElem?_eq_getElem hz] at h2
  match o, h1 with
  | 0, h1 => exact h2 p1 n1 c1 (by rw [← h1]; rfl)
  | 1, h1 => exact h2 p2 n2 c2 (by rw [← h1]; rfl)
  | 2, h1 => exact h2 p3 n3 c3 (by rw [← h1]; rfl)
  | _ + 3, h1 => simp at h1
theorem ndat_box {W W' : World} {m : Nd} {a : NdP} {g : Nat} (h : NdAt W m a) (hg : Box3 W g) (ht : Turned (· = g) W W') : NdAt W' m a :=
  ⟨els_box h.p (fun x => by simp [elP, sv]) hg ht, els_box h.k (fun x => by simp [elK, sv]) hg ht, els_box h.d (fun x => by simp [elD]) hg ht⟩
theorem nbox_set {W : World} {g : Nat} {m : Nd} {a : NdP} (h : NdAt W m a) (hg : Box3 W g) :
    NBox (((W.setCell ⟨g, 0, none⟩ (.slice a.pp m.ps.length a.cp)).setCell ⟨g, 1, none⟩ (.slice a.pk m.ks.length a.ck)).setCell ⟨g, 2, none⟩ (.slice a.pd m.ds.length a.cd)) g m a ∧
    Turned (· = g) W (((W.setCell ⟨g, 0, none⟩ (.slice a.pp m.ps.length a.cp)).setCell ⟨g, 1, none⟩ (.slice a.pk m.ks.length a.ck)).setCell ⟨g, 2, none⟩ (.slice a.pd m.ds.length a.cd)) := by
  have hT := ((((Turned.refl (· = g) W).setCell (p := ⟨g, 0, none⟩) rfl (.slice a.pp m.ps.length a.cp)).setCell (p := ⟨g, 1, none⟩) rfl (.slice a.pk m.ks.length a.ck)).setCell (p := ⟨g, 2, none⟩) rfl (.slice a.pd m.ds.length a.cd))
  obtain ⟨p1, n1, c1, p2, n2, c2, p3, n3, c3, hg'⟩ := hg
  exact ⟨⟨heap_setCell_at (heap_setCell_at (heap_setCell_at hg' 0 _) 1 _) 2 _, ndat_box h ⟨p1, n1, c1, p2, n2, c2, p3, n3, c3, hg'⟩ hT⟩, hT⟩
/-- One step: new blocks, or the box filled. -/
def StepN (S : World) (un : Nd) (W W' : World) : Prop := Below W.heap.size W W' ∨ ∃ g a, S.heap.size ≤ g ∧ Box3 W g ∧ NBox W' g un a ∧ Turned (· = g) W W'
theorem StepN.below {S : World} {un : Nd} {W W' : World} (hI : Below S.heap.size S W) (h : StepN S un W W') : Below S.heap.size S W' := by
  rcases h with h | ⟨g, a, h1, -, -, h4⟩
  · exact hI.trans (h.mono hI.size)
  · exact hI.trans (h4.toBelow hI.size (fun k _ e => by omega))
theorem Box3.below {W W' : World} {g : Nat} (h : Box3 W g) (hb : Below W.heap.size W W') : Box3 W' g := by
  obtain ⟨p1, n1, c1, p2, n2, c2, p3, n3, c3, hg⟩ := h
  exact ⟨p1, n1, c1, p2, n2, c2, p3, n3, c3, (hb.block _ (lt_of_heap hg)).trans hg⟩
theorem NBox.box3 {W : World} {g : Nat} {m : Nd} {a : NdP} (h : NBox W g m a) : Box3 W g := ⟨_, _, _, _, _, _, _, _, _, h.b⟩
theorem StepN.box {S : World} {un : Nd} {W W' : World} {g : Nat} (h : StepN S un W W') (hg : Box3 W g) : Box3 W' g := by
  rcases h with h | ⟨g', a, h1, h2, h3, h4⟩
  · exact hg.below h
  · by_cases e : g = g'
    · rw [e]; exact h3.box3
    · obtain ⟨p1, n1, c1, p2, n2, c2, p3, n3, c3, hg⟩ := hg
      exact ⟨p1, n1, c1, p2, n2, c2, p3, n3, c3, h4.heap hg e⟩
theorem StepN.at {S : World} {un : Nd} {W W' : World} {m : Nd} {a : NdP} (h : StepN S un W W') (hm : NdAt W m a) : NdAt W' m a := by
  rcases h with h | ⟨g', a', h1, h2, h3, h4⟩
  · exact hm.below h
  · exact ndat_box hm h2 h4
theorem StepN.nbox {S : World} {un : Nd} {W W' : World} {g : Nat} {a : NdP} (h : StepN S un W W') (hm : NBox W g un a) : ∃ a, NBox W' g un a := by
  have hat := h.at hm.s
  rcases h with h | ⟨g', a', h1, h2, h3, h4⟩
  · exact ⟨a, hm.below h⟩
  · by_cases e : g = g'
    · rw [e]; exact ⟨a', h3⟩
    · exact ⟨a, h4.heap hm.b e, hat⟩
/-- What each operation tells: node and text, the answer, its parts, the box, the box filled, the parts again. -/
def PutsF (S : World) (un : Nd) (ub ue v0 v1 v2 : Value) : Nat → Value → Value → World → Prop
  | 0, v, _, _ => v = v0
  | 1, v, _, _ => v = v1
  | 2, v, _, _ => v = v2
  | 3, v, _, W => ∃ a, v = .tuple #[.agg #[.slice a.pp un.ps.length a.cp, .slice a.pk un.ks.length a.ck, .slice a.pd un.ds.length a.cd], ub, ue] ∧ NdAt W un a
  | 4, v, _, W => ∃ a, v = .tuple #[.agg #[.slice a.pp un.ps.length a.cp, .slice a.pk un.ks.length a.ck, .slice a.pd un.ds.length a.cd], ub, ue] ∧ NdAt W un a
  | 5, v, _, W => ∃ a, v = .agg #[.slice a.pp un.ps.length a.cp, .slice a.pk un.ks.length a.ck, .slice a.pd un.ds.length a.cd] ∧ NdAt W un a
  | 6, v, _, _ => v = ub
  | 7, v, _, _ => v = ue
  | 8, v, _, W => ∃ g, S.heap.size ≤ g ∧ v = .pointer (some ⟨g, 0, none⟩) ∧ Box3 W g
  | 9, _, u, W => ∃ g, S.heap.size ≤ g ∧ u = .pointer (some ⟨g, 0, none⟩) ∧ ∃ a, NBox W g un a
  | 10, v, _, _ => v = ub
  | 11, v, _, _ => v = ue
  | _, _, _, _ => True
theorem PutsF_step {S : World} {un : Nd} {ub ue v0 v1 v2 : Value} (i : Nat) (v u : Value) (W W' : World) (h : StepN S un W W') (hf : PutsF S un ub ue v0 v1 v2 i v u W) : PutsF S un ub ue v0 v1 v2 i v u W' := by
  match i, hf with
  | 0, hf => exact hf
  | 1, hf => exact hf
  | 2, hf => exact hf
  | 3, ⟨a, h1, h2⟩ => exact ⟨a, h1, h.at h2⟩
  | 4, ⟨a, h1, h2⟩ => exact ⟨a, h1, h.at h2⟩
  | 5, ⟨a, h1, h2⟩ => exact ⟨a, h1, h.at h2⟩
  | 6, hf => exact hf
  | 7, hf => exact hf
  | 8, ⟨g, h1, h2, h3⟩ => exact ⟨g, h1, h2, h.box h3⟩
  | 9, ⟨g, h1, h2, a, h3⟩ => exact ⟨g, h1, h2, h.nbox h3⟩
  | 10, hf => exact hf
  | 11, hf => exact hf
  | _ + 12, _ => exact trivial
def pm9 (i : Nat) : Nat := if i = 9 then 8 else i
theorem pm9_ok (i : Nat) : pm9 i = i ∨ pm9 i ∈ List.getD [[], [], [1], [0, 2], [3], [4], [4], [4], [], [0, 1, 2, 3, 4, 5, 8], [0, 1, 2, 3, 4, 5, 6, 8, 9], [0, 1, 2, 3, 4, 5, 6, 7, 8, 9, 10]] i [] := by
  by_cases e : i = 9
  · subst e; exact .inr (by decide)
  · exact .inl (if_neg e)
end Go.Proofs.Ytalnmaoidaldhaa
