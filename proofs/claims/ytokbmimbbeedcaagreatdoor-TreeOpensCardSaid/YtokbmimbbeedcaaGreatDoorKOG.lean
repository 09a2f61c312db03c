/- The law's shown. -/
import Derived.Test.YtokbmimbbeedcaaGreatDoorKO6
import Derived.Test.YtokbmimbbeedcaaGreatDoorKOB
import Derived.Test.YtokbmimbbeedcaaGreatDoorKN1
import Derived.Test.YtokbmimbbeedcaaGreatDoorKF1
import Derived.Test.YtokbmimbbeedcaaGreatDoorKG
namespace Go.Proofs.YtokbmimbbeedcaaGreatDoor
open Go Go.RowKit Sm
attribute [local go_sem] Oper.semAt_some

theorem zero_ok : Nd.zero.Ok := ⟨by decide, by decide, by decide, fun _ h => (by cases h), fun _ h => (by cases h), fun _ h => (by cases h)⟩

end Go.Proofs.YtokbmimbbeedcaaGreatDoor

/- What the laws of a node begin with; the law NodeSizes. -/
namespace Go.Proofs.YtokbmimbbeedcaaGreatDoor
open Go Go.RowKit Sm
attribute [local go_sem] Oper.semAt_some

theorem NdOwn.parts {w : World} {base : Nat} {v1 v2 v3 : Value} {n : Nd} (h : NdOwn w base v1 v2 v3 n) : ∃ a : NdP, v1 = .slice a.pp n.ps.length a.cp ∧ v2 = .slice a.pk n.ks.length a.ck ∧ v3 = .slice a.pd n.ds.length a.cd ∧ NdAt w n a ∧ NdFit n a := by
  obtain ⟨p1, c1, e1, r1, f1, -⟩ := h.p.fit
  obtain ⟨p2, c2, e2, r2, f2, -⟩ := h.k.fit
  obtain ⟨p3, c3, e3, r3, f3, -⟩ := h.d.fit
  exact ⟨⟨p1, c1, p2, c2, p3, c3⟩, e1, e2, e3, ⟨r1, r2, r3⟩, ⟨f1, f2, f3⟩⟩
/-- Behind the cut: the box holds the node that was cut. -/
structure LawI (w : World) (m : Nd) (a : NdP) (W : World) : Prop where
  b : W.heap[w.heap.size]? = some (.cells #[.slice a.pp m.ps.length a.cp, .slice a.pk m.ks.length a.ck, .slice a.pd m.ds.length a.cd] 92 (0, 0))
  s : NdAt W m a
  f : NdFit m a
  x : Below w.heap.size w W
section
variable {w W W' w2 w3 : World} {n m : Nd} {a : NdP} {v1 v2 v3 : Value}
theorem LawI.below (h : LawI w m a W) (hb : Below W.heap.size W W') : LawI w m a W' := ⟨(hb.block _ (lt_of_heap h.b)).trans h.b, h.s.below hb, h.f, bn_then h.x hb⟩
theorem LawI.cells (h : LawI w m a W) : W.cell? ⟨w.heap.size, 0, none⟩ = some (.slice a.pp m.ps.length a.cp) ∧ W.cell? ⟨w.heap.size, 1, none⟩ = some (.slice a.pk m.ks.length a.ck) ∧ W.cell? ⟨w.heap.size, 2, none⟩ = some (.slice a.pd m.ds.length a.cd) := (box3 h.b).1
end
end Go.Proofs.YtokbmimbbeedcaaGreatDoor

/- Reckoning: what a leaf is with a pair put, with one deleted. -/
namespace Go.Proofs.YtokbmimbbeedcaaGreatDoor
open Go Go.RowKit Sm

theorem getD_of {α : Type} {L : List α} {i : Nat} {d : α} (h : i < L.length) : L.getD i d = L[i] := by simp [List.getD, h]
theorem leaf_pw (n : Nd) : n.leaf = true ↔ (n.ks.length = 0 ∧ n.ds.length = 0 ∧ n.ps.length ≤ 255) ∧ (∀ p ∈ n.ps, rightP p = true) ∧ n.ps.Pairwise (fun a b => lessB a.k b.k = true) := by
  constructor
  · intro h
    have hr : n.right = true := by rw [Nd.right, h]; rfl
    obtain ⟨hs, hg⟩ := n.leaf_iff.1 h
    refine ⟨hs, fun p hp => ?_, ?_⟩
    · obtain ⟨i, hi, rfl⟩ := List.getElem_of_mem hp
      have := hg i hi
      simp only [goodP, Bool.and_eq_true] at this
      rw [getD_of hi] at this
      exact this.1
    · rw [List.pairwise_iff_getElem]
      intro i j hi hj hij
      have := rise_lt (Nd.right_rise hr) j i hij (by rw [keys_len]; omega)
      rw [keys_getP hi, keys_getP hj, getD_of hi, getD_of hj] at this
      exact this
  · rintro ⟨hs, h1, h2⟩
    refine n.leaf_iff.2 ⟨hs, fun i hi => ?_⟩
    simp only [goodP, Bool.and_eq_true, Bool.or_eq_true, decide_eq_true_eq]
    refine ⟨by rw [getD_of hi]; exact h1 _ (List.getElem_mem hi), ?_⟩
    by_cases h0 : i = 0
    · exact .inl h0
    · right
      rw [getD_of hi, getD_of (show i - 1 < n.ps.length by omega)]
      exact List.pairwise_iff_getElem.1 h2 (i - 1) i (by omega) hi (by omega)
end Go.Proofs.YtokbmimbbeedcaaGreatDoor

/- Boxes of nodes in a law. -/
namespace Go.Proofs.YtokbmimbbeedcaaGreatDoor
open Go Go.RowKit Sm
attribute [local go_sem] Oper.semAt_some

/-- A box that holds a node. -/
structure NBox (W : World) (g : Nat) (m : Nd) (a : NdP) : Prop where
  b : W.heap[g]? = some (.cells #[.slice a.pp m.ps.length a.cp, .slice a.pk m.ks.length a.ck, .slice a.pd m.ds.length a.cd] 92 (0, 0))
  s : NdAt W m a
theorem NBox.below {W W' : World} {g : Nat} {m : Nd} {a : NdP} (h : NBox W g m a) (hb : Below W.heap.size W W') : NBox W' g m a := ⟨(hb.block _ (lt_of_heap h.b)).trans h.b, h.s.below hb⟩
theorem NBox.new {w : World} {m : Nd} {a : NdP} (h : NdAt w m a) : NBox (w.alloc (.cells #[.slice a.pp m.ps.length a.cp, .slice a.pk m.ks.length a.ck, .slice a.pd m.ds.length a.cd] 92)) w.heap.size m a := ⟨heap_alloc_new _ _, h.below (below_al (Below.refl _ _) _)⟩
theorem NBox.cells {W : World} {g : Nat} {m : Nd} {a : NdP} (h : NBox W g m a) : W.cell? ⟨g, 0, none⟩ = some (.slice a.pp m.ps.length a.cp) ∧ W.cell? ⟨g, 1, none⟩ = some (.slice a.pk m.ks.length a.ck) ∧ W.cell? ⟨g, 2, none⟩ = some (.slice a.pd m.ds.length a.cd) := (box3 h.b).1
/-- Where a node's lists lie, from B on. -/
def NdHi (a : NdP) (B : Nat) : Prop := (∀ x, a.pp = some x → B ≤ x.block) ∧ (∀ x, a.pk = some x → B ≤ x.block) ∧ (∀ x, a.pd = some x → B ≤ x.block)
theorem LawI.turned {w W W' : World} {m : Nd} {a : NdP} {B : Nat} (h : LawI w m a W) (hi : NdHi a B) {F : Nat → Prop} (ht : Turned F W W') (hF : ∀ k, F k → w.heap.size < k ∧ k < B) : LawI w m a W' :=
  ⟨ht.heap h.b (fun hf => by have := hF _ hf; omega), ⟨h.s.p.turned ht (fun x hx hf => by have := hi.1 x hx; have := hF _ hf; omega), h.s.k.turned ht (fun x hx hf => by have := hi.2.1 x hx; have := hF _ hf; omega), h.s.d.turned ht (fun x hx hf => by have := hi.2.2 x hx; have := hF _ hf; omega)⟩, h.f,
    h.x.trans (ht.toBelow h.x.size (fun k _ hf => by have := hF _ hf; omega))⟩
end Go.Proofs.YtokbmimbbeedcaaGreatDoor

/- A region that draws its order: a call's answer, parted, its node laid into a box. -/
namespace Go.Proofs.YtokbmimbbeedcaaGreatDoor
open Go Go.RowKit Sm

def Box3 (W : World) (g : Nat) : Prop := ∃ p1 n1 c1 p2 n2 c2 p3 n3 c3, W.heap[g]? = some (.cells #[.slice p1 n1 c1, .slice p2 n2 c2, .slice p3 n3 c3] 92 (0, 0))
theorem els_box {α : Type} {E : El α} {W W' : World} {p : Option Addr} {L : List α} {g : Nat} (h : Els E W p L) (hE : ∀ x q n c, (E.enc x)[0]? ≠ some (.slice q n c)) (hg : Box3 W g) (ht : Turned (· = g) W W') : Els E W' p L := fun hne => by
  refine h.turned ht (fun x hx e => ?_) hne
  obtain ⟨b, o, hp, hc⟩ := h hne
  rw [hp] at hx
  cases hx
  have h1 := hc 0 0 (List.length_pos_iff.2 hne) E.pos
  obtain ⟨p1, n1, c1, p2, n2, c2, p3, n3, c3, hg⟩ := hg
  have hg' : W.heap[g]? = some (.cells [.slice p1 n1 c1, .slice p2 n2 c2, .slice p3 n3 c3].toArray 92 (0, 0)) := hg
  have e' : b = g := e
  simp only [e', Nat.zero_mul, Nat.add_zero] at h1
  rw [cell_whole hg' o] at h1
  have hz : 0 < (E.enc (L.getD 0 E.d)).length := by rw [E.len]; exact E.pos
  rw [List.getElem?_eq_getElem hz] at h1
  have h2 := hE (L.getD 0 E.d)
  rw [List.getElem?_eq_getElem hz] at h2
  match o, h1 with
  | 0, h1 => exact h2 p1 n1 c1 (by rw [← h1]; rfl)
  | 1, h1 => exact h2 p2 n2 c2 (by rw [← h1]; rfl)
  | 2, h1 => exact h2 p3 n3 c3 (by rw [← h1]; rfl)
  | _ + 3, h1 => simp at h1
theorem ndat_box {W W' : World} {m : Nd} {a : NdP} {g : Nat} (h : NdAt W m a) (hg : Box3 W g) (ht : Turned (· = g) W W') : NdAt W' m a :=
  ⟨els_box h.p (fun x => by simp [elP, sv]) hg ht, els_box h.k (fun x => by simp [elK, sv]) hg ht, els_box h.d (fun x => by simp [elD]) hg ht⟩
theorem nbox_set {W : World} {g : Nat} {m : Nd} {a : NdP} (h : NdAt W m a) (hg : Box3 W g) :
    NBox (((W.setCell ⟨g, 0, none⟩ (.slice a.pp m.ps.length a.cp)).setCell ⟨g, 1, none⟩ (.slice a.pk m.ks.length a.ck)).setCell ⟨g, 2, none⟩ (.slice a.pd m.ds.length a.cd)) g m a ∧
    Turned (· = g) W (((W.setCell ⟨g, 0, none⟩ (.slice a.pp m.ps.length a.cp)).setCell ⟨g, 1, none⟩ (.slice a.pk m.ks.length a.ck)).setCell ⟨g, 2, none⟩ (.slice a.pd m.ds.length a.cd)) := by
  have hT := ((((Turned.refl (· = g) W).setCell (p := ⟨g, 0, none⟩) rfl (.slice a.pp m.ps.length a.cp)).setCell (p := ⟨g, 1, none⟩) rfl (.slice a.pk m.ks.length a.ck)).setCell (p := ⟨g, 2, none⟩) rfl (.slice a.pd m.ds.length a.cd))
  obtain ⟨p1, n1, c1, p2, n2, c2, p3, n3, c3, hg'⟩ := hg
  exact ⟨⟨heap_setCell_at (heap_setCell_at (heap_setCell_at hg' 0 _) 1 _) 2 _, ndat_box h ⟨p1, n1, c1, p2, n2, c2, p3, n3, c3, hg'⟩ hT⟩, hT⟩
/-- One step: new blocks, or the box filled. -/
def StepN (S : World) (un : Nd) (W W' : World) : Prop := Below W.heap.size W W' ∨ ∃ g a, S.heap.size ≤ g ∧ Box3 W g ∧ NBox W' g un a ∧ Turned (· = g) W W'
theorem StepN.below {S : World} {un : Nd} {W W' : World} (hI : Below S.heap.size S W) (h : StepN S un W W') : Below S.heap.size S W' := by
  rcases h with h | ⟨g, a, h1, -, -, h4⟩
  · exact hI.trans (h.mono hI.size)
  · exact hI.trans (h4.toBelow hI.size (fun k _ e => by omega))
theorem Box3.below {W W' : World} {g : Nat} (h : Box3 W g) (hb : Below W.heap.size W W') : Box3 W' g := by
  obtain ⟨p1, n1, c1, p2, n2, c2, p3, n3, c3, hg⟩ := h
  exact ⟨p1, n1, c1, p2, n2, c2, p3, n3, c3, (hb.block _ (lt_of_heap hg)).trans hg⟩
theorem NBox.box3 {W : World} {g : Nat} {m : Nd} {a : NdP} (h : NBox W g m a) : Box3 W g := ⟨_, _, _, _, _, _, _, _, _, h.b⟩
theorem StepN.box {S : World} {un : Nd} {W W' : World} {g : Nat} (h : StepN S un W W') (hg : Box3 W g) : Box3 W' g := by
  rcases h with h | ⟨g', a, h1, h2, h3, h4⟩
  · exact hg.below h
  · by_cases e : g = g'
    · rw [e]; exact h3.box3
    · obtain ⟨p1, n1, c1, p2, n2, c2, p3, n3, c3, hg⟩ := hg
      exact ⟨p1, n1, c1, p2, n2, c2, p3, n3, c3, h4.heap hg e⟩
theorem StepN.at {S : World} {un : Nd} {W W' : World} {m : Nd} {a : NdP} (h : StepN S un W W') (hm : NdAt W m a) : NdAt W' m a := by
  rcases h with h | ⟨g', a', h1, h2, h3, h4⟩
  · exact hm.below h
  · exact ndat_box hm h2 h4
end Go.Proofs.YtokbmimbbeedcaaGreatDoor
