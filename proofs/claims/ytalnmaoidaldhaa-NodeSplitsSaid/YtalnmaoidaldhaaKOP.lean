/- Boxes of nodes in a law. -/
import Derived.Test.YtalnmaoidaldhaaKOL
import Derived.Test.YtalnmaoidaldhaaKN8
import Derived.Test.YtalnmaoidaldhaaKF1
namespace Go.Proofs.Ytalnmaoidaldhaa
open Go Go.RowKit Sm
attribute [local go_sem] Oper.semAt_some

/-- A box that holds a node. -/
structure NBox (W : World) (g : Nat) (m : Nd) (a : NdP) : Prop where
  b : W.heap[g]? = some (.cells #[.slice a.pp m.ps.length a.cp, .slice a.pk m.ks.length a.ck, .slice a.pd m.ds.length a.cd] 26 (0, 0))
  s : NdAt W m a
theorem NBox.below {W W' : World} {g : Nat} {m : Nd} {a : NdP} (h : NBox W g m a) (hb : Below W.heap.size W W') : NBox W' g m a := ⟨(hb.block _ (lt_of_heap h.b)).trans h.b, h.s.below hb⟩
theorem NBox.new {w : World} {m : Nd} {a : NdP} (h : NdAt w m a) : NBox (w.alloc (.cells #[.slice a.pp m.ps.length a.cp, .slice a.pk m.ks.length a.ck, .slice a.pd m.ds.length a.cd] 26)) w.heap.size m a := ⟨heap_alloc_new _ _, h.below (below_al (Below.refl _ _) _)⟩
theorem NBox.cells {W : World} {g : Nat} {m : Nd} {a : NdP} (h : NBox W g m a) : W.cell? ⟨g, 0, none⟩ = some (.slice a.pp m.ps.length a.cp) ∧ W.cell? ⟨g, 1, none⟩ = some (.slice a.pk m.ks.length a.ck) ∧ W.cell? ⟨g, 2, none⟩ = some (.slice a.pd m.ds.length a.cd) := (box3 h.b).1
/-- Where a node's lists lie, from B on. -/
def NdHi (a : NdP) (B : Nat) : Prop := (∀ x, a.pp = some x → B ≤ x.block) ∧ (∀ x, a.pk = some x → B ≤ x.block) ∧ (∀ x, a.pd = some x → B ≤ x.block)
theorem law_cutJ {w w2 w3 : World} {n m : Nd} {a : NdP} {v1 v2 v3 : Value} (hB : NdBox w n a w2) (hb3 : Below w2.heap.size w2 w3) (hown : NdOwn w3 w2.heap.size v1 v2 v3 m) :
    ∃ (a' : NdP) (W4 : World), v1 = .slice a'.pp m.ps.length a'.cp ∧ v2 = .slice a'.pk m.ks.length a'.ck ∧ v3 = .slice a'.pd m.ds.length a'.cd ∧
      ((w3.setCell ⟨w.heap.size, 0, none⟩ (.slice a'.pp m.ps.length a'.cp)).setCell ⟨w.heap.size, 1, none⟩ (.slice a'.pk m.ks.length a'.ck)).setCell ⟨w.heap.size, 2, none⟩ (.slice a'.pd m.ds.length a'.cd) = W4 ∧ LawI w m a' W4 ∧ NdHi a' w2.heap.size ∧ Turned (· = w.heap.size) w3 W4 := by
  obtain ⟨p1, c1, e1, -, -, i1⟩ := hown.p.fit
  obtain ⟨p2, c2, e2, -, -, i2⟩ := hown.k.fit
  obtain ⟨p3, c3, e3, -, -, i3⟩ := hown.d.fit
  obtain ⟨a', W4, g1, g2, g3, hW, hL⟩ := law_cut hB hb3 hown
  have hT := ((((Turned.refl (· = w.heap.size) w3).setCell (p := ⟨w.heap.size, 0, none⟩) rfl (.slice a'.pp m.ps.length a'.cp)).setCell (p := ⟨w.heap.size, 1, none⟩) rfl (.slice a'.pk m.ks.length a'.ck)).setCell (p := ⟨w.heap.size, 2, none⟩) rfl (.slice a'.pd m.ds.length a'.cd))
  rw [hW] at hT
  refine ⟨a', W4, g1, g2, g3, hW, hL, ⟨fun x hx => ?_, fun x hx => ?_, fun x hx => ?_⟩, hT⟩
  · rw [g1] at e1; injection e1 with h1 _ h2; exact (i1 x (by rw [← h1]; exact hx)).1
  · rw [g2] at e2; injection e2 with h1 _ h2; exact (i2 x (by rw [← h1]; exact hx)).1
  · rw [g3] at e3; injection e3 with h1 _ h2; exact (i3 x (by rw [← h1]; exact hx)).1
theorem LawI.turned {w W W' : World} {m : Nd} {a : NdP} {B : Nat} (h : LawI w m a W) (hi : NdHi a B) {F : Nat → Prop} (ht : Turned F W W') (hF : ∀ k, F k → w.heap.size < k ∧ k < B) : LawI w m a W' :=
  ⟨ht.heap h.b (fun hf => by have := hF _ hf; omega), ⟨h.s.p.turned ht (fun x hx hf => by have := hi.1 x hx; have := hF _ hf; omega), h.s.k.turned ht (fun x hx hf => by have := hi.2.1 x hx; have := hF _ hf; omega), h.s.d.turned ht (fun x hx hf => by have := hi.2.2 x hx; have := hF _ hf; omega)⟩, h.f,
    h.x.trans (ht.toBelow h.x.size (fun k _ hf => by have := hF _ hf; omega))⟩
theorem NBox.fresh {W0 W W' : World} {g : Nat} {m : Nd} {a : NdP} (h0 : NBox W0 g m a) (h : NBox W g m a) {F : Nat → Prop} (ht : Turned F W W') (hF : ∀ k, F k → W0.heap.size ≤ k) : NBox W' g m a :=
  ⟨ht.heap h.b (fun hf => by have := hF _ hf; have := lt_of_heap h0.b; omega), h.s.turned ht hF h0.s⟩
theorem LawI.fresh {w W0 W W' : World} {m : Nd} {a : NdP} (h0 : LawI w m a W0) (h : LawI w m a W) {F : Nat → Prop} (ht : Turned F W W') (hF : ∀ k, F k → W0.heap.size ≤ k) : LawI w m a W' :=
  ⟨ht.heap h.b (fun hf => by have := hF _ hf; have := lt_of_heap h0.b; omega), h.s.turned ht hF h0.s, h.f, h.x.trans (ht.toBelow h.x.size (fun k _ hf => by have := hF _ hf; have := lt_of_heap h0.b; omega))⟩
theorem els_apart {α : Type} {E : El α} {W W' : World} {p : Option Addr} {L : List α} {g : Nat} {t : TypeId} (h : Els E W p L) (hE : ∀ x, (E.enc x)[0]? ≠ some (.slice none 0 0)) (hg : W.heap[g]? = some (.cells #[.slice none 0 0, .slice none 0 0, .slice none 0 0] t (0, 0))) (ht : Turned (· = g) W W') : Els E W' p L := fun hne => by
  refine h.turned ht (fun x hx e => ?_) hne
  obtain ⟨b, o, hp, hc⟩ := h hne
  rw [hp] at hx
  cases hx
  have h1 := hc 0 0 (List.length_pos_iff.2 hne) E.pos
  have hg' : W.heap[g]? = some (.cells [.slice none 0 0, .slice none 0 0, .slice none 0 0].toArray t (0, 0)) := hg
  have e' : b = g := e
  simp only [e', Nat.zero_mul, Nat.add_zero] at h1
  rw [cell_whole hg' o] at h1
  have hz : 0 < (E.enc (L.getD 0 E.d)).length := by rw [E.len]; exact E.pos
  rw [List.getElem?_eq_getElem hz] at h1
  have h2 := hE (L.getD 0 E.d)
  rw [List.getElem?_eq_getElem hz] at h2
  have hv : ([Value.slice none 0 0, .slice none 0 0, .slice none 0 0] : List Value)[o]? = some (.slice none 0 0) ∨ ([Value.slice none 0 0, .slice none 0 0, .slice none 0 0] : List Value)[o]? = none := by
    match o with
    | 0 => exact .inl rfl
    | 1 => exact .inl rfl
    | 2 => exact .inl rfl
    | _ + 3 => exact .inr rfl
  rcases hv with hv | hv
  · rw [hv] at h1; exact h2 (by rw [← h1])
  · rw [hv] at h1; cases h1
/-- The answer, laid into a box that was made for it. -/
theorem nbox_put {W0 W : World} {g : Nat} {m : Nd} {a : NdP} (h : NdAt W m a) (hg : W.heap[g]? = some (.cells #[.slice none 0 0, .slice none 0 0, .slice none 0 0] 26 (0, 0))) (_hw : W0.heap.size ≤ g) :
    ∃ W', ((W.setCell ⟨g, 0, none⟩ (.slice a.pp m.ps.length a.cp)).setCell ⟨g, 1, none⟩ (.slice a.pk m.ks.length a.ck)).setCell ⟨g, 2, none⟩ (.slice a.pd m.ds.length a.cd) = W' ∧ NBox W' g m a ∧ Turned (· = g) W W' := by
  have hT := ((((Turned.refl (· = g) W).setCell (p := ⟨g, 0, none⟩) rfl (.slice a.pp m.ps.length a.cp)).setCell (p := ⟨g, 1, none⟩) rfl (.slice a.pk m.ks.length a.ck)).setCell (p := ⟨g, 2, none⟩) rfl (.slice a.pd m.ds.length a.cd))
  exact ⟨_, rfl, ⟨heap_setCell_at (heap_setCell_at (heap_setCell_at hg 0 _) 1 _) 2 _, els_apart h.p (fun x => by simp [elP, sv]) hg hT, els_apart h.k (fun x => by simp [elK, sv]) hg hT, els_apart h.d (fun x => by simp [elD]) hg hT⟩, hT⟩
theorem putR_ok {n : Nd} (hok : n.Ok) {p : Pr} (hp : p.k.length ≤ 1000000 ∧ p.v.length ≤ 1000000) : (n.putR p).1.Ok := by
  unfold Nd.putR
  split
  · rename_i h
    rw [Bool.and_eq_true] at h
    exact putM_ok hok h.1 hp
  · exact zero_ok
theorem delP_ok {n : Nd} (hok : n.Ok) (key : List UInt8) : (n.delP key).1.Ok := by
  unfold Nd.delP
  split
  · rename_i h
    have hs := (n.leaf_iff.1 h).1
    refine ⟨?_, Nat.zero_le _, Nat.zero_le _, fun q hq => ?_, fun _ hs => (by cases hs), fun _ hd => (by cases hd)⟩
    · simp only [List.length_append, List.length_take, List.length_drop, List.length_nil]; omega
    · simp only [List.append_nil, List.mem_append] at hq
      rcases hq with hq | hq
      · exact hok.pt q (List.mem_of_mem_take hq)
      · exact hok.pt q (List.mem_of_mem_drop hq)
  · exact zero_ok

end Go.Proofs.Ytalnmaoidaldhaa
