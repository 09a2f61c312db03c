/- A region that draws its order: a call's answer, parted, its node laid into a box. -/
import Derived.Test.YtfpcknkinlegcaaKOP
import Derived.Test.YtfpcknkinlegcaaKG
namespace Go.Proofs.Ytfpcknkinlegcaa
open Go Go.RowKit Sm

def Box3 (W : World) (g : Nat) : Prop := ∃ p1 n1 c1 p2 n2 c2 p3 n3 c3, W.heap[g]? = some (.cells #[.slice p1 n1 c1, .slice p2 n2 c2, .slice p3 n3 c3] 26 (0, 0))
theorem els_box {α : Type} {E : El α} {W W' : World} {p : Option Addr} {L : List α} {g : Nat} (h : Els E W p L) (hE : ∀ x q n c, (E.enc x)[0]? ≠ some (.slice q n c)) (hg : Box3 W g) (ht : Turned (· = g) W W') : Els E W' p L := fun hne => by
  refine h.turned ht (fun x hx e => ?_) hne
  obtain ⟨b, o, hp, hc⟩ := h hne
  rw [hp] at hx
  cases hx
  have h1 := hc 0 0 (List.length_pos_iff.2 hne) E.pos
  obtain ⟨p1, n1, c1, p2, n2, c2, p3, n3, c3, hg⟩ := hg
  have hg' : W.heap[g]? = some (.cells [.slice p1 n1 c1, .slice p2 n2 c2, .slice p3 n3 c3].toArray 26 (0, 0)) := hg
  have e' : b = g := e
  simp only [e', Nat.zero_mul, Nat.add_zero] at h1
  rw [cell_whole hg' o] at h1
  have hz : 0 < (E.enc (L.getD 0 E.d)).length := by rw [E.len]; exact E.pos
  rw [List.getElem?_eq_getElem hz] at h1
  have h2 := hE (L.getD 0 E.d)
  rw [List.getElem?_eq_getElem hz] at h2
  match o, h1 with
  | 0, h1 => exact h2 p1 n1 c1 (by rw [← h1]; rfl)
  | 1, h1 => exact h2 p2 n2 c2 (by rw [← h1]; rfl)
  | 2, h1 => exact h2 p3 n3 c3 (by rw [← h1]; rfl)
  | _ + 3, h1 => simp at h1
theorem ndat_box {W W' : World} {m : Nd} {a : NdP} {g : Nat} (h : NdAt W m a) (hg : Box3 W g) (ht : Turned (· = g) W W') : NdAt W' m a :=
  ⟨els_box h.p (fun x => by simp [elP, sv]) hg ht, els_box h.k (fun x => by simp [elK, sv]) hg ht, els_box h.d (fun x => by simp [elD]) hg ht⟩
theorem nbox_set {W : World} {g : Nat} {m : Nd} {a : NdP} (h : NdAt W m a) (hg : Box3 W g) :
    NBox (((W.setCell ⟨g, 0, none⟩ (.slice a.pp m.ps.length a.cp)).setCell ⟨g, 1, none⟩ (.slice a.pk m.ks.length a.ck)).setCell ⟨g, 2, none⟩ (.slice a.pd m.ds.length a.cd)) g m a ∧
    Turned (· = g) W (((W.setCell ⟨g, 0, none⟩ (.slice a.pp m.ps.length a.cp)).setCell ⟨g, 1, none⟩ (.slice a.pk m.ks.length a.ck)).setCell ⟨g, 2, none⟩ (.slice a.pd m.ds.length a.cd)) := by
  have hT := ((((Turned.refl (· = g) W).setCell (p := ⟨g, 0, none⟩) rfl (.slice a.pp m.ps.length a.cp)).setCell (p := ⟨g, 1, none⟩) rfl (.slice a.pk m.ks.length a.ck)).setCell (p := ⟨g, 2, none⟩) rfl (.slice a.pd m.ds.length a.cd))
  obtain ⟨p1, n1, c1, p2, n2, c2, p3, n3, c3, hg'⟩ := hg
  exact ⟨⟨heap_setCell_at (heap_setCell_at (heap_setCell_at hg' 0 _) 1 _) 2 _, ndat_box h ⟨p1, n1, c1, p2, n2, c2, p3, n3, c3, hg'⟩ hT⟩, hT⟩
/-- One step: new blocks, or the box filled. -/
def StepN (S : World) (un : Nd) (W W' : World) : Prop := Below W.heap.size W W' ∨ ∃ g a, S.heap.size ≤ g ∧ Box3 W g ∧ NBox W' g un a ∧ Turned (· = g) W W'
theorem StepN.below {S : World} {un : Nd} {W W' : World} (hI : Below S.heap.size S W) (h : StepN S un W W') : Below S.heap.size S W' := by
  rcases h with h | ⟨g, a, h1, -, -, h4⟩
  · exact hI.trans (h.mono hI.size)
  · exact hI.trans (h4.toBelow hI.size (fun k _ e => by omega))
theorem Box3.below {W W' : World} {g : Nat} (h : Box3 W g) (hb : Below W.heap.size W W') : Box3 W' g := by
  obtain ⟨p1, n1, c1, p2, n2, c2, p3, n3, c3, hg⟩ := h
  exact ⟨p1, n1, c1, p2, n2, c2, p3, n3, c3, (hb.block _ (lt_of_heap hg)).trans hg⟩
theorem NBox.box3 {W : World} {g : Nat} {m : Nd} {a : NdP} (h : NBox W g m a) : Box3 W g := ⟨_, _, _, _, _, _, _, _, _, h.b⟩
theorem StepN.box {S : World} {un : Nd} {W W' : World} {g : Nat} (h : StepN S un W W') (hg : Box3 W g) : Box3 W' g := by
  rcases h with h | ⟨g', a, h1, h2, h3, h4⟩
  · exact hg.below h
  · by_cases e : g = g'
    · rw [e]; exact h3.box3
    · obtain ⟨p1, n1, c1, p2, n2, c2, p3, n3, c3, hg⟩ := hg
      exact ⟨p1, n1, c1, p2, n2, c2, p3, n3, c3, h4.heap hg e⟩
theorem StepN.at {S : World} {un : Nd} {W W' : World} {m : Nd} {a : NdP} (h : StepN S un W W') (hm : NdAt W m a) : NdAt W' m a := by
  rcases h with h | ⟨g', a', h1, h2, h3, h4⟩
  · exact hm.below h
  · exact ndat_box hm h2 h4
theorem StepN.nbox {S : World} {un : Nd} {W W' : World} {g : Nat} {a : NdP} (h : StepN S un W W') (hm : NBox W g un a) : ∃ a, NBox W' g un a := by
  have hat := h.at hm.s
  rcases h with h | ⟨g', a', h1, h2, h3, h4⟩
  · exact ⟨a, hm.below h⟩
  · by_cases e : g = g'
    · rw [e]; exact ⟨a', h3⟩
    · exact ⟨a, h4.heap hm.b e, hat⟩
/-- What each operation tells: node and text, the answer, its parts, the box, the box filled, the parts again. -/
def PutsF (S : World) (un : Nd) (ub ue v0 v1 v2 : Value) : Nat → Value → Value → World → Prop
  | 0, v, _, _ => v = v0
  | 1, v, _, _ => v = v1
  | 2, v, _, _ => v = v2
  | 3, v, _, W => ∃ a, v = .tuple #[.agg #[.slice a.pp un.ps.length a.cp, .slice a.pk un.ks.length a.ck, .slice a.pd un.ds.length a.cd], ub, ue] ∧ NdAt W un a
  | 4, v, _, W => ∃ a, v = .tuple #[.agg #[.slice a.pp un.ps.length a.cp, .slice a.pk un.ks.length a.ck, .slice a.pd un.ds.length a.cd], ub, ue] ∧ NdAt W un a
  | 5, v, _, W => ∃ a, v = .agg #[.slice a.pp un.ps.length a.cp, .slice a.pk un.ks.length a.ck, .slice a.pd un.ds.length a.cd] ∧ NdAt W un a
  | 6, v, _, _ => v = ub
  | 7, v, _, _ => v = ue
  | 8, v, _, W => ∃ g, S.heap.size ≤ g ∧ v = .pointer (some ⟨g, 0, none⟩) ∧ Box3 W g
  | 9, _, u, W => ∃ g, S.heap.size ≤ g ∧ u = .pointer (some ⟨g, 0, none⟩) ∧ ∃ a, NBox W g un a
  | 10, v, _, _ => v = ub
  | 11, v, _, _ => v = ue
  | _, _, _, _ => True
theorem PutsF_step {S : World} {un : Nd} {ub ue v0 v1 v2 : Value} (i : Nat) (v u : Value) (W W' : World) (h : StepN S un W W') (hf : PutsF S un ub ue v0 v1 v2 i v u W) : PutsF S un ub ue v0 v1 v2 i v u W' := by
  match i, hf with
  | 0, hf => exact hf
  | 1, hf => exact hf
  | 2, hf => exact hf
  | 3, ⟨a, h1, h2⟩ => exact ⟨a, h1, h.at h2⟩
  | 4, ⟨a, h1, h2⟩ => exact ⟨a, h1, h.at h2⟩
  | 5, ⟨a, h1, h2⟩ => exact ⟨a, h1, h.at h2⟩
  | 6, hf => exact hf
  | 7, hf => exact hf
  | 8, ⟨g, h1, h2, h3⟩ => exact ⟨g, h1, h2, h.box h3⟩
  | 9, ⟨g, h1, h2, a, h3⟩ => exact ⟨g, h1, h2, h.nbox h3⟩
  | 10, hf => exact hf
  | 11, hf => exact hf
  | _ + 12, _ => exact trivial
def pm9 (i : Nat) : Nat := if i = 9 then 8 else i
theorem pm9_ok (i : Nat) : pm9 i = i ∨ pm9 i ∈ List.getD [[], [], [1], [0, 2], [3], [4], [4], [4], [], [0, 1, 2, 3, 4, 5, 8], [0, 1, 2, 3, 4, 5, 6, 8, 9], [0, 1, 2, 3, 4, 5, 6, 7, 8, 9, 10]] i [] := by
  by_cases e : i = 9
  · subst e; exact .inr (by decide)
  · exact .inl (if_neg e)
end Go.Proofs.Ytfpcknkinlegcaa

/- The law NodePuts. -/
namespace Go.Proofs.Ytfpcknkinlegcaa
open Go Go.RowKit Sm
attribute [local go_sem] Oper.semAt_some

set_option maxRecDepth 20000 in
set_option maxHeartbeats 4000000 in
theorem nodePuts_any {w : World} {n : Nd} {a : NdP} (h : NdIn w n a) (p : Pr) (hp : p.k.length ≤ 9223372036854775807 ∧ p.v.length ≤ 9223372036854775807) (key : List UInt8) (hkey : key.length ≤ 9223372036854775807) : Calls Try.prog 4 #[n.v a, p.vv, .string ⟨key.toArray⟩] w fun e w' => e = .returned (.bool true) ∧ Below w.heap.size w w' := by
  have HC : Veil (∀ W, NdAt W n a → Calls Try.prog 11 #[n.v a] W fun e w' => ∃ v1 v2 v3, e = .returned (.agg #[v1, v2, v3]) ∧ NdOwn w' W.heap.size v1 v2 v3 n.cut ∧ Below W.heap.size W w') := ⟨fun W hW => lawcut_of hW h.f h.p h.k⟩
  have hok := h.cut_ok
  have hkt : (key.take 70).length ≤ 1000000 := by simp; omega
  have hpt : (cutPr p).k.length ≤ 1000000 ∧ (cutPr p).v.length ≤ 1000000 := by simp only [cutPr, List.length_take]; omega
  have HTx : Veil (∀ W, Calls Try.prog 19 #[.string ⟨key.toArray⟩] W fun e w' => e = .returned (.string ⟨(key.take 70).toArray⟩) ∧ w' = W) := ⟨fun W => lawtext_any key hkey W⟩
  have HTk : Veil (∀ W, Calls Try.prog 19 #[.string ⟨p.k.toArray⟩] W fun e w' => e = .returned (.string ⟨(p.k.take 70).toArray⟩) ∧ w' = W) := ⟨fun W => lawtext_any p.k hp.1 W⟩
  have HTv : Veil (∀ W, Calls Try.prog 19 #[.string ⟨p.v.toArray⟩] W fun e w' => e = .returned (.string ⟨(p.v.take 70).toArray⟩) ∧ w' = W) := ⟨fun W => lawtext_any p.v hp.2 W⟩
  have HPu : Veil (∀ W a', NdAt W n.cut a' → NdFit n.cut a' → Calls Try.prog 21 #[n.cut.v a', .agg #[.string ⟨(p.k.take 70).toArray⟩, .string ⟨(p.v.take 70).toArray⟩]] W (PutPost W (n.cut.putR (cutPr p)))) := ⟨fun W a' h hf => nput_of h hf.p ⟨hok⟩ (cutPr p) hpt⟩
  have HPr : Veil (∀ W a', NdAt W n.cut a' → NdFit n.cut a' → Calls Try.prog 22 #[n.cut.v a', .agg #[.string ⟨(p.k.take 70).toArray⟩, .string ⟨(p.v.take 70).toArray⟩]] W (PutPost W (n.cut.putR (cutPr p)))) := ⟨fun W a' h hf => by rw [← put_same]; exact refput_of h hf ⟨hok⟩ (cutPr p) hpt⟩
  have HDe : Veil (∀ W a', NdAt W n.cut a' → NdFit n.cut a' → Calls Try.prog 23 #[n.cut.v a', .string ⟨(key.take 70).toArray⟩] W (DelPost W (n.cut.delP (key.take 70)))) := ⟨fun W a' h hf => ndelete_of h hf.p ⟨hok⟩ _ hkt⟩
  have HDr : Veil (∀ W a', NdAt W n.cut a' → Calls Try.prog 24 #[n.cut.v a', .string ⟨(key.take 70).toArray⟩] W (DelPost W (n.cut.delP (key.take 70)))) := ⟨fun W a' h => by rw [← del_same]; exact refdelete_of h ⟨hok⟩ _⟩
  have htok := putR_ok hok hpt
  have huok := delP_ok hok (key.take 70)
  have hB0 := NdBox.new h.s
  clear h hok hkey hkt hpt
  revert HC; revert HTx; revert HTk; revert HTv; revert HPu; revert HPr; revert HDe; revert HDr; revert htok; revert huok
  generalize n.cut.putR (cutPr p) = t
  generalize n.cut.delP (key.take 70) = u
  generalize n.cut = m
  generalize key.take 70 = key'
  obtain ⟨tn, te⟩ := t
  obtain ⟨un, ub, ue⟩ := u
  obtain ⟨pk, pv⟩ := p
  unfold Pr.vv
  dsimp only
  generalize pk.take 70 = pk'
  generalize pv.take 70 = pv'
  intro huok htok HDr HDe HPr HPu HTv HTk HTx HC
  have HSt : Veil (∀ W a c, NdAt W tn a → NdAt W tn c → Calls Try.prog 25 #[tn.v a, tn.v c] W fun e w' => e = .returned (.bool true) ∧ Below W.heap.size W w') := ⟨fun W a c h1 h2 => refsame_of h1 h2 ⟨htok⟩⟩
  have HSu : Veil (∀ W a c, NdAt W un a → NdAt W un c → Calls Try.prog 25 #[un.v a, un.v c] W fun e w' => e = .returned (.bool true) ∧ Below W.heap.size W w') := ⟨fun W a c h1 h2 => refsame_of h1 h2 ⟨huok⟩⟩
  clear htok huok hp
  unfold PutPost at HPu HPr
  unfold DelPost at HDe HDr
  obtain ⟨W0, hW0⟩ : ∃ W0, w.alloc (.cells #[.slice a.pp n.ps.length a.cp, .slice a.pk n.ks.length a.ck, .slice a.pd n.ds.length a.cd] 26) = W0 := ⟨_, rfl⟩
  rw [hW0] at hB0
  obtain ⟨W1, hW1⟩ : ∃ W1, W0.alloc (.cells #[.string ⟨pk.toArray⟩, .string ⟨pv.toArray⟩] 38) = W1 := ⟨_, rfl⟩
  have hb1 : Below W0.heap.size W0 W1 := by rw [← hW1]; exact below_al (Below.refl _ _) _
  have HB : Veil _ := ⟨hB0.below hb1⟩
  obtain ⟨B1, hB1⟩ : ∃ B1, W0.heap.size = B1 := ⟨_, rfl⟩
  have HP0 : Veil (W1.heap[B1]? = some (.cells [.string ⟨pk.toArray⟩, .string ⟨pv.toArray⟩].toArray 38 (0, 0)) ∧ w.heap.size < B1) := ⟨by rw [← hB1, ← hW1]; exact heap_alloc_new _ _, by rw [← hB1]; exact lt_of_heap hB0.b⟩
  clear hb1 hB0
  unfold Nd.v at *
  go_enter Try.func4, Try.ntmps4
  go_wp2_with (first
    | (go_at_call 11; refine (HC.out _ HB2.out.s).mono ?_; rintro e w3 ⟨v1, v2, v3, rfl, hown, hb3⟩; obtain ⟨a', W4, rfl, rfl, rfl, hW4, hL, hhi, hT4⟩ := law_cutJ HB2.out hb3 hown; have HL : Veil _ := ⟨hL⟩; have HI : Veil _ := ⟨hhi⟩; have HP : Veil (W4.heap[B1]? = some (.cells [.string ⟨pk.toArray⟩, .string ⟨pv.toArray⟩].toArray 38 (0, 0))) := ⟨hT4.heap ((hb3.block _ (lt_of_heap HP2.out)).trans HP2.out) (by have := HP0.out.2; omega)⟩; have hB3 := (HB2.out.below hb3).b; clear hL hhi hT4 hown hb3 a0 a1 a2; obtain ⟨⟨a0, a1, a2⟩, k0, k1, k2⟩ := box3 hB3; clear hB3)
    | (go_at_call 10; refine (shown_any _).mono ?_; rintro e w2 ⟨rfl, hb2⟩; have HB2 : Veil _ := ⟨HB.out.below hb2⟩; have HP2 : Veil _ := ⟨(hb2.block _ (lt_of_heap HP0.out.1)).trans HP0.out.1⟩; clear hb2; obtain ⟨a0, a1, a2⟩ := HB2.out.cells))
  have HZ2 : Veil (B1 < w2.heap.size) := ⟨lt_of_heap HP2.out⟩
  try simp only [hB1]
  clear a0 a1 a2 k0 k1 k2 hW4 hW1 hW0 HB HB2 HC HP2
  refine region_new [.is (.pointer (some ⟨B1, 0, none⟩)), .is (.string ⟨pk.toArray⟩), .is (.string ⟨pk'.toArray⟩), .is (.pointer (some ⟨B1, 1, none⟩)), .is (.string ⟨pv.toArray⟩), .is (.string ⟨pv'.toArray⟩)]
    [[], [(0, 21)], [(1, 22)], [], [(3, 24)], [(4, 25)]]
    [[], [0], [1], [], [3], [2, 4]]
    [(0, 21), (1, 22), (2, 23), (3, 24), (4, 25), (5, 26)] rfl (by kernel_rfl) ⟨?_, ?_, ?_, ?_, ?_, ?_, trivial⟩ ?_
  · intro vals W hB _
    dsimp only [putsL, slotOf]
    go_wp2
    exact ⟨rfl, Below.refl _ _, rfl⟩
  · intro vals W hB ⟨h0, _⟩
    have h0 : vals 0 = _ := h0
    have q : W.cell? ⟨B1, 0, none⟩ = some (.string ⟨pk.toArray⟩) := cell_whole ((hB.block _ (lt_of_heap HP.out)).trans HP.out) 0
    dsimp only [putsL, slotOf]
    rw [h0]
    go_wp2
    exact ⟨rfl, Below.refl _ _, rfl⟩
  · intro vals W hB ⟨h1, _⟩
    have h1 : vals 1 = _ := h1
    dsimp only [putsL, slotOf]
    rw [h1]
    go_wp2_with ((go_at_call 19; refine (HTk.out _).mono ?_; rintro e w4 ⟨rfl, rfl⟩; have hb4 := Below.refl w4.heap.size w4))
    exact ⟨rfl, hb4, rfl⟩
  · intro vals W hB _
    dsimp only [putsL, slotOf]
    go_wp2
    exact ⟨rfl, Below.refl _ _, rfl⟩
  · intro vals W hB ⟨h3, _⟩
    have h3 : vals 3 = _ := h3
    have q : W.cell? ⟨B1, 1, none⟩ = some (.string ⟨pv.toArray⟩) := cell_whole ((hB.block _ (lt_of_heap HP.out)).trans HP.out) 1
    dsimp only [putsL, slotOf]
    rw [h3]
    go_wp2
    exact ⟨rfl, Below.refl _ _, rfl⟩
  · intro vals W hB ⟨h2, h4, _⟩
    have h4 : vals 4 = _ := h4
    dsimp only [putsL, slotOf]
    rw [h4]
    go_wp2_with ((go_at_call 19; refine (HTv.out _).mono ?_; rintro e w4 ⟨rfl, rfl⟩; have hb4 := Below.refl w4.heap.size w4))
    exact ⟨rfl, hb4, rfl⟩
  rintro vals W hB ⟨q0, q1, q2, q3, q4, q5, -⟩
  have h0 : vals 0 = _ := q0
  have h1 : vals 1 = _ := q1
  have h2 : vals 2 = _ := q2
  have h3 : vals 3 = _ := q3
  have h4 : vals 4 = _ := q4
  have h5 : vals 5 = _ := q5
  dsimp only [putsL]
  rw [h0, h1, h2, h3, h4, h5]
  clear h0 q0 h1 q1 h2 q2 h3 q3 h4 q4 h5 q5
  simp only [List.length_cons, List.length_nil, Nat.reduceAdd, List.drop_succ_cons, List.drop_zero, List.setIfInBounds_toArray, List.set_cons_succ, List.set_cons_zero]
  have HL6 : Veil _ := ⟨HL.out.below hB⟩
  have hp6 := (hB.block _ (lt_of_heap HP.out)).trans HP.out
  have q0 : W.cell? ⟨B1, 0, none⟩ = some (.string ⟨pk.toArray⟩) := cell_whole hp6 0
  have q1 : W.cell? ⟨B1, 1, none⟩ = some (.string ⟨pv.toArray⟩) := cell_whole hp6 1
  have f0 : W.frozen? ⟨B1, 0, none⟩ = false := frozen_whole hp6 _
  have f1 : W.frozen? ⟨B1, 1, none⟩ = false := frozen_whole hp6 _
  have hT7 := ((Turned.refl (· = B1) W).setCell (p := ⟨B1, 0, none⟩) rfl (.string ⟨pk'.toArray⟩)).setCell (p := ⟨B1, 1, none⟩) rfl (.string ⟨pv'.toArray⟩)
  have hp7 : ((W.setCell ⟨B1, 0, none⟩ (.string ⟨pk'.toArray⟩)).setCell ⟨B1, 1, none⟩ (.string ⟨pv'.toArray⟩)).heap[B1]? = some (.cells [.string ⟨pk'.toArray⟩, .string ⟨pv'.toArray⟩].toArray 38 (0, 0)) := heap_setCell_at (heap_setCell_at hp6 0 _) 1 _
  obtain ⟨W7, hW7⟩ : ∃ W7, (W.setCell ⟨B1, 0, none⟩ (.string ⟨pk'.toArray⟩)).setCell ⟨B1, 1, none⟩ (.string ⟨pv'.toArray⟩) = W7 := ⟨_, rfl⟩
  rw [hW7] at hT7 hp7
  have HL7 : Veil _ := ⟨HL6.out.turned HI.out hT7 (fun k hk => by have := HP0.out.2; have := HZ2.out; omega)⟩
  have HP7 : Veil _ := ⟨hp7⟩
  clear hT7 hp7 hp6 hB HL HL6 HP HTk HTv HI
  obtain ⟨b0, b1, b2⟩ := HL7.out.cells
  have p0 : W7.cell? ⟨B1, 0, none⟩ = some (.string ⟨pk'.toArray⟩) := cell_whole HP7.out 0
  have p1 : W7.cell? ⟨B1, 1, none⟩ = some (.string ⟨pv'.toArray⟩) := cell_whole HP7.out 1
  go_wp2_with (first
    | (go_at_call 22; refine (HPr.out _ _ HL8.out.s HL8.out.f).mono ?_; rintro e w10 ⟨v1, v2, v3, rfl, hown, hb⟩; obtain ⟨a10, rfl, rfl, rfl, hat, -⟩ := hown.parts; obtain ⟨W10, hW10⟩ : ∃ W10, w10.alloc (.cells #[.slice a10.pp tn.ps.length a10.cp, .slice a10.pk tn.ks.length a10.ck, .slice a10.pd tn.ds.length a10.cd] 26) = W10 := ⟨_, rfl⟩; have hb2 : Below w10.heap.size w10 W10 := (by rw [← hW10]; exact below_al (Below.refl _ _) _); have HN10 : Veil (NBox W10 w10.heap.size tn a10) := ⟨(by rw [← hW10]; exact NBox.new hat)⟩; have HN8b : Veil _ := ⟨HN8.out.below (bn_then hb hb2)⟩; have HL : Veil _ := ⟨HL8.out.below (bn_then hb hb2)⟩; clear hown hat hb hb2 b0 b1 b2 p0 p1; subst hW10)
    | (go_at_call 21; refine (HPu.out _ _ HL7.out.s HL7.out.f).mono ?_; rintro e w8 ⟨v1, v2, v3, rfl, hown, hb⟩; obtain ⟨a8, rfl, rfl, rfl, hat, -⟩ := hown.parts; obtain ⟨W8, hW8⟩ : ∃ W8, w8.alloc (.cells #[.slice a8.pp tn.ps.length a8.cp, .slice a8.pk tn.ks.length a8.ck, .slice a8.pd tn.ds.length a8.cd] 26) = W8 := ⟨_, rfl⟩; have hb2 : Below w8.heap.size w8 W8 := (by rw [← hW8]; exact below_al (Below.refl _ _) _); have HN8 : Veil (NBox W8 w8.heap.size tn a8) := ⟨(by rw [← hW8]; exact NBox.new hat)⟩; have HL8 : Veil _ := ⟨HL7.out.below (bn_then hb hb2)⟩; have HP8 : Veil _ := ⟨((bn_then hb hb2).block _ (lt_of_heap HP7.out)).trans HP7.out⟩; clear hown hat hb hb2 b0 b1 b2 p0 p1 q0 q1 f0 f1; obtain ⟨b0, b1, b2⟩ := HL8.out.cells; have p0 : W8.cell? ⟨B1, 0, none⟩ = some (.string ⟨pk'.toArray⟩) := cell_whole HP8.out 0; have p1 : W8.cell? ⟨B1, 1, none⟩ = some (.string ⟨pv'.toArray⟩) := cell_whole HP8.out 1; subst hW8))
  generalize hW10 : w10.alloc (.cells #[.slice a10.pp tn.ps.length a10.cp, .slice a10.pk tn.ks.length a10.ck, .slice a10.pd tn.ds.length a10.cd] 26) = W10 at *
  clear hW10 HPu HPr HL7 HP7 HL8 HN8
  refine region_pair 12
    [[], [], [(1, 42)], [(0, 41), (2, 43)], [(3, 44)], [(4, 40)], [(4, 40)], [(4, 40)], [], [(5, 45), (8, 12)], [(6, 46)], [(7, 47)]]
    [[], [], [1], [0, 2], [3], [4], [4], [4], [], [0, 1, 2, 3, 4, 5, 8], [0, 1, 2, 3, 4, 5, 6, 8, 9], [0, 1, 2, 3, 4, 5, 6, 7, 8, 9, 10]]
    [(0, 41), (1, 42), (2, 43), (3, 44), (4, 40), (5, 45), (6, 46), (7, 47), (8, 12), (10, 13), (11, 14)]
    (StepN W10 un) (fun W => Below W10.heap.size W10 W) (PutsF W10 un (.bool ub) (.int .i64 ue) (.agg #[.slice a'.pp m.ps.length a'.cp, .slice a'.pk m.ks.length a'.ck, .slice a'.pd m.ds.length a'.cd]) (.string ⟨key.toArray⟩) (.string ⟨key'.toArray⟩)) pm9 pm9_ok rfl (by kernel_rfl) _ rfl (fun _ _ hI hR => StepN.below hI hR) (fun i v u W W' _ hR hf => PutsF_step i v u W W' hR hf) (Below.refl _ _).drew ⟨?_, ?_, ?_, ?_, ?_, ?_, ?_, ?_, ?_, ?_, ?_, ?_, trivial⟩ ?_
  · intro vals W hB _
    have hB : Below W10.heap.size W10 W := hB
    obtain ⟨b0, b1, b2⟩ := (HL.out.below hB).cells
    dsimp only [putsL, slotOf]
    go_wp2
    exact ⟨rfl, .inl (Below.refl _ _), rfl⟩
  · intro vals W hB _
    have hB : Below W10.heap.size W10 W := hB
    dsimp only [putsL, slotOf]
    go_wp2
    exact ⟨rfl, .inl (Below.refl _ _), rfl⟩
  · intro vals W hB ⟨h1, _⟩
    have hB : Below W10.heap.size W10 W := hB
    have h1 : vals 1 = _ := h1
    dsimp only [putsL, slotOf]
    rw [h1]
    go_wp2_with ((go_at_call 19; refine (HTx.out _).mono ?_; rintro e w4 ⟨rfl, rfl⟩))
    exact ⟨rfl, .inl (Below.refl _ _), rfl⟩
  · intro vals W hB ⟨h0, h2, _⟩
    have hB : Below W10.heap.size W10 W := hB
    have h0 : vals 0 = _ := h0
    have h2 : vals 2 = _ := h2
    dsimp only [putsL, slotOf]
    rw [h0, h2]
    go_wp2_with ((go_at_call 23; refine (HDe.out _ _ (HL.out.below hB).s HL.out.f).mono ?_; rintro e w4 ⟨v1, v2, v3, rfl, hown, hb4⟩; obtain ⟨a4, rfl, rfl, rfl, hat4, -⟩ := hown.parts))
    exact ⟨rfl, .inl hb4, a4, rfl, hat4⟩
  · intro vals W hB ⟨h3, _⟩
    have hB : Below W10.heap.size W10 W := hB
    obtain ⟨a3, h3, hat3⟩ := h3
    dsimp only [putsL, slotOf]
    rw [h3]
    go_wp2
    exact ⟨rfl, .inl (Below.refl _ _), a3, rfl, hat3⟩
  · intro vals W hB ⟨h4, _⟩
    have hB : Below W10.heap.size W10 W := hB
    obtain ⟨a4, h4, hat4⟩ := h4
    dsimp only [putsL, slotOf]
    rw [h4]
    go_wp2
    exact ⟨rfl, .inl (Below.refl _ _), a4, rfl, hat4⟩
  · intro vals W hB ⟨h4, _⟩
    have hB : Below W10.heap.size W10 W := hB
    obtain ⟨a4, h4, hat4⟩ := h4
    dsimp only [putsL, slotOf]
    rw [h4]
    go_wp2
    exact ⟨rfl, .inl (Below.refl _ _), rfl⟩
  · intro vals W hB ⟨h4, _⟩
    have hB : Below W10.heap.size W10 W := hB
    obtain ⟨a4, h4, hat4⟩ := h4
    dsimp only [putsL, slotOf]
    rw [h4]
    go_wp2
    exact ⟨rfl, .inl (Below.refl _ _), rfl⟩
  · intro vals W hB _
    have hB : Below W10.heap.size W10 W := hB
    dsimp only [putsL, slotOf]
    go_wp2
    exact ⟨rfl, .inl (below_al (Below.refl _ _) _), _, hB.size, rfl, _, _, _, _, _, _, _, _, _, heap_alloc_new _ _⟩
  · intro vals W hB ⟨_, _, _, _, _, h5, h8, _⟩
    have hB : Below W10.heap.size W10 W := hB
    obtain ⟨a5, h5, hat5⟩ := h5
    obtain ⟨g8, hg8, h8, hbox⟩ := h8
    have hbox' := hbox
    obtain ⟨p1, n1, c1, p2, n2, c2, p3, n3, c3, hg⟩ := hbox'
    obtain ⟨⟨b0, b1, b2⟩, k0, k1, k2⟩ := box3 hg
    dsimp only [putsL, slotOf]
    rw [h5, h8]
    go_wp2
    exact ⟨rfl, .inr ⟨g8, a5, hg8, hbox, (nbox_set hat5 hbox).1, (nbox_set hat5 hbox).2⟩, g8, hg8, h8, a5, (nbox_set hat5 hbox).1⟩
  · intro vals W hB ⟨_, _, _, _, _, _, h6, _, _, _⟩
    have hB : Below W10.heap.size W10 W := hB
    have h6 : vals 6 = _ := h6
    dsimp only [putsL, slotOf]
    rw [h6]
    go_wp2
    exact ⟨rfl, .inl (Below.refl _ _), rfl⟩
  · intro vals W hB ⟨_, _, _, _, _, _, _, h7, _, _, _, _⟩
    have hB : Below W10.heap.size W10 W := hB
    have h7 : vals 7 = _ := h7
    dsimp only [putsL, slotOf]
    rw [h7]
    go_wp2
    exact ⟨rfl, .inl (Below.refl _ _), rfl⟩
  intro vals W12 hB hF
  have hB : Below W10.heap.size W10 W12 := hB
  have h0 : vals 0 = _ := hF 0 (by decide)
  have h1 : vals 1 = _ := hF 1 (by decide)
  have h2 : vals 2 = _ := hF 2 (by decide)
  have h6 : vals 6 = _ := hF 6 (by decide)
  have h7 : vals 7 = _ := hF 7 (by decide)
  have h10 : vals 10 = _ := hF 10 (by decide)
  have h11 : vals 11 = _ := hF 11 (by decide)
  obtain ⟨a3, h3, -⟩ := hF 3 (by decide)
  obtain ⟨a4, h4, -⟩ := hF 4 (by decide)
  obtain ⟨a5, h5, -⟩ := hF 5 (by decide)
  obtain ⟨g12, -, h8, a12, hN⟩ := hF 9 (by decide)
  have h8 : vals 8 = _ := h8
  dsimp only [putsL]
  rw [h0, h1, h2, h3, h4, h5, h6, h7, h8, h10, h11]
  clear h0 h1 h2 h3 h4 h5 h6 h7 h8 h10 h11 hF
  simp only [List.drop_succ_cons, List.drop_zero, List.setIfInBounds_toArray, List.set_cons_succ, List.set_cons_zero]
  have HL13 : Veil _ := ⟨HL.out.below hB⟩
  have HN8c : Veil _ := ⟨HN8b.out.below hB⟩
  have HN10c : Veil _ := ⟨HN10.out.below hB⟩
  have HN12 : Veil _ := ⟨hN⟩
  clear hB HL HN8b HN10 hN
  go_wp2
  have HL : Veil _ := ⟨HL13.out⟩
  clear HL13
  refine region_pair 12
    [[], [], [(1, 50)], [(0, 49), (2, 51)], [(3, 52)], [(4, 48)], [(4, 48)], [(4, 48)], [], [(5, 53), (8, 15)], [(6, 54)], [(7, 55)]]
    [[], [], [1], [0, 2], [3], [4], [4], [4], [], [0, 1, 2, 3, 4, 5, 8], [0, 1, 2, 3, 4, 5, 6, 8, 9], [0, 1, 2, 3, 4, 5, 6, 7, 8, 9, 10]]
    [(0, 49), (1, 50), (2, 51), (3, 52), (4, 48), (5, 53), (6, 54), (7, 55), (8, 15), (10, 16), (11, 17)]
    (StepN W12 un) (fun W => Below W12.heap.size W12 W) (PutsF W12 un (.bool ub) (.int .i64 ue) (.agg #[.slice a'.pp m.ps.length a'.cp, .slice a'.pk m.ks.length a'.ck, .slice a'.pd m.ds.length a'.cd]) (.string ⟨key.toArray⟩) (.string ⟨key'.toArray⟩)) pm9 pm9_ok rfl (by kernel_rfl) _ rfl (fun _ _ hI hR => StepN.below hI hR) (fun i v u W W' _ hR hf => PutsF_step i v u W W' hR hf) (Below.refl _ _).drew ⟨?_, ?_, ?_, ?_, ?_, ?_, ?_, ?_, ?_, ?_, ?_, ?_, trivial⟩ ?_
  · intro vals W hB _
    have hB : Below W12.heap.size W12 W := hB
    obtain ⟨b0, b1, b2⟩ := (HL.out.below hB).cells
    dsimp only [putsL, slotOf]
    go_wp2
    exact ⟨rfl, .inl (Below.refl _ _), rfl⟩
  · intro vals W hB _
    have hB : Below W12.heap.size W12 W := hB
    dsimp only [putsL, slotOf]
    go_wp2
    exact ⟨rfl, .inl (Below.refl _ _), rfl⟩
  · intro vals W hB ⟨h1, _⟩
    have hB : Below W12.heap.size W12 W := hB
    have h1 : vals 1 = _ := h1
    dsimp only [putsL, slotOf]
    rw [h1]
    go_wp2_with ((go_at_call 19; refine (HTx.out _).mono ?_; rintro e w4 ⟨rfl, rfl⟩))
    exact ⟨rfl, .inl (Below.refl _ _), rfl⟩
  · intro vals W hB ⟨h0, h2, _⟩
    have hB : Below W12.heap.size W12 W := hB
    have h0 : vals 0 = _ := h0
    have h2 : vals 2 = _ := h2
    dsimp only [putsL, slotOf]
    rw [h0, h2]
    go_wp2_with ((go_at_call 24; refine (HDr.out _ _ (HL.out.below hB).s).mono ?_; rintro e w4 ⟨v1, v2, v3, rfl, hown, hb4⟩; obtain ⟨a4, rfl, rfl, rfl, hat4, -⟩ := hown.parts))
    exact ⟨rfl, .inl hb4, a4, rfl, hat4⟩
  · intro vals W hB ⟨h3, _⟩
    have hB : Below W12.heap.size W12 W := hB
    obtain ⟨a3, h3, hat3⟩ := h3
    dsimp only [putsL, slotOf]
    rw [h3]
    go_wp2
    exact ⟨rfl, .inl (Below.refl _ _), a3, rfl, hat3⟩
  · intro vals W hB ⟨h4, _⟩
    have hB : Below W12.heap.size W12 W := hB
    obtain ⟨a4, h4, hat4⟩ := h4
    dsimp only [putsL, slotOf]
    rw [h4]
    go_wp2
    exact ⟨rfl, .inl (Below.refl _ _), a4, rfl, hat4⟩
  · intro vals W hB ⟨h4, _⟩
    have hB : Below W12.heap.size W12 W := hB
    obtain ⟨a4, h4, hat4⟩ := h4
    dsimp only [putsL, slotOf]
    rw [h4]
    go_wp2
    exact ⟨rfl, .inl (Below.refl _ _), rfl⟩
  · intro vals W hB ⟨h4, _⟩
    have hB : Below W12.heap.size W12 W := hB
    obtain ⟨a4, h4, hat4⟩ := h4
    dsimp only [putsL, slotOf]
    rw [h4]
    go_wp2
    exact ⟨rfl, .inl (Below.refl _ _), rfl⟩
  · intro vals W hB _
    have hB : Below W12.heap.size W12 W := hB
    dsimp only [putsL, slotOf]
    go_wp2
    exact ⟨rfl, .inl (below_al (Below.refl _ _) _), _, hB.size, rfl, _, _, _, _, _, _, _, _, _, heap_alloc_new _ _⟩
  · intro vals W hB ⟨_, _, _, _, _, h5, h8, _⟩
    have hB : Below W12.heap.size W12 W := hB
    obtain ⟨a5, h5, hat5⟩ := h5
    obtain ⟨g8, hg8, h8, hbox⟩ := h8
    have hbox' := hbox
    obtain ⟨p1, n1, c1, p2, n2, c2, p3, n3, c3, hg⟩ := hbox'
    obtain ⟨⟨b0, b1, b2⟩, k0, k1, k2⟩ := box3 hg
    dsimp only [putsL, slotOf]
    rw [h5, h8]
    go_wp2
    exact ⟨rfl, .inr ⟨g8, a5, hg8, hbox, (nbox_set hat5 hbox).1, (nbox_set hat5 hbox).2⟩, g8, hg8, h8, a5, (nbox_set hat5 hbox).1⟩
  · intro vals W hB ⟨_, _, _, _, _, _, h6, _, _, _⟩
    have hB : Below W12.heap.size W12 W := hB
    have h6 : vals 6 = _ := h6
    dsimp only [putsL, slotOf]
    rw [h6]
    go_wp2
    exact ⟨rfl, .inl (Below.refl _ _), rfl⟩
  · intro vals W hB ⟨_, _, _, _, _, _, _, h7, _, _, _, _⟩
    have hB : Below W12.heap.size W12 W := hB
    have h7 : vals 7 = _ := h7
    dsimp only [putsL, slotOf]
    rw [h7]
    go_wp2
    exact ⟨rfl, .inl (Below.refl _ _), rfl⟩
  intro vals W15 hB hF
  have hB : Below W12.heap.size W12 W15 := hB
  have h0 : vals 0 = _ := hF 0 (by decide)
  have h1 : vals 1 = _ := hF 1 (by decide)
  have h2 : vals 2 = _ := hF 2 (by decide)
  have h6 : vals 6 = _ := hF 6 (by decide)
  have h7 : vals 7 = _ := hF 7 (by decide)
  have h10 : vals 10 = _ := hF 10 (by decide)
  have h11 : vals 11 = _ := hF 11 (by decide)
  obtain ⟨a3, h3, -⟩ := hF 3 (by decide)
  obtain ⟨a4, h4, -⟩ := hF 4 (by decide)
  obtain ⟨a5, h5, -⟩ := hF 5 (by decide)
  obtain ⟨g15, -, h8, a15, hN⟩ := hF 9 (by decide)
  have h8 : vals 8 = _ := h8
  dsimp only [putsL]
  rw [h0, h1, h2, h3, h4, h5, h6, h7, h8, h10, h11]
  clear h0 h1 h2 h3 h4 h5 h6 h7 h8 h10 h11 hF
  simp only [List.drop_succ_cons, List.drop_zero, List.setIfInBounds_toArray, List.set_cons_succ, List.set_cons_zero]
  have HX16 : Veil _ := ⟨(HL.out.below hB).x⟩
  have HN8f : Veil _ := ⟨HN8c.out.below hB⟩
  have HN10e : Veil _ := ⟨HN10c.out.below hB⟩
  have HN12c : Veil _ := ⟨HN12.out.below hB⟩
  have HN15 : Veil _ := ⟨hN⟩
  clear hB HL HN8c HN10c HN12 hN
  obtain ⟨x0, x1, x2⟩ := HN8f.out.cells
  obtain ⟨y0, y1, y2⟩ := HN10e.out.cells
  go_wp2_with (first
    | (go_at_call 25; (with_reducible refine (HSu.out _ _ _ HN12d.out.s HN15b.out.s).mono ?_); rintro e w18 ⟨rfl, hb18⟩; have HX18 : Veil _ := ⟨bn_then HX17.out hb18⟩; clear hb18)
    | (go_at_call 25; (with_reducible refine (HSt.out _ _ _ HN8f.out.s HN10e.out.s).mono ?_); rintro e w17 ⟨rfl, hb17⟩; have HX17 : Veil _ := ⟨bn_then HX16.out hb17⟩; have HN12d : Veil _ := ⟨HN12c.out.below hb17⟩; have HN15b : Veil _ := ⟨HN15.out.below hb17⟩; clear hb17 x0 x1 x2 y0 y1 y2; obtain ⟨x0, x1, x2⟩ := HN12d.out.cells; obtain ⟨y0, y1, y2⟩ := HN15b.out.cells))
  go_ret
  exact ⟨rfl, HX18.out⟩
end Go.Proofs.Ytfpcknkinlegcaa
