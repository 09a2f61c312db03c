/- The law NodeFinds. -/
import Derived.Test.YtfpcknkinlegcaaKOL
import Derived.Test.YtfpcknkinlegcaaKOP
namespace Go.Proofs.Ytfpcknkinlegcaa
open Go Go.RowKit Sm
attribute [local go_sem] Oper.semAt_some

set_option maxRecDepth 20000 in
set_option maxHeartbeats 4000000 in
theorem nodeFinds_any {w : World} {n : Nd} {a : NdP} (h : NdIn w n a) (p : Pr) (hp : p.k.length ≤ 9223372036854775807 ∧ p.v.length ≤ 9223372036854775807) : Calls Try.prog 7 #[n.v a, p.vv] w fun e w' => e = .returned (.bool true) ∧ Below w.heap.size w w' := by
  have HC : Veil (∀ W, NdAt W n a → Calls Try.prog 11 #[n.v a] W fun e w' => ∃ v1 v2 v3, e = .returned (.agg #[v1, v2, v3]) ∧ NdOwn w' W.heap.size v1 v2 v3 n.cut ∧ Below W.heap.size W w') := ⟨fun W hW => lawcut_of hW h.f h.p h.k⟩
  have hok := h.cut_ok
  have hpt : (cutPr p).k.length ≤ 1000000 ∧ (cutPr p).v.length ≤ 1000000 := by simp only [cutPr, List.length_take]; omega
  have HTk : Veil (∀ W, Calls Try.prog 19 #[.string ⟨p.k.toArray⟩] W fun e w' => e = .returned (.string ⟨(p.k.take 70).toArray⟩) ∧ w' = W) := ⟨fun W => lawtext_any p.k hp.1 W⟩
  have HTv : Veil (∀ W, Calls Try.prog 19 #[.string ⟨p.v.toArray⟩] W fun e w' => e = .returned (.string ⟨(p.v.take 70).toArray⟩) ∧ w' = W) := ⟨fun W => lawtext_any p.v hp.2 W⟩
  have HPu : Veil (∀ W a', NdAt W n.cut a' → NdFit n.cut a' → Calls Try.prog 21 #[n.cut.v a', .agg #[.string ⟨(p.k.take 70).toArray⟩, .string ⟨(p.v.take 70).toArray⟩]] W (PutPost W (n.cut.putR (cutPr p)))) := ⟨fun W a' h hf => nput_of h hf.p ⟨hok⟩ (cutPr p) hpt⟩
  have HDm : Veil (∀ W a', NdAt W n.cut a' → NdFit n.cut a' → Calls Try.prog 23 #[n.cut.v a', .string ⟨(p.k.take 70).toArray⟩] W (DelPost W (n.cut.delP (p.k.take 70)))) := ⟨fun W a' h hf => ndelete_of h hf.p ⟨hok⟩ _ hpt.1⟩
  have hB0 := NdBox.new h.s
  obtain ⟨W0, hW0⟩ : ∃ W0, w.alloc (.cells #[.slice a.pp n.ps.length a.cp, .slice a.pk n.ks.length a.ck, .slice a.pd n.ds.length a.cd] 26) = W0 := ⟨_, rfl⟩
  rw [hW0] at hB0
  obtain ⟨W1, hW1⟩ : ∃ W1, W0.alloc (.cells #[.string ⟨p.k.toArray⟩, .string ⟨p.v.toArray⟩] 38) = W1 := ⟨_, rfl⟩
  have hb1 : Below W0.heap.size W0 W1 := by rw [← hW1]; exact below_al (Below.refl _ _) _
  have HB : Veil _ := ⟨hB0.below hb1⟩
  obtain ⟨B1, hB1⟩ : ∃ B1, W0.heap.size = B1 := ⟨_, rfl⟩
  have HP0 : Veil (W1.heap[B1]? = some (.cells [.string ⟨p.k.toArray⟩, .string ⟨p.v.toArray⟩].toArray 38 (0, 0)) ∧ w.heap.size < B1) := ⟨by rw [← hB1, ← hW1]; exact heap_alloc_new _ _, by rw [← hB1]; exact lt_of_heap hB0.b⟩
  clear hb1 hB0
  cases hg : (n.cut.leaf && (n.cut.putM (cutPr p)).right)
  · have hR : n.cut.putR (cutPr p) = (Nd.zero, 60) := by rw [Nd.putR, hg]; rfl
    rw [hR] at HPu
    clear h hok hpt hg hR HDm
    revert HC; revert HTk; revert HTv; revert HPu
    generalize n.cut = m
    obtain ⟨pk, pv⟩ := p
    unfold Pr.vv
    dsimp only at *
    generalize pk.take 70 = pk'
    generalize pv.take 70 = pv'
    intro HPu HTv HTk HC
    unfold PutPost at HPu
    unfold Nd.v at *
    go_enter Try.func7, Try.ntmps7
    go_wp2_with (first
      | (go_at_call 11; refine (HC.out _ HB2.out.s).mono ?_; rintro e w3 ⟨v1, v2, v3, rfl, hown, hb3⟩; obtain ⟨a', W4, rfl, rfl, rfl, hW4, hL, hhi, hT4⟩ := law_cutJ HB2.out hb3 hown; have HL : Veil _ := ⟨hL⟩; have HI : Veil _ := ⟨hhi⟩; have HP : Veil (W4.heap[B1]? = some (.cells [.string ⟨pk.toArray⟩, .string ⟨pv.toArray⟩].toArray 38 (0, 0))) := ⟨hT4.heap ((hb3.block _ (lt_of_heap HP2.out)).trans HP2.out) (by have := HP0.out.2; omega)⟩; have hB3 := (HB2.out.below hb3).b; clear hL hhi hT4 hown hb3 a0 a1 a2; obtain ⟨⟨a0, a1, a2⟩, k0, k1, k2⟩ := box3 hB3; clear hB3)
      | (go_at_call 10; refine (shown_any _).mono ?_; rintro e w2 ⟨rfl, hb2⟩; have HB2 : Veil _ := ⟨HB.out.below hb2⟩; have HP2 : Veil _ := ⟨(hb2.block _ (lt_of_heap HP0.out.1)).trans HP0.out.1⟩; clear hb2; obtain ⟨a0, a1, a2⟩ := HB2.out.cells))
    have HZ2 : Veil (B1 < w2.heap.size) := ⟨lt_of_heap HP2.out⟩
    try simp only [hB1]
    clear a0 a1 a2 k0 k1 k2 hW4 hW1 hW0 HB HB2 HC HP2
    refine region_new [.is (.pointer (some ⟨B1, 0, none⟩)), .is (.string ⟨pk.toArray⟩), .is (.string ⟨pk'.toArray⟩), .is (.pointer (some ⟨B1, 1, none⟩)), .is (.string ⟨pv.toArray⟩), .is (.string ⟨pv'.toArray⟩)]
      [[], [(0, 19)], [(1, 20)], [], [(3, 22)], [(4, 23)]]
      [[], [0], [1], [], [3], [2, 4]]
      [(0, 19), (1, 20), (2, 21), (3, 22), (4, 23), (5, 24)] rfl (by kernel_rfl) ⟨?_, ?_, ?_, ?_, ?_, ?_, trivial⟩ ?_
    · intro vals W hB _
      dsimp only [putsL, slotOf]
      go_wp2
      exact ⟨rfl, Below.refl _ _, rfl⟩
    · intro vals W hB ⟨h0, _⟩
      have h0 : vals 0 = _ := h0
      have q : W.cell? ⟨B1, 0, none⟩ = some (.string ⟨pk.toArray⟩) := cell_whole ((hB.block _ (lt_of_heap HP.out)).trans HP.out) 0
      dsimp only [putsL, slotOf]
      rw [h0]
      go_wp2
      exact ⟨rfl, Below.refl _ _, rfl⟩
    · intro vals W hB ⟨h1, _⟩
      have h1 : vals 1 = _ := h1
      dsimp only [putsL, slotOf]
      rw [h1]
      go_wp2_with ((go_at_call 19; refine (HTk.out _).mono ?_; rintro e w4 ⟨rfl, rfl⟩; have hb4 := Below.refl w4.heap.size w4))
      exact ⟨rfl, hb4, rfl⟩
    · intro vals W hB _
      dsimp only [putsL, slotOf]
      go_wp2
      exact ⟨rfl, Below.refl _ _, rfl⟩
    · intro vals W hB ⟨h3, _⟩
      have h3 : vals 3 = _ := h3
      have q : W.cell? ⟨B1, 1, none⟩ = some (.string ⟨pv.toArray⟩) := cell_whole ((hB.block _ (lt_of_heap HP.out)).trans HP.out) 1
      dsimp only [putsL, slotOf]
      rw [h3]
      go_wp2
      exact ⟨rfl, Below.refl _ _, rfl⟩
    · intro vals W hB ⟨h2, h4, _⟩
      have h4 : vals 4 = _ := h4
      dsimp only [putsL, slotOf]
      rw [h4]
      go_wp2_with ((go_at_call 19; refine (HTv.out _).mono ?_; rintro e w4 ⟨rfl, rfl⟩; have hb4 := Below.refl w4.heap.size w4))
      exact ⟨rfl, hb4, rfl⟩
    rintro vals W hB ⟨q0, q1, q2, q3, q4, q5, -⟩
    have h0 : vals 0 = _ := q0
    have h1 : vals 1 = _ := q1
    have h2 : vals 2 = _ := q2
    have h3 : vals 3 = _ := q3
    have h4 : vals 4 = _ := q4
    have h5 : vals 5 = _ := q5
    dsimp only [putsL]
    rw [h0, h1, h2, h3, h4, h5]
    clear h0 q0 h1 q1 h2 q2 h3 q3 h4 q4 h5 q5
    simp only [List.length_cons, List.length_nil, Nat.reduceAdd, List.drop_succ_cons, List.drop_zero, List.setIfInBounds_toArray, List.set_cons_succ, List.set_cons_zero]
    have HL6 : Veil _ := ⟨HL.out.below hB⟩
    have hp6 := (hB.block _ (lt_of_heap HP.out)).trans HP.out
    have q0 : W.cell? ⟨B1, 0, none⟩ = some (.string ⟨pk.toArray⟩) := cell_whole hp6 0
    have q1 : W.cell? ⟨B1, 1, none⟩ = some (.string ⟨pv.toArray⟩) := cell_whole hp6 1
    have f0 : W.frozen? ⟨B1, 0, none⟩ = false := frozen_whole hp6 _
    have f1 : W.frozen? ⟨B1, 1, none⟩ = false := frozen_whole hp6 _
    have hT7 := ((Turned.refl (· = B1) W).setCell (p := ⟨B1, 0, none⟩) rfl (.string ⟨pk'.toArray⟩)).setCell (p := ⟨B1, 1, none⟩) rfl (.string ⟨pv'.toArray⟩)
    have hp7 : ((W.setCell ⟨B1, 0, none⟩ (.string ⟨pk'.toArray⟩)).setCell ⟨B1, 1, none⟩ (.string ⟨pv'.toArray⟩)).heap[B1]? = some (.cells [.string ⟨pk'.toArray⟩, .string ⟨pv'.toArray⟩].toArray 38 (0, 0)) := heap_setCell_at (heap_setCell_at hp6 0 _) 1 _
    obtain ⟨W7, hW7⟩ : ∃ W7, (W.setCell ⟨B1, 0, none⟩ (.string ⟨pk'.toArray⟩)).setCell ⟨B1, 1, none⟩ (.string ⟨pv'.toArray⟩) = W7 := ⟨_, rfl⟩
    rw [hW7] at hT7 hp7
    have HL7 : Veil _ := ⟨HL6.out.turned HI.out hT7 (fun k hk => by have := HP0.out.2; have := HZ2.out; omega)⟩
    have HP7 : Veil _ := ⟨hp7⟩
    clear hT7 hp7 hp6 hB HL HL6 HP HTk HTv HI
    obtain ⟨b0, b1, b2⟩ := HL7.out.cells
    have p0 : W7.cell? ⟨B1, 0, none⟩ = some (.string ⟨pk'.toArray⟩) := cell_whole HP7.out 0
    have p1 : W7.cell? ⟨B1, 1, none⟩ = some (.string ⟨pv'.toArray⟩) := cell_whole HP7.out 1
    go_wp2_with (go_at_call 21; refine (HPu.out _ _ HL7.out.s HL7.out.f).mono ?_; rintro e w8 ⟨v1, v2, v3, rfl, hown, hb⟩; obtain ⟨a8, rfl, rfl, rfl, hat, -⟩ := hown.parts; have HX8 : Veil _ := ⟨bn_then HL7.out.x hb⟩; clear hown hat hb b0 b1 b2 p0 p1 q0 q1 f0 f1)
    go_ret
    exact ⟨rfl, below_al HX8.out _⟩
  · rw [Bool.and_eq_true] at hg
    have hR : n.cut.putR (cutPr p) = (n.cut.putM (cutPr p), 0) := by rw [Nd.putR, hg.1, hg.2]; rfl
    obtain ⟨g1, g2, g3, g4, g5, g6⟩ := finds_facts hg.1 hg.2
    have hck : (cutPr p).k = p.k.take 70 := rfl
    rw [hck] at g1 g2 g3 g4 g5 g6
    clear hck
    have hqok := putM_ok hok hg.1 hpt
    have HPq : Veil (∀ W a', NdAt W (n.cut.putM (cutPr p)) a' → Calls Try.prog 18 #[(n.cut.putM (cutPr p)).v a', .string ⟨(p.k.take 70).toArray⟩] W fun e w' => e = .returned (.int .i64 (n.cut.place (p.k.take 70))) ∧ Below W.heap.size W w') := ⟨fun W a' h => by
      have := nplace_of h ⟨hqok⟩ (p.k.take 70) hpt.1
      rwa [g1] at this⟩
    have HRq : Veil (∀ W a', NdAt W (n.cut.putM (cutPr p)) a' → Calls Try.prog 14 #[(n.cut.putM (cutPr p)).v a'] W fun e w' => e = .returned (.bool true) ∧ Below W.heap.size W w') := ⟨fun W a' h => by
      have := nright_of h ⟨hqok⟩
      rwa [hg.2] at this⟩
    have HDq : Veil (∀ W a', NdAt W (n.cut.putM (cutPr p)) a' → NdFit (n.cut.putM (cutPr p)) a' → Calls Try.prog 23 #[(n.cut.putM (cutPr p)).v a', .string ⟨(p.k.take 70).toArray⟩] W (DelPost W ((n.cut.putM (cutPr p)).delP (p.k.take 70)))) := ⟨fun W a' h hf => ndelete_of h hf.p ⟨hqok⟩ _ hpt.1⟩
    have huok := delP_ok hok (p.k.take 70)
    have g4' : (n.cut.putM (cutPr p)).delP (p.k.take 70) = _ := g4
    have g5' : n.cut.delP (p.k.take 70) = _ := g5
    rw [g5'] at huok HDm
    rw [g4'] at HDq
    have hml : n.cut.ps.length ≤ 100000 := hok.p
    have hql : (n.cut.putM (cutPr p)).ps.length ≤ 100000 := hqok.p
    rw [hR] at HPu
    have HQ0 : Veil ((n.cut.putM (cutPr p)).ks = [] ∧ (n.cut.putM (cutPr p)).ds = []) := ⟨rfl, rfl⟩
    have g2' : n.cut.place (p.k.take 70) < (n.cut.putM (cutPr p)).ps.length := g2
    have g3' : (n.cut.putM (cutPr p)).ps.getD (n.cut.place (p.k.take 70)) Pr.zero = ⟨p.k.take 70, p.v.take 70⟩ := g3
    have g6' : (n.cut.putM (cutPr p)).ps.length = n.cut.ps.length + if n.cut.hit (p.k.take 70) = true then 0 else 1 := g6
    clear h hok hpt hg hR hqok g1 g2 g3 g4 g5 g6 g4' g5' hp
    revert HC; revert HTk; revert HTv; revert HPu; revert HDm; revert HPq; revert HRq; revert HDq; revert huok; revert hml; revert hql; revert HQ0; revert g2'; revert g3'; revert g6'
    dsimp only [cutPr]
    generalize n.cut.ps.take (n.cut.place (p.k.take 70)) ++ [] ++ n.cut.ps.drop (n.cut.past (p.k.take 70)) = U
    generalize n.cut.putM ⟨p.k.take 70, p.v.take 70⟩ = Qn
    generalize n.cut.hit (p.k.take 70) = hit
    generalize n.cut.place (p.k.take 70) = k
    generalize n.cut = m
    obtain ⟨pk, pv⟩ := p
    unfold Pr.vv
    dsimp only at *
    generalize pk.take 70 = pk'
    generalize pv.take 70 = pv'
    intro g6 g3 g2 HQ0 hql hml huok HDq HRq HPq HDm HPu HTv HTk HC
    obtain ⟨Q, Qk, Qd⟩ := Qn
    obtain ⟨rfl, rfl⟩ : Qk = [] ∧ Qd = [] := HQ0.out
    dsimp only at g6 g3 g2 hql
    have HS : Veil (∀ W a c, NdAt W ⟨U, [], []⟩ a → NdAt W ⟨U, [], []⟩ c → Calls Try.prog 25 #[Nd.v ⟨U, [], []⟩ a, Nd.v ⟨U, [], []⟩ c] W fun e w' => e = .returned (.bool true) ∧ Below W.heap.size W w') := ⟨fun W a c h1 h2 => refsame_of h1 h2 ⟨huok⟩⟩
    clear huok HQ0
    have G3 : Veil _ := ⟨g3⟩
    have G6 : Veil _ := ⟨g6⟩
    clear g3 g6
    unfold PutPost at HPu
    unfold DelPost at HDm HDq
    unfold Nd.v at *
    dsimp only [List.length_nil] at *
    cases hit
    · go_enter Try.func7, Try.ntmps7
      go_wp2_with (first
        | (go_at_call 11; refine (HC.out _ HB2.out.s).mono ?_; rintro e w3 ⟨v1, v2, v3, rfl, hown, hb3⟩; obtain ⟨a', W4, rfl, rfl, rfl, hW4, hL, hhi, hT4⟩ := law_cutJ HB2.out hb3 hown; have HL : Veil _ := ⟨hL⟩; have HI : Veil _ := ⟨hhi⟩; have HP : Veil (W4.heap[B1]? = some (.cells [.string ⟨pk.toArray⟩, .string ⟨pv.toArray⟩].toArray 38 (0, 0))) := ⟨hT4.heap ((hb3.block _ (lt_of_heap HP2.out)).trans HP2.out) (by have := HP0.out.2; omega)⟩; have hB3 := (HB2.out.below hb3).b; clear hL hhi hT4 hown hb3 a0 a1 a2; obtain ⟨⟨a0, a1, a2⟩, k0, k1, k2⟩ := box3 hB3; clear hB3)
        | (go_at_call 10; refine (shown_any _).mono ?_; rintro e w2 ⟨rfl, hb2⟩; have HB2 : Veil _ := ⟨HB.out.below hb2⟩; have HP2 : Veil _ := ⟨(hb2.block _ (lt_of_heap HP0.out.1)).trans HP0.out.1⟩; clear hb2; obtain ⟨a0, a1, a2⟩ := HB2.out.cells))
      have HZ2 : Veil (B1 < w2.heap.size) := ⟨lt_of_heap HP2.out⟩
      try simp only [hB1]
      clear a0 a1 a2 k0 k1 k2 hW4 hW1 hW0 HB HB2 HC HP2
      refine region_new [.is (.pointer (some ⟨B1, 0, none⟩)), .is (.string ⟨pk.toArray⟩), .is (.string ⟨pk'.toArray⟩), .is (.pointer (some ⟨B1, 1, none⟩)), .is (.string ⟨pv.toArray⟩), .is (.string ⟨pv'.toArray⟩)]
        [[], [(0, 19)], [(1, 20)], [], [(3, 22)], [(4, 23)]]
        [[], [0], [1], [], [3], [2, 4]]
        [(0, 19), (1, 20), (2, 21), (3, 22), (4, 23), (5, 24)] rfl (by kernel_rfl) ⟨?_, ?_, ?_, ?_, ?_, ?_, trivial⟩ ?_
      · intro vals W hB _
        dsimp only [putsL, slotOf]
        go_wp2
        exact ⟨rfl, Below.refl _ _, rfl⟩
      · intro vals W hB ⟨h0, _⟩
        have h0 : vals 0 = _ := h0
        have q : W.cell? ⟨B1, 0, none⟩ = some (.string ⟨pk.toArray⟩) := cell_whole ((hB.block _ (lt_of_heap HP.out)).trans HP.out) 0
        dsimp only [putsL, slotOf]
        rw [h0]
        go_wp2
        exact ⟨rfl, Below.refl _ _, rfl⟩
      · intro vals W hB ⟨h1, _⟩
        have h1 : vals 1 = _ := h1
        dsimp only [putsL, slotOf]
        rw [h1]
        go_wp2_with ((go_at_call 19; refine (HTk.out _).mono ?_; rintro e w4 ⟨rfl, rfl⟩; have hb4 := Below.refl w4.heap.size w4))
        exact ⟨rfl, hb4, rfl⟩
      · intro vals W hB _
        dsimp only [putsL, slotOf]
        go_wp2
        exact ⟨rfl, Below.refl _ _, rfl⟩
      · intro vals W hB ⟨h3, _⟩
        have h3 : vals 3 = _ := h3
        have q : W.cell? ⟨B1, 1, none⟩ = some (.string ⟨pv.toArray⟩) := cell_whole ((hB.block _ (lt_of_heap HP.out)).trans HP.out) 1
        dsimp only [putsL, slotOf]
        rw [h3]
        go_wp2
        exact ⟨rfl, Below.refl _ _, rfl⟩
      · intro vals W hB ⟨h2, h4, _⟩
        have h4 : vals 4 = _ := h4
        dsimp only [putsL, slotOf]
        rw [h4]
        go_wp2_with ((go_at_call 19; refine (HTv.out _).mono ?_; rintro e w4 ⟨rfl, rfl⟩; have hb4 := Below.refl w4.heap.size w4))
        exact ⟨rfl, hb4, rfl⟩
      rintro vals W hB ⟨q0, q1, q2, q3, q4, q5, -⟩
      have h0 : vals 0 = _ := q0
      have h1 : vals 1 = _ := q1
      have h2 : vals 2 = _ := q2
      have h3 : vals 3 = _ := q3
      have h4 : vals 4 = _ := q4
      have h5 : vals 5 = _ := q5
      dsimp only [putsL]
      rw [h0, h1, h2, h3, h4, h5]
      clear h0 q0 h1 q1 h2 q2 h3 q3 h4 q4 h5 q5
      simp only [List.length_cons, List.length_nil, Nat.reduceAdd, List.drop_succ_cons, List.drop_zero, List.setIfInBounds_toArray, List.set_cons_succ, List.set_cons_zero]
      have HL6 : Veil _ := ⟨HL.out.below hB⟩
      have hp6 := (hB.block _ (lt_of_heap HP.out)).trans HP.out
      have q0 : W.cell? ⟨B1, 0, none⟩ = some (.string ⟨pk.toArray⟩) := cell_whole hp6 0
      have q1 : W.cell? ⟨B1, 1, none⟩ = some (.string ⟨pv.toArray⟩) := cell_whole hp6 1
      have f0 : W.frozen? ⟨B1, 0, none⟩ = false := frozen_whole hp6 _
      have f1 : W.frozen? ⟨B1, 1, none⟩ = false := frozen_whole hp6 _
      have hT7 := ((Turned.refl (· = B1) W).setCell (p := ⟨B1, 0, none⟩) rfl (.string ⟨pk'.toArray⟩)).setCell (p := ⟨B1, 1, none⟩) rfl (.string ⟨pv'.toArray⟩)
      have hp7 : ((W.setCell ⟨B1, 0, none⟩ (.string ⟨pk'.toArray⟩)).setCell ⟨B1, 1, none⟩ (.string ⟨pv'.toArray⟩)).heap[B1]? = some (.cells [.string ⟨pk'.toArray⟩, .string ⟨pv'.toArray⟩].toArray 38 (0, 0)) := heap_setCell_at (heap_setCell_at hp6 0 _) 1 _
      obtain ⟨W7, hW7⟩ : ∃ W7, (W.setCell ⟨B1, 0, none⟩ (.string ⟨pk'.toArray⟩)).setCell ⟨B1, 1, none⟩ (.string ⟨pv'.toArray⟩) = W7 := ⟨_, rfl⟩
      rw [hW7] at hT7 hp7
      have HL7 : Veil _ := ⟨HL6.out.turned HI.out hT7 (fun k hk => by have := HP0.out.2; have := HZ2.out; omega)⟩
      have HP7 : Veil _ := ⟨hp7⟩
      clear hT7 hp7 hp6 hB HL HL6 HP HTk HTv HI
      obtain ⟨b0, b1, b2⟩ := HL7.out.cells
      have p0 : W7.cell? ⟨B1, 0, none⟩ = some (.string ⟨pk'.toArray⟩) := cell_whole HP7.out 0
      have p1 : W7.cell? ⟨B1, 1, none⟩ = some (.string ⟨pv'.toArray⟩) := cell_whole HP7.out 1
      go_wp2_with (first
        | (go_at_call 14; refine (HRq.out _ _ HN8.out.s).mono ?_; rintro e w13 ⟨rfl, hb⟩; replace HL : Veil _ := ⟨HL.out.below hb⟩; replace HN8 : Veil _ := ⟨HN8.out.below hb⟩; replace HN9 : Veil _ := ⟨HN9.out.below hb⟩; replace HN12 : Veil _ := ⟨HN12.out.below hb⟩; replace HP : Veil _ := ⟨(hb.block _ (lt_of_heap HP.out)).trans HP.out⟩; clear hb b0 b1 b2 p0 p1 x0 x1 x2)
        | (go_at_call 23; (with_reducible refine (HDm.out _ _ HL.out.s HL.out.f).mono ?_); rintro e w12 ⟨v1, v2, v3, rfl, hown, hb⟩; obtain ⟨a12, rfl, rfl, rfl, hat, -⟩ := hown.parts; dsimp only [List.length_nil]; obtain ⟨W12, hW12⟩ : ∃ W12, w12.alloc (.cells #[.slice a12.pp U.length a12.cp, .slice a12.pk 0 a12.ck, .slice a12.pd 0 a12.cd] 26) = W12 := ⟨_, rfl⟩; have hb2 : Below w12.heap.size w12 W12 := (by rw [← hW12]; exact below_al (Below.refl _ _) _); have HN12 : Veil (NBox W12 w12.heap.size ⟨U, [], []⟩ a12) := ⟨(by rw [← hW12]; exact NBox.new hat)⟩; replace HL : Veil _ := ⟨HL.out.below (bn_then hb hb2)⟩; replace HN8 : Veil _ := ⟨HN8.out.below (bn_then hb hb2)⟩; replace HN9 : Veil _ := ⟨HN9.out.below (bn_then hb hb2)⟩; replace HP : Veil _ := ⟨((bn_then hb hb2).block _ (lt_of_heap HP.out)).trans HP.out⟩; clear hown hat hb hb2 b0 b1 b2 p0 p1 x0 x1 x2; obtain ⟨x0, x1, x2⟩ := HN8.out.cells; dsimp only [List.length_nil] at x1 x2; obtain ⟨b0, b1, b2⟩ := HL.out.cells; have p0 : W12.cell? ⟨B1, 0, none⟩ = some (.string ⟨pk'.toArray⟩) := cell_whole HP.out 0; have p1 : W12.cell? ⟨B1, 1, none⟩ = some (.string ⟨pv'.toArray⟩) := cell_whole HP.out 1; subst hW12)
        | (go_at_call 23; (with_reducible refine (HDq.out _ _ HN8.out.s HF8.out).mono ?_); rintro e w9 ⟨v1, v2, v3, rfl, hown, hb⟩; obtain ⟨a9, rfl, rfl, rfl, hat, -⟩ := hown.parts; dsimp only [List.length_nil]; obtain ⟨W9, hW9⟩ : ∃ W9, w9.alloc (.cells #[.slice a9.pp U.length a9.cp, .slice a9.pk 0 a9.ck, .slice a9.pd 0 a9.cd] 26) = W9 := ⟨_, rfl⟩; have hb2 : Below w9.heap.size w9 W9 := (by rw [← hW9]; exact below_al (Below.refl _ _) _); have HN9 : Veil (NBox W9 w9.heap.size ⟨U, [], []⟩ a9) := ⟨(by rw [← hW9]; exact NBox.new hat)⟩; replace HL : Veil _ := ⟨HL.out.below (bn_then hb hb2)⟩; replace HN8 : Veil _ := ⟨HN8.out.below (bn_then hb hb2)⟩; replace HP : Veil _ := ⟨((bn_then hb hb2).block _ (lt_of_heap HP.out)).trans HP.out⟩; clear hown hat hb hb2 b0 b1 b2 p0 p1 x0 x1 x2; obtain ⟨x0, x1, x2⟩ := HN8.out.cells; dsimp only [List.length_nil] at x1 x2; obtain ⟨b0, b1, b2⟩ := HL.out.cells; have p0 : W9.cell? ⟨B1, 0, none⟩ = some (.string ⟨pk'.toArray⟩) := cell_whole HP.out 0; have p1 : W9.cell? ⟨B1, 1, none⟩ = some (.string ⟨pv'.toArray⟩) := cell_whole HP.out 1; subst hW9)
        | (go_at_call 18; refine (HPq.out _ _ HN8.out.s).mono ?_; rintro e w10 ⟨rfl, hb⟩; replace HL : Veil _ := ⟨HL.out.below hb⟩; replace HN8 : Veil _ := ⟨HN8.out.below hb⟩; replace HP : Veil _ := ⟨(hb.block _ (lt_of_heap HP.out)).trans HP.out⟩; clear hb b0 b1 b2 p0 p1 x0 x1 x2; obtain ⟨x0, x1, x2⟩ := HN8.out.cells; dsimp only [List.length_nil] at x1 x2; obtain ⟨b0, b1, b2⟩ := HL.out.cells; have p0 : w10.cell? ⟨B1, 0, none⟩ = some (.string ⟨pk'.toArray⟩) := cell_whole HP.out 0; have p1 : w10.cell? ⟨B1, 1, none⟩ = some (.string ⟨pv'.toArray⟩) := cell_whole HP.out 1)
        | (go_at_call 21; refine (HPu.out _ _ HL7.out.s HL7.out.f).mono ?_; rintro e w8 ⟨v1, v2, v3, rfl, hown, hb⟩; obtain ⟨a8, rfl, rfl, rfl, hat, hft⟩ := hown.parts; dsimp only [List.length_nil]; obtain ⟨W8, hW8⟩ : ∃ W8, w8.alloc (.cells #[.slice a8.pp Q.length a8.cp, .slice a8.pk 0 a8.ck, .slice a8.pd 0 a8.cd] 26) = W8 := ⟨_, rfl⟩; have hb2 : Below w8.heap.size w8 W8 := (by rw [← hW8]; exact below_al (Below.refl _ _) _); have HN8 : Veil (NBox W8 w8.heap.size ⟨Q, [], []⟩ a8) := ⟨(by rw [← hW8]; exact NBox.new hat)⟩; have HF8 : Veil _ := ⟨hft⟩; have HL : Veil _ := ⟨HL7.out.below (bn_then hb hb2)⟩; have HP : Veil _ := ⟨((bn_then hb hb2).block _ (lt_of_heap HP7.out)).trans HP7.out⟩; clear hown hat hft hb hb2 b0 b1 b2 p0 p1 q0 q1 f0 f1; obtain ⟨x0, x1, x2⟩ := HN8.out.cells; dsimp only [List.length_nil] at x1 x2; obtain ⟨b0, b1, b2⟩ := HL.out.cells; have p0 : W8.cell? ⟨B1, 0, none⟩ = some (.string ⟨pk'.toArray⟩) := cell_whole HP.out 0; have p1 : W8.cell? ⟨B1, 1, none⟩ = some (.string ⟨pv'.toArray⟩) := cell_whole HP.out 1; subst hW8))
      have HQ : Veil (∃ b o, a8.pp = some ⟨b, o, none⟩ ∧ ∀ W, Below w13.heap.size w13 W → W.cell? ⟨w8.heap.size, 0, none⟩ = some (.slice (some ⟨b, o, none⟩) Q.length a8.cp) ∧ W.cell? ⟨b, o + k * 2, none⟩ = some (.string ⟨pk'.toArray⟩) ∧ W.cell? ⟨b, o + k * 2 + 1, none⟩ = some (.string ⟨pv'.toArray⟩)) := ⟨by
        obtain ⟨b, o, hpe, hc⟩ := HN8.out.s.pair (by rintro he; dsimp only at he; simp [he] at g2)
        refine ⟨b, o, hpe, fun W hb => ?_⟩
        obtain ⟨c1, c2⟩ := hc k g2
        dsimp only at c1 c2
        rw [G3.out] at c1 c2
        have h1 := (HN8.out.below hb).cells.1
        rw [hpe] at h1
        exact ⟨h1, (hb.cell (World.block_lt_of_cell? w13 _ c1)).trans c1, (hb.cell (World.block_lt_of_cell? w13 _ c2)).trans c2⟩⟩
      obtain ⟨b, o, -, hq⟩ := HQ.out
      replace HQ : Veil _ := ⟨hq⟩
      clear hq
      have hkI : (0 : Int) ≤ k := by omega
      refine region_new [.is (.bool true), .is (.bool true), .is (.pointer (some ⟨w8.heap.size, 0, none⟩)), .is (.slice (some ⟨b, o, none⟩) Q.length a8.cp), .is (.int .i64 k), .is (.pointer (some ⟨b, o + k * 2, none⟩)), .is (.agg #[.string ⟨pk'.toArray⟩, .string ⟨pv'.toArray⟩]), .is (.agg #[.string ⟨pk'.toArray⟩, .string ⟨pv'.toArray⟩]), .is (.bool true), .is (.bool true), .is (.bool true), .is (.bool true), .is (.bool true), .is (.bool true), .is (.int .i64 0), .is (.bool true), .is (.bool true), .is (.bool true), .is (.int .i64 0), .is (.bool true), .is (.bool true), .is (.bool true), .is (.agg #[.slice a9.pp U.length a9.cp, .slice a9.pk (0 : Nat) a9.ck, .slice a9.pd (0 : Nat) a9.cd]), .is (.agg #[.slice a12.pp U.length a12.cp, .slice a12.pk (0 : Nat) a12.ck, .slice a12.pd (0 : Nat) a12.cd]), .is (.bool true), .is (.bool true), .is (.bool true), .is (.pointer (some ⟨w8.heap.size, 0, none⟩)), .is (.slice (some ⟨b, o, none⟩) Q.length a8.cp), .is (.int .i64 Q.length), .is (.pointer (some ⟨w.heap.size, 0, none⟩)), .is (.slice a'.pp m.ps.length a'.cp), .is (.int .i64 m.ps.length), .is (.int .i64 1), .is (.int .i64 ((m.ps.length : Int) + 1)), .is (.bool true), .is (.bool true)]
        [[], [(0, 76)], [(1, 77)], [(1, 77), (2, 78)], [(1, 77)], [(1, 77), (3, 79), (4, 80)], [(1, 77), (5, 81)], [(1, 77)], [(1, 77), (6, 82), (7, 83)], [(1, 77), (8, 84)], [(9, 85)], [(10, 86)], [(10, 86), (11, 87)], [(12, 88)], [(13, 89)], [(13, 89), (14, 90)], [(13, 89), (15, 91)], [(16, 92)], [(17, 93)], [(17, 93), (18, 94)], [(17, 93), (19, 95)], [(20, 96)], [(21, 97)], [(21, 97)], [(21, 97), (22, 98), (23, 99)], [(21, 97), (24, 100)], [(25, 101)], [(26, 102)], [(26, 102), (27, 103)], [(26, 102), (28, 104)], [(26, 102)], [(26, 102), (30, 106)], [(26, 102), (31, 107)], [(26, 102)], [(26, 102), (32, 108), (33, 109)], [(26, 102), (29, 105), (34, 110)], [(26, 102), (35, 111)]]
        [[], [0], [1], [1, 2], [1], [1, 3, 4], [1, 5], [1], [1, 6, 7], [1, 8], [1, 9], [10], [10, 11], [10, 12], [13], [13, 14], [13, 15], [13, 16], [17], [17, 18], [17, 19], [17, 20], [21], [21], [21, 22, 23], [21, 24], [24, 25], [26], [26, 27], [26, 28], [26], [26, 30], [26, 31], [26], [26, 32, 33], [26, 29, 34], [26, 35]]
        [(0, 76), (1, 77), (2, 78), (3, 79), (4, 80), (5, 81), (6, 82), (7, 83), (8, 84), (9, 85), (10, 86), (11, 87), (12, 88), (13, 89), (14, 90), (15, 91), (16, 92), (17, 93), (18, 94), (19, 95), (20, 96), (21, 97), (22, 98), (23, 99), (24, 100), (25, 101), (26, 102), (27, 103), (28, 104), (29, 105), (30, 106), (31, 107), (32, 108), (33, 109), (34, 110), (35, 111), (36, 112)] rfl (by kernel_rfl) ⟨?_, ?_, ?_, ?_, ?_, ?_, ?_, ?_, ?_, ?_, ?_, ?_, ?_, ?_, ?_, ?_, ?_, ?_, ?_, ?_, ?_, ?_, ?_, ?_, ?_, ?_, ?_, ?_, ?_, ?_, ?_, ?_, ?_, ?_, ?_, ?_, ?_, trivial⟩ ?_
      · intro vals W hB _
        dsimp only [putsL, slotOf]
        go_wp2
        exact ⟨rfl, Below.refl _ _, rfl⟩
      · intro vals W hB ⟨h0, _⟩
        have h0 : vals 0 = _ := h0
        dsimp only [putsL, slotOf]
        rw [h0]
        go_wp2
        exact ⟨rfl, Below.refl _ _, rfl⟩
      · intro vals W hB ⟨h1, _⟩
        have h1 : vals 1 = _ := h1
        dsimp only [putsL, slotOf]
        rw [h1]
        go_wp2
        exact ⟨rfl, Below.refl _ _, rfl⟩
      · intro vals W hB ⟨h1, h2, _⟩
        have h1 : vals 1 = _ := h1
        have h2 : vals 2 = _ := h2
        have c1 := (HQ.out W hB).1
        dsimp only [putsL, slotOf]
        rw [h1, h2]
        go_wp2
        exact ⟨rfl, Below.refl _ _, rfl⟩
      · intro vals W hB ⟨h1, _⟩
        have h1 : vals 1 = _ := h1
        dsimp only [putsL, slotOf]
        rw [h1]
        go_wp2
        exact ⟨rfl, Below.refl _ _, rfl⟩
      · intro vals W hB ⟨h1, h3, h4, _⟩
        have h1 : vals 1 = _ := h1
        have h3 : vals 3 = _ := h3
        have h4 : vals 4 = _ := h4
        dsimp only [putsL, slotOf]
        rw [h1, h3, h4]
        go_wp2
        exact ⟨rfl, Below.refl _ _, rfl⟩
      · intro vals W hB ⟨h1, h5, _⟩
        have h1 : vals 1 = _ := h1
        have h5 : vals 5 = _ := h5
        obtain ⟨-, c1, c2⟩ := HQ.out W hB
        dsimp only [putsL, slotOf]
        rw [h1, h5]
        go_wp2
        exact ⟨rfl, Below.refl _ _, rfl⟩
      · intro vals W hB ⟨h1, _⟩
        have h1 : vals 1 = _ := h1
        have e1 : W.cell? ⟨B1, 0, none⟩ = some (.string ⟨pk'.toArray⟩) := cell_whole ((hB.block _ (lt_of_heap HP.out)).trans HP.out) 0; have e2 : W.cell? ⟨B1, 1, none⟩ = some (.string ⟨pv'.toArray⟩) := cell_whole ((hB.block _ (lt_of_heap HP.out)).trans HP.out) 1
        dsimp only [putsL, slotOf]
        rw [h1]
        go_wp2
        exact ⟨rfl, Below.refl _ _, rfl⟩
      · intro vals W hB ⟨h1, h6, h7, _⟩
        have h1 : vals 1 = _ := h1
        have h6 : vals 6 = _ := h6
        have h7 : vals 7 = _ := h7
        dsimp only [putsL, slotOf]
        rw [h1, h6, h7]
        go_wp2
        exact ⟨rfl, Below.refl _ _, rfl⟩
      · intro vals W hB ⟨h1, h8, _⟩
        have h1 : vals 1 = _ := h1
        have h8 : vals 8 = _ := h8
        dsimp only [putsL, slotOf]
        rw [h1, h8]
        go_wp2
        exact ⟨rfl, Below.refl _ _, rfl⟩
      · intro vals W hB ⟨h1, h9, _⟩
        have h9 : vals 9 = _ := h9
        dsimp only [putsL, slotOf]
        rw [h9]
        go_wp2
        exact ⟨rfl, Below.refl _ _, rfl⟩
      · intro vals W hB ⟨h10, _⟩
        have h10 : vals 10 = _ := h10
        dsimp only [putsL, slotOf]
        rw [h10]
        go_wp2
        exact ⟨rfl, Below.refl _ _, rfl⟩
      · intro vals W hB ⟨h10, h11, _⟩
        have h10 : vals 10 = _ := h10
        have h11 : vals 11 = _ := h11
        dsimp only [putsL, slotOf]
        rw [h10, h11]
        go_wp2
        exact ⟨rfl, Below.refl _ _, rfl⟩
      · intro vals W hB ⟨h10, h12, _⟩
        have h12 : vals 12 = _ := h12
        dsimp only [putsL, slotOf]
        rw [h12]
        go_wp2
        exact ⟨rfl, Below.refl _ _, rfl⟩
      · intro vals W hB ⟨h13, _⟩
        have h13 : vals 13 = _ := h13
        dsimp only [putsL, slotOf]
        rw [h13]
        go_wp2
        exact ⟨rfl, Below.refl _ _, rfl⟩
      · intro vals W hB ⟨h13, h14, _⟩
        have h13 : vals 13 = _ := h13
        have h14 : vals 14 = _ := h14
        dsimp only [putsL, slotOf]
        rw [h13, h14]
        go_wp2
        exact ⟨rfl, Below.refl _ _, rfl⟩
      · intro vals W hB ⟨h13, h15, _⟩
        have h13 : vals 13 = _ := h13
        have h15 : vals 15 = _ := h15
        dsimp only [putsL, slotOf]
        rw [h13, h15]
        go_wp2
        exact ⟨rfl, Below.refl _ _, rfl⟩
      · intro vals W hB ⟨h13, h16, _⟩
        have h16 : vals 16 = _ := h16
        dsimp only [putsL, slotOf]
        rw [h16]
        go_wp2
        exact ⟨rfl, Below.refl _ _, rfl⟩
      · intro vals W hB ⟨h17, _⟩
        have h17 : vals 17 = _ := h17
        dsimp only [putsL, slotOf]
        rw [h17]
        go_wp2
        exact ⟨rfl, Below.refl _ _, rfl⟩
      · intro vals W hB ⟨h17, h18, _⟩
        have h17 : vals 17 = _ := h17
        have h18 : vals 18 = _ := h18
        dsimp only [putsL, slotOf]
        rw [h17, h18]
        go_wp2
        exact ⟨rfl, Below.refl _ _, rfl⟩
      · intro vals W hB ⟨h17, h19, _⟩
        have h17 : vals 17 = _ := h17
        have h19 : vals 19 = _ := h19
        dsimp only [putsL, slotOf]
        rw [h17, h19]
        go_wp2
        exact ⟨rfl, Below.refl _ _, rfl⟩
      · intro vals W hB ⟨h17, h20, _⟩
        have h20 : vals 20 = _ := h20
        dsimp only [putsL, slotOf]
        rw [h20]
        go_wp2
        exact ⟨rfl, Below.refl _ _, rfl⟩
      · intro vals W hB ⟨h21, _⟩
        have h21 : vals 21 = _ := h21
        obtain ⟨x0, x1, x2⟩ := (HN9.out.below hB).cells; dsimp only [List.length_nil] at x1 x2
        dsimp only [putsL, slotOf]
        rw [h21]
        go_wp2
        exact ⟨rfl, Below.refl _ _, rfl⟩
      · intro vals W hB ⟨h21, _⟩
        have h21 : vals 21 = _ := h21
        obtain ⟨x0, x1, x2⟩ := (HN12.out.below hB).cells; dsimp only [List.length_nil] at x1 x2
        dsimp only [putsL, slotOf]
        rw [h21]
        go_wp2
        exact ⟨rfl, Below.refl _ _, rfl⟩
      · intro vals W hB ⟨h21, h22, h23, _⟩
        have h21 : vals 21 = _ := h21
        have h22 : vals 22 = _ := h22
        have h23 : vals 23 = _ := h23
        dsimp only [putsL, slotOf]
        rw [h21, h22, h23]
        go_wp2_with ((go_at_call 25; refine (HS.out _ _ _ (HN9.out.below hB).s (HN12.out.below hB).s).mono ?_; rintro e w4 ⟨rfl, hb4⟩))
        exact ⟨rfl, hb4, rfl⟩
      · intro vals W hB ⟨h21, h24, _⟩
        have h21 : vals 21 = _ := h21
        have h24 : vals 24 = _ := h24
        dsimp only [putsL, slotOf]
        rw [h21, h24]
        go_wp2
        exact ⟨rfl, Below.refl _ _, rfl⟩
      · intro vals W hB ⟨h24, h25, _⟩
        have h25 : vals 25 = _ := h25
        dsimp only [putsL, slotOf]
        rw [h25]
        go_wp2
        exact ⟨rfl, Below.refl _ _, rfl⟩
      · intro vals W hB ⟨h26, _⟩
        have h26 : vals 26 = _ := h26
        dsimp only [putsL, slotOf]
        rw [h26]
        go_wp2
        exact ⟨rfl, Below.refl _ _, rfl⟩
      · intro vals W hB ⟨h26, h27, _⟩
        have h26 : vals 26 = _ := h26
        have h27 : vals 27 = _ := h27
        have c1 := (HQ.out W hB).1
        dsimp only [putsL, slotOf]
        rw [h26, h27]
        go_wp2
        exact ⟨rfl, Below.refl _ _, rfl⟩
      · intro vals W hB ⟨h26, h28, _⟩
        have h26 : vals 26 = _ := h26
        have h28 : vals 28 = _ := h28
        dsimp only [putsL, slotOf]
        rw [h26, h28]
        go_wp2
        exact ⟨rfl, Below.refl _ _, rfl⟩
      · intro vals W hB ⟨h26, _⟩
        have h26 : vals 26 = _ := h26
        dsimp only [putsL, slotOf]
        rw [h26]
        go_wp2
        exact ⟨rfl, Below.refl _ _, rfl⟩
      · intro vals W hB ⟨h26, h30, _⟩
        have h26 : vals 26 = _ := h26
        have h30 : vals 30 = _ := h30
        obtain ⟨x0, x1, x2⟩ := (HL.out.below hB).cells
        dsimp only [putsL, slotOf]
        rw [h26, h30]
        go_wp2
        exact ⟨rfl, Below.refl _ _, rfl⟩
      · intro vals W hB ⟨h26, h31, _⟩
        have h26 : vals 26 = _ := h26
        have h31 : vals 31 = _ := h31
        dsimp only [putsL, slotOf]
        rw [h26, h31]
        go_wp2
        exact ⟨rfl, Below.refl _ _, rfl⟩
      · intro vals W hB ⟨h26, _⟩
        have h26 : vals 26 = _ := h26
        dsimp only [putsL, slotOf]
        rw [h26]
        go_wp2
        exact ⟨rfl, Below.refl _ _, rfl⟩
      · intro vals W hB ⟨h26, h32, h33, _⟩
        have h26 : vals 26 = _ := h26
        have h32 : vals 32 = _ := h32
        have h33 : vals 33 = _ := h33
        dsimp only [putsL, slotOf]
        rw [h26, h32, h33]
        go_wp2
        exact ⟨rfl, Below.refl _ _, rfl⟩
      · intro vals W hB ⟨h26, h29, h34, _⟩
        have h26 : vals 26 = _ := h26
        have h29 : vals 29 = _ := h29
        have h34 : vals 34 = _ := h34
        have he : ((Q.length : Int) == ((m.ps.length : Int) + 1)) = true := by rw [beq_iff_eq, G6.out]; simp
        dsimp only [putsL, slotOf]
        rw [h26, h29, h34]
        go_wp2
        exact ⟨rfl, Below.refl _ _, rfl⟩
      · intro vals W hB ⟨h26, h35, _⟩
        have h26 : vals 26 = _ := h26
        have h35 : vals 35 = _ := h35
        dsimp only [putsL, slotOf]
        rw [h26, h35]
        go_wp2
        exact ⟨rfl, Below.refl _ _, rfl⟩
      rintro vals W15 hB ⟨q0, q1, q2, q3, q4, q5, q6, q7, q8, q9, q10, q11, q12, q13, q14, q15, q16, q17, q18, q19, q20, q21, q22, q23, q24, q25, q26, q27, q28, q29, q30, q31, q32, q33, q34, q35, q36, -⟩
      have h0 : vals 0 = _ := q0
      have h1 : vals 1 = _ := q1
      have h2 : vals 2 = _ := q2
      have h3 : vals 3 = _ := q3
      have h4 : vals 4 = _ := q4
      have h5 : vals 5 = _ := q5
      have h6 : vals 6 = _ := q6
      have h7 : vals 7 = _ := q7
      have h8 : vals 8 = _ := q8
      have h9 : vals 9 = _ := q9
      have h10 : vals 10 = _ := q10
      have h11 : vals 11 = _ := q11
      have h12 : vals 12 = _ := q12
      have h13 : vals 13 = _ := q13
      have h14 : vals 14 = _ := q14
      have h15 : vals 15 = _ := q15
      have h16 : vals 16 = _ := q16
      have h17 : vals 17 = _ := q17
      have h18 : vals 18 = _ := q18
      have h19 : vals 19 = _ := q19
      have h20 : vals 20 = _ := q20
      have h21 : vals 21 = _ := q21
      have h22 : vals 22 = _ := q22
      have h23 : vals 23 = _ := q23
      have h24 : vals 24 = _ := q24
      have h25 : vals 25 = _ := q25
      have h26 : vals 26 = _ := q26
      have h27 : vals 27 = _ := q27
      have h28 : vals 28 = _ := q28
      have h29 : vals 29 = _ := q29
      have h30 : vals 30 = _ := q30
      have h31 : vals 31 = _ := q31
      have h32 : vals 32 = _ := q32
      have h33 : vals 33 = _ := q33
      have h34 : vals 34 = _ := q34
      have h35 : vals 35 = _ := q35
      have h36 : vals 36 = _ := q36
      dsimp only [putsL]
      rw [h0, h1, h2, h3, h4, h5, h6, h7, h8, h9, h10, h11, h12, h13, h14, h15, h16, h17, h18, h19, h20, h21, h22, h23, h24, h25, h26, h27, h28, h29, h30, h31, h32, h33, h34, h35, h36]
      clear h0 q0 h1 q1 h2 q2 h3 q3 h4 q4 h5 q5 h6 q6 h7 q7 h8 q8 h9 q9 h10 q10 h11 q11 h12 q12 h13 q13 h14 q14 h15 q15 h16 q16 h17 q17 h18 q18 h19 q19 h20 q20 h21 q21 h22 q22 h23 q23 h24 q24 h25 q25 h26 q26 h27 q27 h28 q28 h29 q29 h30 q30 h31 q31 h32 q32 h33 q33 h34 q34 h35 q35 h36 q36
      simp only [List.length_cons, List.length_nil, Nat.reduceAdd, List.drop_succ_cons, List.drop_zero, List.setIfInBounds_toArray, List.set_cons_succ, List.set_cons_zero]
      go_wp2
      go_ret
      exact ⟨rfl, bn_then HL.out.x hB⟩
    · go_enter Try.func7, Try.ntmps7
      go_wp2_with (first
        | (go_at_call 11; refine (HC.out _ HB2.out.s).mono ?_; rintro e w3 ⟨v1, v2, v3, rfl, hown, hb3⟩; obtain ⟨a', W4, rfl, rfl, rfl, hW4, hL, hhi, hT4⟩ := law_cutJ HB2.out hb3 hown; have HL : Veil _ := ⟨hL⟩; have HI : Veil _ := ⟨hhi⟩; have HP : Veil (W4.heap[B1]? = some (.cells [.string ⟨pk.toArray⟩, .string ⟨pv.toArray⟩].toArray 38 (0, 0))) := ⟨hT4.heap ((hb3.block _ (lt_of_heap HP2.out)).trans HP2.out) (by have := HP0.out.2; omega)⟩; have hB3 := (HB2.out.below hb3).b; clear hL hhi hT4 hown hb3 a0 a1 a2; obtain ⟨⟨a0, a1, a2⟩, k0, k1, k2⟩ := box3 hB3; clear hB3)
        | (go_at_call 10; refine (shown_any _).mono ?_; rintro e w2 ⟨rfl, hb2⟩; have HB2 : Veil _ := ⟨HB.out.below hb2⟩; have HP2 : Veil _ := ⟨(hb2.block _ (lt_of_heap HP0.out.1)).trans HP0.out.1⟩; clear hb2; obtain ⟨a0, a1, a2⟩ := HB2.out.cells))
      have HZ2 : Veil (B1 < w2.heap.size) := ⟨lt_of_heap HP2.out⟩
      try simp only [hB1]
      clear a0 a1 a2 k0 k1 k2 hW4 hW1 hW0 HB HB2 HC HP2
      refine region_new [.is (.pointer (some ⟨B1, 0, none⟩)), .is (.string ⟨pk.toArray⟩), .is (.string ⟨pk'.toArray⟩), .is (.pointer (some ⟨B1, 1, none⟩)), .is (.string ⟨pv.toArray⟩), .is (.string ⟨pv'.toArray⟩)]
        [[], [(0, 19)], [(1, 20)], [], [(3, 22)], [(4, 23)]]
        [[], [0], [1], [], [3], [2, 4]]
        [(0, 19), (1, 20), (2, 21), (3, 22), (4, 23), (5, 24)] rfl (by kernel_rfl) ⟨?_, ?_, ?_, ?_, ?_, ?_, trivial⟩ ?_
      · intro vals W hB _
        dsimp only [putsL, slotOf]
        go_wp2
        exact ⟨rfl, Below.refl _ _, rfl⟩
      · intro vals W hB ⟨h0, _⟩
        have h0 : vals 0 = _ := h0
        have q : W.cell? ⟨B1, 0, none⟩ = some (.string ⟨pk.toArray⟩) := cell_whole ((hB.block _ (lt_of_heap HP.out)).trans HP.out) 0
        dsimp only [putsL, slotOf]
        rw [h0]
        go_wp2
        exact ⟨rfl, Below.refl _ _, rfl⟩
      · intro vals W hB ⟨h1, _⟩
        have h1 : vals 1 = _ := h1
        dsimp only [putsL, slotOf]
        rw [h1]
        go_wp2_with ((go_at_call 19; refine (HTk.out _).mono ?_; rintro e w4 ⟨rfl, rfl⟩; have hb4 := Below.refl w4.heap.size w4))
        exact ⟨rfl, hb4, rfl⟩
      · intro vals W hB _
        dsimp only [putsL, slotOf]
        go_wp2
        exact ⟨rfl, Below.refl _ _, rfl⟩
      · intro vals W hB ⟨h3, _⟩
        have h3 : vals 3 = _ := h3
        have q : W.cell? ⟨B1, 1, none⟩ = some (.string ⟨pv.toArray⟩) := cell_whole ((hB.block _ (lt_of_heap HP.out)).trans HP.out) 1
        dsimp only [putsL, slotOf]
        rw [h3]
        go_wp2
        exact ⟨rfl, Below.refl _ _, rfl⟩
      · intro vals W hB ⟨h2, h4, _⟩
        have h4 : vals 4 = _ := h4
        dsimp only [putsL, slotOf]
        rw [h4]
        go_wp2_with ((go_at_call 19; refine (HTv.out _).mono ?_; rintro e w4 ⟨rfl, rfl⟩; have hb4 := Below.refl w4.heap.size w4))
        exact ⟨rfl, hb4, rfl⟩
      rintro vals W hB ⟨q0, q1, q2, q3, q4, q5, -⟩
      have h0 : vals 0 = _ := q0
      have h1 : vals 1 = _ := q1
      have h2 : vals 2 = _ := q2
      have h3 : vals 3 = _ := q3
      have h4 : vals 4 = _ := q4
      have h5 : vals 5 = _ := q5
      dsimp only [putsL]
      rw [h0, h1, h2, h3, h4, h5]
      clear h0 q0 h1 q1 h2 q2 h3 q3 h4 q4 h5 q5
      simp only [List.length_cons, List.length_nil, Nat.reduceAdd, List.drop_succ_cons, List.drop_zero, List.setIfInBounds_toArray, List.set_cons_succ, List.set_cons_zero]
      have HL6 : Veil _ := ⟨HL.out.below hB⟩
      have hp6 := (hB.block _ (lt_of_heap HP.out)).trans HP.out
      have q0 : W.cell? ⟨B1, 0, none⟩ = some (.string ⟨pk.toArray⟩) := cell_whole hp6 0
      have q1 : W.cell? ⟨B1, 1, none⟩ = some (.string ⟨pv.toArray⟩) := cell_whole hp6 1
      have f0 : W.frozen? ⟨B1, 0, none⟩ = false := frozen_whole hp6 _
      have f1 : W.frozen? ⟨B1, 1, none⟩ = false := frozen_whole hp6 _
      have hT7 := ((Turned.refl (· = B1) W).setCell (p := ⟨B1, 0, none⟩) rfl (.string ⟨pk'.toArray⟩)).setCell (p := ⟨B1, 1, none⟩) rfl (.string ⟨pv'.toArray⟩)
      have hp7 : ((W.setCell ⟨B1, 0, none⟩ (.string ⟨pk'.toArray⟩)).setCell ⟨B1, 1, none⟩ (.string ⟨pv'.toArray⟩)).heap[B1]? = some (.cells [.string ⟨pk'.toArray⟩, .string ⟨pv'.toArray⟩].toArray 38 (0, 0)) := heap_setCell_at (heap_setCell_at hp6 0 _) 1 _
      obtain ⟨W7, hW7⟩ : ∃ W7, (W.setCell ⟨B1, 0, none⟩ (.string ⟨pk'.toArray⟩)).setCell ⟨B1, 1, none⟩ (.string ⟨pv'.toArray⟩) = W7 := ⟨_, rfl⟩
      rw [hW7] at hT7 hp7
      have HL7 : Veil _ := ⟨HL6.out.turned HI.out hT7 (fun k hk => by have := HP0.out.2; have := HZ2.out; omega)⟩
      have HP7 : Veil _ := ⟨hp7⟩
      clear hT7 hp7 hp6 hB HL HL6 HP HTk HTv HI
      obtain ⟨b0, b1, b2⟩ := HL7.out.cells
      have p0 : W7.cell? ⟨B1, 0, none⟩ = some (.string ⟨pk'.toArray⟩) := cell_whole HP7.out 0
      have p1 : W7.cell? ⟨B1, 1, none⟩ = some (.string ⟨pv'.toArray⟩) := cell_whole HP7.out 1
      go_wp2_with (first
        | (go_at_call 14; refine (HRq.out _ _ HN8.out.s).mono ?_; rintro e w13 ⟨rfl, hb⟩; replace HL : Veil _ := ⟨HL.out.below hb⟩; replace HN8 : Veil _ := ⟨HN8.out.below hb⟩; replace HN9 : Veil _ := ⟨HN9.out.below hb⟩; replace HN12 : Veil _ := ⟨HN12.out.below hb⟩; replace HP : Veil _ := ⟨(hb.block _ (lt_of_heap HP.out)).trans HP.out⟩; clear hb b0 b1 b2 p0 p1 x0 x1 x2)
        | (go_at_call 23; (with_reducible refine (HDm.out _ _ HL.out.s HL.out.f).mono ?_); rintro e w12 ⟨v1, v2, v3, rfl, hown, hb⟩; obtain ⟨a12, rfl, rfl, rfl, hat, -⟩ := hown.parts; dsimp only [List.length_nil]; obtain ⟨W12, hW12⟩ : ∃ W12, w12.alloc (.cells #[.slice a12.pp U.length a12.cp, .slice a12.pk 0 a12.ck, .slice a12.pd 0 a12.cd] 26) = W12 := ⟨_, rfl⟩; have hb2 : Below w12.heap.size w12 W12 := (by rw [← hW12]; exact below_al (Below.refl _ _) _); have HN12 : Veil (NBox W12 w12.heap.size ⟨U, [], []⟩ a12) := ⟨(by rw [← hW12]; exact NBox.new hat)⟩; replace HL : Veil _ := ⟨HL.out.below (bn_then hb hb2)⟩; replace HN8 : Veil _ := ⟨HN8.out.below (bn_then hb hb2)⟩; replace HN9 : Veil _ := ⟨HN9.out.below (bn_then hb hb2)⟩; replace HP : Veil _ := ⟨((bn_then hb hb2).block _ (lt_of_heap HP.out)).trans HP.out⟩; clear hown hat hb hb2 b0 b1 b2 p0 p1 x0 x1 x2; obtain ⟨x0, x1, x2⟩ := HN8.out.cells; dsimp only [List.length_nil] at x1 x2; obtain ⟨b0, b1, b2⟩ := HL.out.cells; have p0 : W12.cell? ⟨B1, 0, none⟩ = some (.string ⟨pk'.toArray⟩) := cell_whole HP.out 0; have p1 : W12.cell? ⟨B1, 1, none⟩ = some (.string ⟨pv'.toArray⟩) := cell_whole HP.out 1; subst hW12)
        | (go_at_call 23; (with_reducible refine (HDq.out _ _ HN8.out.s HF8.out).mono ?_); rintro e w9 ⟨v1, v2, v3, rfl, hown, hb⟩; obtain ⟨a9, rfl, rfl, rfl, hat, -⟩ := hown.parts; dsimp only [List.length_nil]; obtain ⟨W9, hW9⟩ : ∃ W9, w9.alloc (.cells #[.slice a9.pp U.length a9.cp, .slice a9.pk 0 a9.ck, .slice a9.pd 0 a9.cd] 26) = W9 := ⟨_, rfl⟩; have hb2 : Below w9.heap.size w9 W9 := (by rw [← hW9]; exact below_al (Below.refl _ _) _); have HN9 : Veil (NBox W9 w9.heap.size ⟨U, [], []⟩ a9) := ⟨(by rw [← hW9]; exact NBox.new hat)⟩; replace HL : Veil _ := ⟨HL.out.below (bn_then hb hb2)⟩; replace HN8 : Veil _ := ⟨HN8.out.below (bn_then hb hb2)⟩; replace HP : Veil _ := ⟨((bn_then hb hb2).block _ (lt_of_heap HP.out)).trans HP.out⟩; clear hown hat hb hb2 b0 b1 b2 p0 p1 x0 x1 x2; obtain ⟨x0, x1, x2⟩ := HN8.out.cells; dsimp only [List.length_nil] at x1 x2; obtain ⟨b0, b1, b2⟩ := HL.out.cells; have p0 : W9.cell? ⟨B1, 0, none⟩ = some (.string ⟨pk'.toArray⟩) := cell_whole HP.out 0; have p1 : W9.cell? ⟨B1, 1, none⟩ = some (.string ⟨pv'.toArray⟩) := cell_whole HP.out 1; subst hW9)
        | (go_at_call 18; refine (HPq.out _ _ HN8.out.s).mono ?_; rintro e w10 ⟨rfl, hb⟩; replace HL : Veil _ := ⟨HL.out.below hb⟩; replace HN8 : Veil _ := ⟨HN8.out.below hb⟩; replace HP : Veil _ := ⟨(hb.block _ (lt_of_heap HP.out)).trans HP.out⟩; clear hb b0 b1 b2 p0 p1 x0 x1 x2; obtain ⟨x0, x1, x2⟩ := HN8.out.cells; dsimp only [List.length_nil] at x1 x2; obtain ⟨b0, b1, b2⟩ := HL.out.cells; have p0 : w10.cell? ⟨B1, 0, none⟩ = some (.string ⟨pk'.toArray⟩) := cell_whole HP.out 0; have p1 : w10.cell? ⟨B1, 1, none⟩ = some (.string ⟨pv'.toArray⟩) := cell_whole HP.out 1)
        | (go_at_call 21; refine (HPu.out _ _ HL7.out.s HL7.out.f).mono ?_; rintro e w8 ⟨v1, v2, v3, rfl, hown, hb⟩; obtain ⟨a8, rfl, rfl, rfl, hat, hft⟩ := hown.parts; dsimp only [List.length_nil]; obtain ⟨W8, hW8⟩ : ∃ W8, w8.alloc (.cells #[.slice a8.pp Q.length a8.cp, .slice a8.pk 0 a8.ck, .slice a8.pd 0 a8.cd] 26) = W8 := ⟨_, rfl⟩; have hb2 : Below w8.heap.size w8 W8 := (by rw [← hW8]; exact below_al (Below.refl _ _) _); have HN8 : Veil (NBox W8 w8.heap.size ⟨Q, [], []⟩ a8) := ⟨(by rw [← hW8]; exact NBox.new hat)⟩; have HF8 : Veil _ := ⟨hft⟩; have HL : Veil _ := ⟨HL7.out.below (bn_then hb hb2)⟩; have HP : Veil _ := ⟨((bn_then hb hb2).block _ (lt_of_heap HP7.out)).trans HP7.out⟩; clear hown hat hft hb hb2 b0 b1 b2 p0 p1 q0 q1 f0 f1; obtain ⟨x0, x1, x2⟩ := HN8.out.cells; dsimp only [List.length_nil] at x1 x2; obtain ⟨b0, b1, b2⟩ := HL.out.cells; have p0 : W8.cell? ⟨B1, 0, none⟩ = some (.string ⟨pk'.toArray⟩) := cell_whole HP.out 0; have p1 : W8.cell? ⟨B1, 1, none⟩ = some (.string ⟨pv'.toArray⟩) := cell_whole HP.out 1; subst hW8))
      have HQ : Veil (∃ b o, a8.pp = some ⟨b, o, none⟩ ∧ ∀ W, Below w13.heap.size w13 W → W.cell? ⟨w8.heap.size, 0, none⟩ = some (.slice (some ⟨b, o, none⟩) Q.length a8.cp) ∧ W.cell? ⟨b, o + k * 2, none⟩ = some (.string ⟨pk'.toArray⟩) ∧ W.cell? ⟨b, o + k * 2 + 1, none⟩ = some (.string ⟨pv'.toArray⟩)) := ⟨by
        obtain ⟨b, o, hpe, hc⟩ := HN8.out.s.pair (by rintro he; dsimp only at he; simp [he] at g2)
        refine ⟨b, o, hpe, fun W hb => ?_⟩
        obtain ⟨c1, c2⟩ := hc k g2
        dsimp only at c1 c2
        rw [G3.out] at c1 c2
        have h1 := (HN8.out.below hb).cells.1
        rw [hpe] at h1
        exact ⟨h1, (hb.cell (World.block_lt_of_cell? w13 _ c1)).trans c1, (hb.cell (World.block_lt_of_cell? w13 _ c2)).trans c2⟩⟩
      obtain ⟨b, o, -, hq⟩ := HQ.out
      replace HQ : Veil _ := ⟨hq⟩
      clear hq
      have hkI : (0 : Int) ≤ k := by omega
      refine region_new [.is (.bool true), .is (.bool true), .is (.pointer (some ⟨w8.heap.size, 0, none⟩)), .is (.slice (some ⟨b, o, none⟩) Q.length a8.cp), .is (.int .i64 k), .is (.pointer (some ⟨b, o + k * 2, none⟩)), .is (.agg #[.string ⟨pk'.toArray⟩, .string ⟨pv'.toArray⟩]), .is (.agg #[.string ⟨pk'.toArray⟩, .string ⟨pv'.toArray⟩]), .is (.bool true), .is (.bool true), .is (.bool true), .is (.bool true), .is (.bool true), .is (.bool true), .is (.int .i64 0), .is (.bool true), .is (.bool true), .is (.bool true), .is (.int .i64 0), .is (.bool true), .is (.bool true), .is (.bool true), .is (.agg #[.slice a9.pp U.length a9.cp, .slice a9.pk (0 : Nat) a9.ck, .slice a9.pd (0 : Nat) a9.cd]), .is (.agg #[.slice a12.pp U.length a12.cp, .slice a12.pk (0 : Nat) a12.ck, .slice a12.pd (0 : Nat) a12.cd]), .is (.bool true), .is (.bool true), .is (.bool true), .is (.pointer (some ⟨w8.heap.size, 0, none⟩)), .is (.slice (some ⟨b, o, none⟩) Q.length a8.cp), .is (.int .i64 Q.length), .is (.pointer (some ⟨w.heap.size, 0, none⟩)), .is (.slice a'.pp m.ps.length a'.cp), .is (.int .i64 m.ps.length), .is (.int .i64 0), .is (.int .i64 (m.ps.length : Int)), .is (.bool true), .is (.bool true)]
        [[], [(0, 76)], [(1, 77)], [(1, 77), (2, 78)], [(1, 77)], [(1, 77), (3, 79), (4, 80)], [(1, 77), (5, 81)], [(1, 77)], [(1, 77), (6, 82), (7, 83)], [(1, 77), (8, 84)], [(9, 85)], [(10, 86)], [(10, 86), (11, 87)], [(12, 88)], [(13, 89)], [(13, 89), (14, 90)], [(13, 89), (15, 91)], [(16, 92)], [(17, 93)], [(17, 93), (18, 94)], [(17, 93), (19, 95)], [(20, 96)], [(21, 97)], [(21, 97)], [(21, 97), (22, 98), (23, 99)], [(21, 97), (24, 100)], [(25, 101)], [(26, 102)], [(26, 102), (27, 103)], [(26, 102), (28, 104)], [(26, 102)], [(26, 102), (30, 106)], [(26, 102), (31, 107)], [(26, 102)], [(26, 102), (32, 108), (33, 109)], [(26, 102), (29, 105), (34, 110)], [(26, 102), (35, 111)]]
        [[], [0], [1], [1, 2], [1], [1, 3, 4], [1, 5], [1], [1, 6, 7], [1, 8], [1, 9], [10], [10, 11], [10, 12], [13], [13, 14], [13, 15], [13, 16], [17], [17, 18], [17, 19], [17, 20], [21], [21], [21, 22, 23], [21, 24], [24, 25], [26], [26, 27], [26, 28], [26], [26, 30], [26, 31], [26], [26, 32, 33], [26, 29, 34], [26, 35]]
        [(0, 76), (1, 77), (2, 78), (3, 79), (4, 80), (5, 81), (6, 82), (7, 83), (8, 84), (9, 85), (10, 86), (11, 87), (12, 88), (13, 89), (14, 90), (15, 91), (16, 92), (17, 93), (18, 94), (19, 95), (20, 96), (21, 97), (22, 98), (23, 99), (24, 100), (25, 101), (26, 102), (27, 103), (28, 104), (29, 105), (30, 106), (31, 107), (32, 108), (33, 109), (34, 110), (35, 111), (36, 112)] rfl (by kernel_rfl) ⟨?_, ?_, ?_, ?_, ?_, ?_, ?_, ?_, ?_, ?_, ?_, ?_, ?_, ?_, ?_, ?_, ?_, ?_, ?_, ?_, ?_, ?_, ?_, ?_, ?_, ?_, ?_, ?_, ?_, ?_, ?_, ?_, ?_, ?_, ?_, ?_, ?_, trivial⟩ ?_
      · intro vals W hB _
        dsimp only [putsL, slotOf]
        go_wp2
        exact ⟨rfl, Below.refl _ _, rfl⟩
      · intro vals W hB ⟨h0, _⟩
        have h0 : vals 0 = _ := h0
        dsimp only [putsL, slotOf]
        rw [h0]
        go_wp2
        exact ⟨rfl, Below.refl _ _, rfl⟩
      · intro vals W hB ⟨h1, _⟩
        have h1 : vals 1 = _ := h1
        dsimp only [putsL, slotOf]
        rw [h1]
        go_wp2
        exact ⟨rfl, Below.refl _ _, rfl⟩
      · intro vals W hB ⟨h1, h2, _⟩
        have h1 : vals 1 = _ := h1
        have h2 : vals 2 = _ := h2
        have c1 := (HQ.out W hB).1
        dsimp only [putsL, slotOf]
        rw [h1, h2]
        go_wp2
        exact ⟨rfl, Below.refl _ _, rfl⟩
      · intro vals W hB ⟨h1, _⟩
        have h1 : vals 1 = _ := h1
        dsimp only [putsL, slotOf]
        rw [h1]
        go_wp2
        exact ⟨rfl, Below.refl _ _, rfl⟩
      · intro vals W hB ⟨h1, h3, h4, _⟩
        have h1 : vals 1 = _ := h1
        have h3 : vals 3 = _ := h3
        have h4 : vals 4 = _ := h4
        dsimp only [putsL, slotOf]
        rw [h1, h3, h4]
        go_wp2
        exact ⟨rfl, Below.refl _ _, rfl⟩
      · intro vals W hB ⟨h1, h5, _⟩
        have h1 : vals 1 = _ := h1
        have h5 : vals 5 = _ := h5
        obtain ⟨-, c1, c2⟩ := HQ.out W hB
        dsimp only [putsL, slotOf]
        rw [h1, h5]
        go_wp2
        exact ⟨rfl, Below.refl _ _, rfl⟩
      · intro vals W hB ⟨h1, _⟩
        have h1 : vals 1 = _ := h1
        have e1 : W.cell? ⟨B1, 0, none⟩ = some (.string ⟨pk'.toArray⟩) := cell_whole ((hB.block _ (lt_of_heap HP.out)).trans HP.out) 0; have e2 : W.cell? ⟨B1, 1, none⟩ = some (.string ⟨pv'.toArray⟩) := cell_whole ((hB.block _ (lt_of_heap HP.out)).trans HP.out) 1
        dsimp only [putsL, slotOf]
        rw [h1]
        go_wp2
        exact ⟨rfl, Below.refl _ _, rfl⟩
      · intro vals W hB ⟨h1, h6, h7, _⟩
        have h1 : vals 1 = _ := h1
        have h6 : vals 6 = _ := h6
        have h7 : vals 7 = _ := h7
        dsimp only [putsL, slotOf]
        rw [h1, h6, h7]
        go_wp2
        exact ⟨rfl, Below.refl _ _, rfl⟩
      · intro vals W hB ⟨h1, h8, _⟩
        have h1 : vals 1 = _ := h1
        have h8 : vals 8 = _ := h8
        dsimp only [putsL, slotOf]
        rw [h1, h8]
        go_wp2
        exact ⟨rfl, Below.refl _ _, rfl⟩
      · intro vals W hB ⟨h1, h9, _⟩
        have h9 : vals 9 = _ := h9
        dsimp only [putsL, slotOf]
        rw [h9]
        go_wp2
        exact ⟨rfl, Below.refl _ _, rfl⟩
      · intro vals W hB ⟨h10, _⟩
        have h10 : vals 10 = _ := h10
        dsimp only [putsL, slotOf]
        rw [h10]
        go_wp2
        exact ⟨rfl, Below.refl _ _, rfl⟩
      · intro vals W hB ⟨h10, h11, _⟩
        have h10 : vals 10 = _ := h10
        have h11 : vals 11 = _ := h11
        dsimp only [putsL, slotOf]
        rw [h10, h11]
        go_wp2
        exact ⟨rfl, Below.refl _ _, rfl⟩
      · intro vals W hB ⟨h10, h12, _⟩
        have h12 : vals 12 = _ := h12
        dsimp only [putsL, slotOf]
        rw [h12]
        go_wp2
        exact ⟨rfl, Below.refl _ _, rfl⟩
      · intro vals W hB ⟨h13, _⟩
        have h13 : vals 13 = _ := h13
        dsimp only [putsL, slotOf]
        rw [h13]
        go_wp2
        exact ⟨rfl, Below.refl _ _, rfl⟩
      · intro vals W hB ⟨h13, h14, _⟩
        have h13 : vals 13 = _ := h13
        have h14 : vals 14 = _ := h14
        dsimp only [putsL, slotOf]
        rw [h13, h14]
        go_wp2
        exact ⟨rfl, Below.refl _ _, rfl⟩
      · intro vals W hB ⟨h13, h15, _⟩
        have h13 : vals 13 = _ := h13
        have h15 : vals 15 = _ := h15
        dsimp only [putsL, slotOf]
        rw [h13, h15]
        go_wp2
        exact ⟨rfl, Below.refl _ _, rfl⟩
      · intro vals W hB ⟨h13, h16, _⟩
        have h16 : vals 16 = _ := h16
        dsimp only [putsL, slotOf]
        rw [h16]
        go_wp2
        exact ⟨rfl, Below.refl _ _, rfl⟩
      · intro vals W hB ⟨h17, _⟩
        have h17 : vals 17 = _ := h17
        dsimp only [putsL, slotOf]
        rw [h17]
        go_wp2
        exact ⟨rfl, Below.refl _ _, rfl⟩
      · intro vals W hB ⟨h17, h18, _⟩
        have h17 : vals 17 = _ := h17
        have h18 : vals 18 = _ := h18
        dsimp only [putsL, slotOf]
        rw [h17, h18]
        go_wp2
        exact ⟨rfl, Below.refl _ _, rfl⟩
      · intro vals W hB ⟨h17, h19, _⟩
        have h17 : vals 17 = _ := h17
        have h19 : vals 19 = _ := h19
        dsimp only [putsL, slotOf]
        rw [h17, h19]
        go_wp2
        exact ⟨rfl, Below.refl _ _, rfl⟩
      · intro vals W hB ⟨h17, h20, _⟩
        have h20 : vals 20 = _ := h20
        dsimp only [putsL, slotOf]
        rw [h20]
        go_wp2
        exact ⟨rfl, Below.refl _ _, rfl⟩
      · intro vals W hB ⟨h21, _⟩
        have h21 : vals 21 = _ := h21
        obtain ⟨x0, x1, x2⟩ := (HN9.out.below hB).cells; dsimp only [List.length_nil] at x1 x2
        dsimp only [putsL, slotOf]
        rw [h21]
        go_wp2
        exact ⟨rfl, Below.refl _ _, rfl⟩
      · intro vals W hB ⟨h21, _⟩
        have h21 : vals 21 = _ := h21
        obtain ⟨x0, x1, x2⟩ := (HN12.out.below hB).cells; dsimp only [List.length_nil] at x1 x2
        dsimp only [putsL, slotOf]
        rw [h21]
        go_wp2
        exact ⟨rfl, Below.refl _ _, rfl⟩
      · intro vals W hB ⟨h21, h22, h23, _⟩
        have h21 : vals 21 = _ := h21
        have h22 : vals 22 = _ := h22
        have h23 : vals 23 = _ := h23
        dsimp only [putsL, slotOf]
        rw [h21, h22, h23]
        go_wp2_with ((go_at_call 25; refine (HS.out _ _ _ (HN9.out.below hB).s (HN12.out.below hB).s).mono ?_; rintro e w4 ⟨rfl, hb4⟩))
        exact ⟨rfl, hb4, rfl⟩
      · intro vals W hB ⟨h21, h24, _⟩
        have h21 : vals 21 = _ := h21
        have h24 : vals 24 = _ := h24
        dsimp only [putsL, slotOf]
        rw [h21, h24]
        go_wp2
        exact ⟨rfl, Below.refl _ _, rfl⟩
      · intro vals W hB ⟨h24, h25, _⟩
        have h25 : vals 25 = _ := h25
        dsimp only [putsL, slotOf]
        rw [h25]
        go_wp2
        exact ⟨rfl, Below.refl _ _, rfl⟩
      · intro vals W hB ⟨h26, _⟩
        have h26 : vals 26 = _ := h26
        dsimp only [putsL, slotOf]
        rw [h26]
        go_wp2
        exact ⟨rfl, Below.refl _ _, rfl⟩
      · intro vals W hB ⟨h26, h27, _⟩
        have h26 : vals 26 = _ := h26
        have h27 : vals 27 = _ := h27
        have c1 := (HQ.out W hB).1
        dsimp only [putsL, slotOf]
        rw [h26, h27]
        go_wp2
        exact ⟨rfl, Below.refl _ _, rfl⟩
      · intro vals W hB ⟨h26, h28, _⟩
        have h26 : vals 26 = _ := h26
        have h28 : vals 28 = _ := h28
        dsimp only [putsL, slotOf]
        rw [h26, h28]
        go_wp2
        exact ⟨rfl, Below.refl _ _, rfl⟩
      · intro vals W hB ⟨h26, _⟩
        have h26 : vals 26 = _ := h26
        dsimp only [putsL, slotOf]
        rw [h26]
        go_wp2
        exact ⟨rfl, Below.refl _ _, rfl⟩
      · intro vals W hB ⟨h26, h30, _⟩
        have h26 : vals 26 = _ := h26
        have h30 : vals 30 = _ := h30
        obtain ⟨x0, x1, x2⟩ := (HL.out.below hB).cells
        dsimp only [putsL, slotOf]
        rw [h26, h30]
        go_wp2
        exact ⟨rfl, Below.refl _ _, rfl⟩
      · intro vals W hB ⟨h26, h31, _⟩
        have h26 : vals 26 = _ := h26
        have h31 : vals 31 = _ := h31
        dsimp only [putsL, slotOf]
        rw [h26, h31]
        go_wp2
        exact ⟨rfl, Below.refl _ _, rfl⟩
      · intro vals W hB ⟨h26, _⟩
        have h26 : vals 26 = _ := h26
        dsimp only [putsL, slotOf]
        rw [h26]
        go_wp2
        exact ⟨rfl, Below.refl _ _, rfl⟩
      · intro vals W hB ⟨h26, h32, h33, _⟩
        have h26 : vals 26 = _ := h26
        have h32 : vals 32 = _ := h32
        have h33 : vals 33 = _ := h33
        dsimp only [putsL, slotOf]
        rw [h26, h32, h33]
        go_wp2
        exact ⟨rfl, Below.refl _ _, rfl⟩
      · intro vals W hB ⟨h26, h29, h34, _⟩
        have h26 : vals 26 = _ := h26
        have h29 : vals 29 = _ := h29
        have h34 : vals 34 = _ := h34
        have he : ((Q.length : Int) == (m.ps.length : Int)) = true := by rw [beq_iff_eq, G6.out]; simp
        dsimp only [putsL, slotOf]
        rw [h26, h29, h34]
        go_wp2
        exact ⟨rfl, Below.refl _ _, rfl⟩
      · intro vals W hB ⟨h26, h35, _⟩
        have h26 : vals 26 = _ := h26
        have h35 : vals 35 = _ := h35
        dsimp only [putsL, slotOf]
        rw [h26, h35]
        go_wp2
        exact ⟨rfl, Below.refl _ _, rfl⟩
      rintro vals W15 hB ⟨q0, q1, q2, q3, q4, q5, q6, q7, q8, q9, q10, q11, q12, q13, q14, q15, q16, q17, q18, q19, q20, q21, q22, q23, q24, q25, q26, q27, q28, q29, q30, q31, q32, q33, q34, q35, q36, -⟩
      have h0 : vals 0 = _ := q0
      have h1 : vals 1 = _ := q1
      have h2 : vals 2 = _ := q2
      have h3 : vals 3 = _ := q3
      have h4 : vals 4 = _ := q4
      have h5 : vals 5 = _ := q5
      have h6 : vals 6 = _ := q6
      have h7 : vals 7 = _ := q7
      have h8 : vals 8 = _ := q8
      have h9 : vals 9 = _ := q9
      have h10 : vals 10 = _ := q10
      have h11 : vals 11 = _ := q11
      have h12 : vals 12 = _ := q12
      have h13 : vals 13 = _ := q13
      have h14 : vals 14 = _ := q14
      have h15 : vals 15 = _ := q15
      have h16 : vals 16 = _ := q16
      have h17 : vals 17 = _ := q17
      have h18 : vals 18 = _ := q18
      have h19 : vals 19 = _ := q19
      have h20 : vals 20 = _ := q20
      have h21 : vals 21 = _ := q21
      have h22 : vals 22 = _ := q22
      have h23 : vals 23 = _ := q23
      have h24 : vals 24 = _ := q24
      have h25 : vals 25 = _ := q25
      have h26 : vals 26 = _ := q26
      have h27 : vals 27 = _ := q27
      have h28 : vals 28 = _ := q28
      have h29 : vals 29 = _ := q29
      have h30 : vals 30 = _ := q30
      have h31 : vals 31 = _ := q31
      have h32 : vals 32 = _ := q32
      have h33 : vals 33 = _ := q33
      have h34 : vals 34 = _ := q34
      have h35 : vals 35 = _ := q35
      have h36 : vals 36 = _ := q36
      dsimp only [putsL]
      rw [h0, h1, h2, h3, h4, h5, h6, h7, h8, h9, h10, h11, h12, h13, h14, h15, h16, h17, h18, h19, h20, h21, h22, h23, h24, h25, h26, h27, h28, h29, h30, h31, h32, h33, h34, h35, h36]
      clear h0 q0 h1 q1 h2 q2 h3 q3 h4 q4 h5 q5 h6 q6 h7 q7 h8 q8 h9 q9 h10 q10 h11 q11 h12 q12 h13 q13 h14 q14 h15 q15 h16 q16 h17 q17 h18 q18 h19 q19 h20 q20 h21 q21 h22 q22 h23 q23 h24 q24 h25 q25 h26 q26 h27 q27 h28 q28 h29 q29 h30 q30 h31 q31 h32 q32 h33 q33 h34 q34 h35 q35 h36 q36
      simp only [List.length_cons, List.length_nil, Nat.reduceAdd, List.drop_succ_cons, List.drop_zero, List.setIfInBounds_toArray, List.set_cons_succ, List.set_cons_zero]
      go_wp2
      go_ret
      exact ⟨rfl, bn_then HL.out.x hB⟩
end Go.Proofs.Ytfpcknkinlegcaa
