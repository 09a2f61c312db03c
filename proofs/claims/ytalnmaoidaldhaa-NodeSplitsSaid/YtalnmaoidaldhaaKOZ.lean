/- The walk of Join: two nodes that are not of one kind. -/
import Derived.Test.YtalnmaoidaldhaaKOU
namespace Go.Proofs.Ytalnmaoidaldhaa
open Go Go.RowKit Sm
attribute [local go_sem] Oper.semAt_some

/-- A node told beside an errno. -/
def JoinPost (w : World) (m : Nd) (er : Int) (e : Ending) (w' : World) : Prop := ∃ a : NdP, e = .returned (.tuple #[.agg #[.slice a.pp m.ps.length a.cp, .slice a.pk m.ks.length a.ck, .slice a.pd m.ds.length a.cd], .int .i64 er]) ∧ NdAt w' m a ∧ Below w.heap.size w w'
def Nd.kd (n : Nd) : Nat := if n.right then n.kind else 0
/-- Two nodes' boxes, the answer's. -/
theorem join_start (w : World) {A B : Nd} {a b : NdP} (h : NdAt w A a) (h' : NdAt w B b) : ∃ W1 W2 W3, w.alloc (.cells #[.slice a.pp A.ps.length a.cp, .slice a.pk A.ks.length a.ck, .slice a.pd A.ds.length a.cd] 26) = W1 ∧ W1.alloc (.cells #[.slice b.pp B.ps.length b.cp, .slice b.pk B.ks.length b.ck, .slice b.pd B.ds.length b.cd] 26) = W2 ∧ W2.alloc (.cells #[.slice none 0 0, .slice none 0 0, .slice none 0 0] 26) = W3 ∧
    Veil (NBox W3 w.heap.size A a ∧ NBox W3 W1.heap.size B b ∧ W3.heap[W2.heap.size]? = some (.cells #[.slice none 0 0, .slice none 0 0, .slice none 0 0] 26 (0, 0)) ∧ Below w.heap.size w W3 ∧ W1.heap.size = w.heap.size + 1 ∧ W2.heap.size = w.heap.size + 2) := by
  refine ⟨_, _, _, rfl, rfl, rfl, ?_⟩
  obtain ⟨W1, h1⟩ : ∃ W1, w.alloc (.cells #[.slice a.pp A.ps.length a.cp, .slice a.pk A.ks.length a.ck, .slice a.pd A.ds.length a.cd] 26) = W1 := ⟨_, rfl⟩
  rw [h1]
  obtain ⟨W2, h2⟩ : ∃ W2, W1.alloc (.cells #[.slice b.pp B.ps.length b.cp, .slice b.pk B.ks.length b.ck, .slice b.pd B.ds.length b.cd] 26) = W2 := ⟨_, rfl⟩
  rw [h2]
  obtain ⟨W3, h3⟩ : ∃ W3, W2.alloc (.cells #[.slice none 0 0, .slice none 0 0, .slice none 0 0] 26) = W3 := ⟨_, rfl⟩
  rw [h3]
  have k1 : Below w.heap.size w W1 := by rw [← h1]; exact below_al (Below.refl _ _) _
  have k2 : Below W1.heap.size W1 W2 := by rw [← h2]; exact below_al (Below.refl _ _) _
  have k3 : Below W2.heap.size W2 W3 := by rw [← h3]; exact below_al (Below.refl _ _) _
  have z1 : W1.heap.size = w.heap.size + 1 := by rw [← h1]; simp
  have z2 : W2.heap.size = W1.heap.size + 1 := by rw [← h2]; simp
  have n1 : NBox W1 w.heap.size A a := by rw [← h1]; exact NBox.new h
  have n2 : NBox W2 W1.heap.size B b := by rw [← h2]; exact NBox.new (h'.below k1)
  exact ⟨(n1.below k2).below k3, n2.below k3, by rw [← h3]; exact heap_alloc_new _ _, (k1.trans (k2.mono (by omega))).trans (k3.mono (by omega)), z1, by omega⟩

set_option maxRecDepth 20000 in
set_option maxHeartbeats 4000000 in
theorem join_bad {w : World} {A B : Nd} {a b : NdP} (h : NdAt w A a) (h' : NdAt w B b) (ha : Veil A.Ok) (hb : Veil B.Ok) (key : List UInt8) (hk : A.kd = 0 ∨ A.kd ≠ B.kd) :
    Calls Try.prog 8 #[A.v a, .string ⟨key.toArray⟩, B.v b] w (JoinPost w Nd.zero 60) := by
  have HKa : Veil (∀ W, NdAt W A a → Calls Try.prog 25 #[A.v a] W fun e w' => e = .returned (.int .i64 (A.kd : Nat)) ∧ Below W.heap.size W w') := ⟨fun W h => kindOf_of h ha⟩
  have HKb : Veil (∀ W, NdAt W B b → Calls Try.prog 25 #[B.v b] W fun e w' => e = .returned (.int .i64 (B.kd : Nat)) ∧ Below W.heap.size W w') := ⟨fun W h => kindOf_of h hb⟩
  clear ha hb
  revert hk; revert HKb; revert HKa
  generalize A.kd = ka
  generalize B.kd = kb
  intro HKa HKb hk
  obtain ⟨W1, W2, W3, hW1, hW2, hW3, HJ⟩ := join_start w h h'
  have HA : Veil _ := ⟨HJ.out.1⟩
  have HB : Veil _ := ⟨HJ.out.2.1⟩
  have HR : Veil _ := ⟨HJ.out.2.2.1⟩
  have HX : Veil _ := ⟨HJ.out.2.2.2.1⟩
  have HZ : Veil (w.heap.size < W2.heap.size) := ⟨by have := HJ.out.2.2.2.2; omega⟩
  obtain ⟨a0, a1, a2⟩ := HA.out.cells
  obtain ⟨b0, b1, b2⟩ := HB.out.cells
  clear h h' HJ
  unfold Nd.v at *
  go_enter Try.func8, Try.ntmps8
  by_cases h0 : ka = 0
  · subst h0
    go_wp2_with (go_at_call 25; (with_reducible refine (HKa.out W3 HA.out.s).mono ?_); rintro e w4 ⟨rfl, hb4⟩; have HR4 : Veil _ := ⟨(hb4.block _ (lt_of_heap HR.out)).trans HR.out⟩; have HX4 : Veil _ := ⟨bn_then HX.out hb4⟩; clear hb4; obtain ⟨⟨x0, x1, x2⟩, k0, k1, k2⟩ := box3 HR4.out)
    have hU := (((Turned.refl (· = W2.heap.size) w4).setCell (p := ⟨W2.heap.size, 0, none⟩) rfl (.slice none 0 0)).setCell (p := ⟨W2.heap.size, 1, none⟩) rfl (.slice none 0 0)).setCell (p := ⟨W2.heap.size, 2, none⟩) rfl (.slice none 0 0)
    have hz := HZ.out
    exact bodyPost_ret (results_node2 (g := W2.heap.size) (y := .int .i64 60) rfl rfl rfl (heap_setCell_at (heap_setCell_at (heap_setCell_at HR4.out 0 _) 1 _) 2 _)) rfl ⟨⟨none, 0, none, 0, none, 0⟩, rfl, ⟨Els.nil _ _, Els.nil _ _, Els.nil _ _⟩, HX4.out.trans (hU.toBelow HX4.out.size (fun k _ e => by omega))⟩
  · have hk1 : ((ka : Int) == 0) = false := by rw [beq_eq_false_iff_ne]; omega
    have hk2 : ((ka : Int) == kb) = false := by rw [beq_eq_false_iff_ne]; omega
    clear hk h0
    go_wp2_with (first
      | (go_at_call 25; (with_reducible refine (HKb.out w4 HB4.out.s).mono ?_); rintro e w5 ⟨rfl, hb5⟩; have HR5 : Veil _ := ⟨(hb5.block _ (lt_of_heap HR4.out)).trans HR4.out⟩; have HX5 : Veil _ := ⟨bn_then HX4.out hb5⟩; clear hb5; obtain ⟨⟨x0, x1, x2⟩, k0, k1, k2⟩ := box3 HR5.out)
      | (go_at_call 25; (with_reducible refine (HKa.out W3 HA.out.s).mono ?_); rintro e w4 ⟨rfl, hb4⟩; have HB4 : Veil _ := ⟨HB.out.below hb4⟩; have HR4 : Veil _ := ⟨(hb4.block _ (lt_of_heap HR.out)).trans HR.out⟩; have HX4 : Veil _ := ⟨bn_then HX.out hb4⟩; clear hb4 b0 b1 b2; obtain ⟨b0, b1, b2⟩ := HB4.out.cells))
    have hU := (((Turned.refl (· = W2.heap.size) w5).setCell (p := ⟨W2.heap.size, 0, none⟩) rfl (.slice none 0 0)).setCell (p := ⟨W2.heap.size, 1, none⟩) rfl (.slice none 0 0)).setCell (p := ⟨W2.heap.size, 2, none⟩) rfl (.slice none 0 0)
    have hz := HZ.out
    exact bodyPost_ret (results_node2 (g := W2.heap.size) (y := .int .i64 60) rfl rfl rfl (heap_setCell_at (heap_setCell_at (heap_setCell_at HR5.out 0 _) 1 _) 2 _)) rfl ⟨⟨none, 0, none, 0, none, 0⟩, rfl, ⟨Els.nil _ _, Els.nil _ _, Els.nil _ _⟩, HX5.out.trans (hU.toBelow HX5.out.size (fun k _ e => by omega))⟩

set_option maxRecDepth 20000 in
set_option maxHeartbeats 4000000 in
theorem join_leaf {w : World} {A B : Nd} {a b : NdP} (h : NdAt w A a) (h' : NdAt w B b) (ha : Veil A.Ok) (hb : Veil B.Ok) (key : List UInt8) (hka : A.kd = 1) (hkb : B.kd = 1) (r : Bool) (hr : (⟨A.ps ++ B.ps, [], A.ds ++ B.ds⟩ : Nd).right = r) (hxo : Veil (⟨A.ps ++ B.ps, [], A.ds ++ B.ds⟩ : Nd).Ok) :
    Calls Try.prog 8 #[A.v a, .string ⟨key.toArray⟩, B.v b] w (JoinPost w (if r = true then ⟨A.ps ++ B.ps, [], A.ds ++ B.ds⟩ else Nd.zero) (if r = true then 0 else 60)) := by
  have HKa : Veil (∀ W, NdAt W A a → Calls Try.prog 25 #[A.v a] W fun e w' => e = .returned (.int .i64 1) ∧ Below W.heap.size W w') := ⟨fun W h => by have := kindOf_of h ha; rw [show (if A.right then A.kind else 0) = 1 from hka] at this; exact this⟩
  have HKb : Veil (∀ W, NdAt W B b → Calls Try.prog 25 #[B.v b] W fun e w' => e = .returned (.int .i64 1) ∧ Below W.heap.size W w') := ⟨fun W h => by have := kindOf_of h hb; rw [show (if B.right then B.kind else 0) = 1 from hkb] at this; exact this⟩
  have l1 := ha.out.p
  have l2 := hb.out.p
  have l3 := ha.out.d
  have l4 := hb.out.d
  have HCP : Veil (∀ W g, W.heap[g]? = some (.cells #[.slice a.pp A.ps.length a.cp, .slice b.pp B.ps.length b.cp] 22 (0, 0)) → NdAt W A a → NdAt W B b → Calls Try.prog 16 #[.slice (some ⟨g, 0, none⟩) (2 : Nat) (2 : Nat)] W fun e w' => ∃ v, e = .returned v ∧ OwnE elP w' W.heap.size v (A.ps ++ B.ps) ∧ Below W.heap.size W w') := ⟨fun W g hg h1 h2 => by
    refine (concatP_of (P := [⟨a.pp, a.cp, A.ps⟩, ⟨b.pp, b.cp, B.ps⟩]) (g := g) (t := 22) (by simpa [Pt.v] using hg) 2 ?_ ?_ (by simp)).mono ?_
    · intro x hx
      simp only [List.mem_cons, List.not_mem_nil, or_false] at hx
      rcases hx with rfl | rfl
      · exact h1.p
      · exact h2.p
    · simp only [sumL, List.map_cons, List.map_nil, List.sum_cons, List.sum_nil]; omega
    · rintro e w' ⟨v, rfl, ho, hb'⟩
      exact ⟨v, rfl, by simpa [allL] using ho, hb'⟩⟩
  have HCD : Veil (∀ W g, W.heap[g]? = some (.cells #[.slice a.pd A.ds.length a.cd, .slice b.pd B.ds.length b.cd] 24 (0, 0)) → NdAt W A a → NdAt W B b → Calls Try.prog 20 #[.slice (some ⟨g, 0, none⟩) (2 : Nat) (2 : Nat)] W fun e w' => ∃ v, e = .returned v ∧ OwnE elD w' W.heap.size v (A.ds ++ B.ds) ∧ Below W.heap.size W w') := ⟨fun W g hg h1 h2 => by
    refine (concatD_of (P := [⟨a.pd, a.cd, A.ds⟩, ⟨b.pd, b.cd, B.ds⟩]) (g := g) (t := 24) (by simpa [Pt.v] using hg) 2 ?_ ?_ (by simp)).mono ?_
    · intro x hx
      simp only [List.mem_cons, List.not_mem_nil, or_false] at hx
      rcases hx with rfl | rfl
      · exact h1.d
      · exact h2.d
    · simp only [sumL, List.map_cons, List.map_nil, List.sum_cons, List.sum_nil]; omega
    · rintro e w' ⟨v, rfl, ho, hb'⟩
      exact ⟨v, rfl, by simpa [allL] using ho, hb'⟩⟩
  have HRx : Veil (∀ W c, NdAt W ⟨A.ps ++ B.ps, [], A.ds ++ B.ds⟩ c → Calls Try.prog 26 #[(⟨A.ps ++ B.ps, [], A.ds ++ B.ds⟩ : Nd).v c] W fun e w' => e = .returned (.bool r) ∧ Below W.heap.size W w') := ⟨fun W c h => by have := nright_of h hxo; rw [hr] at this; exact this⟩
  clear hr hxo ha hb hka hkb
  obtain ⟨x, hx⟩ : ∃ x : Nd, (⟨A.ps ++ B.ps, [], A.ds ++ B.ds⟩ : Nd) = x := ⟨_, rfl⟩
  have HXx : Veil _ := ⟨hx⟩
  rw [hx] at HRx ⊢
  clear hx
  obtain ⟨y, hy⟩ : ∃ y : Nd, (if r = true then x else Nd.zero) = y := ⟨_, rfl⟩
  obtain ⟨er, her⟩ : ∃ er : Int, (if r = true then (0 : Int) else 60) = er := ⟨_, rfl⟩
  rw [hy, her]
  have HYy : Veil _ := ⟨hy⟩
  have HEr : Veil _ := ⟨her⟩
  clear hy her
  revert HXx; revert HCD; revert HCP
  generalize A.ps ++ B.ps = X
  generalize A.ds ++ B.ds = Z
  intro HCP HCD HXx
  obtain ⟨W1, W2, W3, hW1, hW2, hW3, HJ⟩ := join_start w h h'
  have HA : Veil _ := ⟨HJ.out.1⟩
  have HB : Veil _ := ⟨HJ.out.2.1⟩
  have HR : Veil _ := ⟨HJ.out.2.2.1⟩
  have HX : Veil _ := ⟨HJ.out.2.2.2.1⟩
  have HZ : Veil (w.heap.size < W2.heap.size ∧ W2.heap.size < W3.heap.size ∧ W1.heap.size < W2.heap.size) := ⟨by have := HJ.out.2.2.2.2; have := lt_of_heap HR.out; omega⟩
  obtain ⟨a0, a1, a2⟩ := HA.out.cells
  obtain ⟨b0, b1, b2⟩ := HB.out.cells
  clear h h' HJ l1 l2 l3 l4
  unfold Nd.v at *
  go_enter Try.func8, Try.ntmps8
  go_wp2_with (first
    | (go_at_call 25; (with_reducible refine (HKb.out w4 HB3.out.s).mono ?_); rintro e w5 ⟨rfl, hb5⟩; have HA4 : Veil _ := ⟨HA3.out.below hb5⟩; have HB4 : Veil _ := ⟨HB3.out.below hb5⟩; have HR5 : Veil _ := ⟨(hb5.block _ (lt_of_heap HR4.out)).trans HR4.out⟩; have HX5 : Veil _ := ⟨bn_then HX4.out hb5⟩; clear hb5 b0 b1 b2)
    | (go_at_call 25; (with_reducible refine (HKa.out W3 HA.out.s).mono ?_); rintro e w4 ⟨rfl, hb4⟩; have HA3 : Veil _ := ⟨HA.out.below hb4⟩; have HB3 : Veil _ := ⟨HB.out.below hb4⟩; have HR4 : Veil _ := ⟨(hb4.block _ (lt_of_heap HR.out)).trans HR.out⟩; have HX4 : Veil _ := ⟨bn_then HX.out hb4⟩; clear hb4 a0 a1 a2 b0 b1 b2; obtain ⟨b0, b1, b2⟩ := HB3.out.cells))
  obtain ⟨G1, hG1⟩ : ∃ G1, w.heap.size = G1 := ⟨_, rfl⟩
  obtain ⟨G2, hG2⟩ : ∃ G2, W1.heap.size = G2 := ⟨_, rfl⟩
  rw [hG1] at HA4
  rw [hG2] at HB4
  rw [hG1, hG2]
  clear hW1 hW2 hW3 HA HB HA3 HB3 HR HR4 HX HX4 HKa HKb
  refine region_new [.is (.pointer (some ⟨G1, 0, none⟩)), .is (.slice a.pp A.ps.length a.cp), .is (.pointer (some ⟨G2, 0, none⟩)), .is (.slice b.pp B.ps.length b.cp), .row 0 (fun g => .slice (some ⟨g, 0, none⟩) 2 2) #[.slice a.pp A.ps.length a.cp, .slice b.pp B.ps.length b.cp] 22, .gen (fun v W => ∃ p c, v = .slice p X.length c ∧ Els elP W p X ∧ SlOk p X.length c) (fun v W W' hb ⟨p, c, h1, h2, h3⟩ => ⟨p, c, h1, h2.below hb, h3⟩), .is (.pointer (some ⟨G1, 2, none⟩)), .is (.slice a.pd A.ds.length a.cd), .is (.pointer (some ⟨G2, 2, none⟩)), .is (.slice b.pd B.ds.length b.cd), .row 0 (fun g => .slice (some ⟨g, 0, none⟩) 2 2) #[.slice a.pd A.ds.length a.cd, .slice b.pd B.ds.length b.cd] 24, .gen (fun v W => ∃ p c, v = .slice p Z.length c ∧ Els elD W p Z ∧ SlOk p Z.length c) (fun v W W' hb ⟨p, c, h1, h2, h3⟩ => ⟨p, c, h1, h2.below hb, h3⟩), .gen (fun v W => ∃ ax : NdP, v = .agg #[.slice ax.pp x.ps.length ax.cp, .slice ax.pk x.ks.length ax.ck, .slice ax.pd x.ds.length ax.cd] ∧ NdAt W x ax ∧ NdFit x ax) (fun v W W' hb ⟨a, h1, h2, h3⟩ => ⟨a, h1, h2.below hb, h3⟩), .row w5.heap.size (fun g => .pointer (some ⟨g, 0, none⟩)) #[.slice none 0 0, .slice none 0 0, .slice none 0 0] 26]
    [[], [(0, 21)], [], [(2, 23)], [(1, 22), (3, 24)], [(4, 25)], [], [(6, 27)], [], [(8, 29)], [(7, 28), (9, 30)], [(10, 31)], [(5, 26), (11, 32)], []]
    [[], [0], [], [2], [1, 3], [4], [], [6], [], [8], [7, 9], [5, 10], [5, 11], []]
    [(0, 21), (1, 22), (2, 23), (3, 24), (4, 25), (5, 26), (6, 27), (7, 28), (8, 29), (9, 30), (10, 31), (11, 32), (12, 33), (13, 9)] rfl (by kernel_rfl) ⟨?_, ?_, ?_, ?_, ?_, ?_, ?_, ?_, ?_, ?_, ?_, ?_, ?_, ?_, trivial⟩ ?_
  · intro vals W hB _
    dsimp only [putsL, slotOf]
    go_wp2
    exact ⟨rfl, Below.refl _ _, rfl⟩
  · intro vals W hB ⟨h0, _⟩
    have h0 : vals 0 = _ := h0
    obtain ⟨a0, a1, a2⟩ := (HA4.out.below hB).cells
    dsimp only [putsL, slotOf]
    rw [h0]
    go_wp2
    exact ⟨rfl, Below.refl _ _, rfl⟩
  · intro vals W hB _
    dsimp only [putsL, slotOf]
    go_wp2
    exact ⟨rfl, Below.refl _ _, rfl⟩
  · intro vals W hB ⟨h2, _⟩
    have h2 : vals 2 = _ := h2
    obtain ⟨a0, a1, a2⟩ := (HB4.out.below hB).cells
    dsimp only [putsL, slotOf]
    rw [h2]
    go_wp2
    exact ⟨rfl, Below.refl _ _, rfl⟩
  · intro vals W hB ⟨h1, h3, _⟩
    have h1 : vals 1 = _ := h1
    have h3 : vals 3 = _ := h3
    dsimp only [putsL, slotOf]
    rw [h1, h3]
    go_wp2
    exact ⟨rfl, below_al (Below.refl _ _) _, _, Nat.zero_le _, rfl, heap_alloc_new _ _⟩
  · intro vals W hB ⟨⟨g4, _, h4, hg4⟩, _⟩
    have h4 : vals 4 = _ := h4
    dsimp only [putsL, slotOf]
    rw [h4]
    go_wp2_with ((go_at_call 16; refine (HCP.out W _ hg4 (HA4.out.below hB).s (HB4.out.below hB).s).mono ?_; rintro e w5 ⟨v, rfl, ho, hb4⟩; obtain ⟨p5, c5, rfl, hel, hfi, -⟩ := ho.fit))
    exact ⟨rfl, hb4, ⟨p5, c5, rfl, hel, hfi⟩⟩
  · intro vals W hB _
    dsimp only [putsL, slotOf]
    go_wp2
    exact ⟨rfl, Below.refl _ _, rfl⟩
  · intro vals W hB ⟨h6, _⟩
    have h6 : vals 6 = _ := h6
    obtain ⟨a0, a1, a2⟩ := (HA4.out.below hB).cells
    dsimp only [putsL, slotOf]
    rw [h6]
    go_wp2
    exact ⟨rfl, Below.refl _ _, rfl⟩
  · intro vals W hB _
    dsimp only [putsL, slotOf]
    go_wp2
    exact ⟨rfl, Below.refl _ _, rfl⟩
  · intro vals W hB ⟨h8, _⟩
    have h8 : vals 8 = _ := h8
    obtain ⟨a0, a1, a2⟩ := (HB4.out.below hB).cells
    dsimp only [putsL, slotOf]
    rw [h8]
    go_wp2
    exact ⟨rfl, Below.refl _ _, rfl⟩
  · intro vals W hB ⟨h7, h9, _⟩
    have h7 : vals 7 = _ := h7
    have h9 : vals 9 = _ := h9
    dsimp only [putsL, slotOf]
    rw [h7, h9]
    go_wp2
    exact ⟨rfl, below_al (Below.refl _ _) _, _, Nat.zero_le _, rfl, heap_alloc_new _ _⟩
  · intro vals W hB ⟨⟨pu5, cu5, h5, hz5⟩, ⟨g10, _, h10, hg10⟩, _⟩
    have h10 : vals 10 = _ := h10
    dsimp only [putsL, slotOf]
    rw [h10]
    go_wp2_with ((go_at_call 20; refine (HCD.out W _ hg10 (HA4.out.below hB).s (HB4.out.below hB).s).mono ?_; rintro e w5 ⟨v, rfl, ho, hb4⟩; obtain ⟨p5, c5, rfl, hel, hfi, -⟩ := ho.fit))
    exact ⟨rfl, hb4, ⟨p5, c5, rfl, hel, hfi⟩⟩
  · intro vals W hB ⟨⟨pu5, cu5, h5, hz5⟩, ⟨pu11, cu11, h11, hz11⟩, _⟩
    have h5 : vals 5 = _ := h5
    have h11 : vals 11 = _ := h11
    dsimp only [putsL, slotOf]
    rw [h5, h11]
    go_wp2
    exact ⟨rfl, Below.refl _ _, ⟨⟨pu5, cu5, none, 0, pu11, cu11⟩, by rw [← HXx.out]; rfl, by rw [← HXx.out]; exact ⟨hz5.1, Els.nil _ _, hz11.1⟩, by rw [← HXx.out]; exact ⟨hz5.2, (OwnE.nil elK w 0).fitN, hz11.2⟩⟩⟩
  · intro vals W hB _
    dsimp only [putsL, slotOf]
    go_wp2
    exact ⟨rfl, below_al (Below.refl _ _) _, _, hB.size, rfl, heap_alloc_new _ _⟩
  rintro vals W6 hB ⟨q0, q1, q2, q3, ⟨g4, hw4, q4, hg4⟩, ⟨pu5, cu5, q5, hz5⟩, q6, q7, q8, q9, ⟨g10, hw10, q10, hg10⟩, ⟨pu11, cu11, q11, hz11⟩, ⟨ax, q12, hat, hfit⟩, ⟨G9, hw13, q13, hg⟩, -⟩
  have h0 : vals 0 = _ := q0
  have h1 : vals 1 = _ := q1
  have h2 : vals 2 = _ := q2
  have h3 : vals 3 = _ := q3
  have h4 : vals 4 = _ := q4
  have h5 : vals 5 = _ := q5
  have h6 : vals 6 = _ := q6
  have h7 : vals 7 = _ := q7
  have h8 : vals 8 = _ := q8
  have h9 : vals 9 = _ := q9
  have h10 : vals 10 = _ := q10
  have h11 : vals 11 = _ := q11
  have h12 : vals 12 = _ := q12
  have h13 : vals 13 = _ := q13
  dsimp only [putsL]
  rw [h0, h1, h2, h3, h4, h5, h6, h7, h8, h9, h10, h11, h12, h13]
  clear h0 q0 h1 q1 h2 q2 h3 q3 h4 q4 h5 q5 h6 q6 h7 q7 h8 q8 h9 q9 h10 q10 h11 q11 h12 q12 h13 q13
  simp only [List.length_cons, List.length_nil, Nat.reduceAdd, List.drop_succ_cons, List.drop_zero, List.setIfInBounds_toArray, List.set_cons_succ, List.set_cons_zero]
  obtain ⟨hN, hT⟩ := nbox_set hat ⟨_, _, _, _, _, _, _, _, _, hg⟩
  obtain ⟨W7, hW7⟩ : ∃ W7, ((W6.setCell ⟨G9, 0, none⟩ (.slice ax.pp x.ps.length ax.cp)).setCell ⟨G9, 1, none⟩ (.slice ax.pk x.ks.length ax.ck)).setCell ⟨G9, 2, none⟩ (.slice ax.pd x.ds.length ax.cd) = W7 := ⟨_, rfl⟩
  rw [hW7] at hN hT
  have hr6 := lt_of_heap HR5.out
  have HN7 : Veil _ := ⟨hN⟩
  have HR7 : Veil _ := ⟨hT.heap ((hB.block _ (lt_of_heap HR5.out)).trans HR5.out) (show W2.heap.size ≠ G9 by omega)⟩
  have hx6 := bn_then HX5.out hB
  have HX7 : Veil _ := ⟨hx6.trans (hT.toBelow hx6.size (fun k _ e => by have := HZ.out; omega))⟩
  obtain ⟨⟨z0, z1, z2⟩, k0, k1, k2⟩ := box3 hg
  obtain ⟨x0, x1, x2⟩ := HN7.out.cells
  clear hB hN hT hat hfit hg HA4 HB4 HR5 HX5 hx6 hw13 hr6
  cases r
  · obtain rfl : Nd.zero = y := HYy.out
    obtain rfl : (60 : Int) = er := HEr.out
    go_wp2_with (go_at_call 26; refine (HRx.out _ _ HN7.out.s).mono ?_; rintro e w8 ⟨rfl, hb8⟩; have HR8 : Veil _ := ⟨(hb8.block _ (lt_of_heap HR7.out)).trans HR7.out⟩; have HX8 : Veil _ := ⟨bn_then HX7.out hb8⟩; clear hb8 x0 x1 x2 z0 z1 z2 k0 k1 k2; obtain ⟨⟨x0, x1, x2⟩, k0, k1, k2⟩ := box3 HR8.out)
    have hU := (((Turned.refl (· = W2.heap.size) w8).setCell (p := ⟨W2.heap.size, 0, none⟩) rfl (.slice none 0 0)).setCell (p := ⟨W2.heap.size, 1, none⟩) rfl (.slice none 0 0)).setCell (p := ⟨W2.heap.size, 2, none⟩) rfl (.slice none 0 0)
    have hz := HZ.out
    exact bodyPost_ret (results_node2 (g := W2.heap.size) (y := .int .i64 60) rfl rfl rfl (heap_setCell_at (heap_setCell_at (heap_setCell_at HR8.out 0 _) 1 _) 2 _)) rfl ⟨⟨none, 0, none, 0, none, 0⟩, rfl, ⟨Els.nil _ _, Els.nil _ _, Els.nil _ _⟩, HX8.out.trans (hU.toBelow HX8.out.size (fun k _ e => by omega))⟩
  · obtain rfl : x = y := HYy.out
    obtain rfl : (0 : Int) = er := HEr.out
    go_wp2_with (go_at_call 26; refine (HRx.out _ _ HN7.out.s).mono ?_; rintro e w8 ⟨rfl, hb8⟩; have HN8 : Veil _ := ⟨HN7.out.below hb8⟩; have HR8 : Veil _ := ⟨(hb8.block _ (lt_of_heap HR7.out)).trans HR7.out⟩; have HX8 : Veil _ := ⟨bn_then HX7.out hb8⟩; clear hb8 x0 x1 x2 z0 z1 z2 k0 k1 k2; obtain ⟨⟨y0, y1, y2⟩, k0, k1, k2⟩ := box3 HR8.out; obtain ⟨x0, x1, x2⟩ := HN8.out.cells)
    have hz := HZ.out
    have hU := nbox_set HN8.out.s ⟨_, _, _, _, _, _, _, _, _, HR8.out⟩
    exact bodyPost_ret (results_node2 (g := W2.heap.size) (y := .int .i64 0) rfl rfl rfl hU.1.b) rfl ⟨ax, rfl, hU.1.s, HX8.out.trans (hU.2.toBelow HX8.out.size (fun k _ e => by omega))⟩
end Go.Proofs.Ytalnmaoidaldhaa

/- The walk of Join, of two branches. -/
namespace Go.Proofs.Ytalnmaoidaldhaa
open Go Go.RowKit Sm
attribute [local go_sem] Oper.semAt_some

set_option maxRecDepth 20000 in
set_option maxHeartbeats 4000000 in
theorem join_branch {w : World} {A B : Nd} {a b : NdP} (h : NdAt w A a) (h' : NdAt w B b) (ha : Veil A.Ok) (hb : Veil B.Ok) (key : List UInt8) (hka : A.kd = 2) (hkb : B.kd = 2) (_hkey : key.length ≤ 1000000) (r : Bool) (hr : (⟨A.ps ++ B.ps, A.ks ++ [key] ++ B.ks, A.ds ++ B.ds⟩ : Nd).right = r) (hxo : Veil (⟨A.ps ++ B.ps, A.ks ++ [key] ++ B.ks, A.ds ++ B.ds⟩ : Nd).Ok) :
    Calls Try.prog 8 #[A.v a, .string ⟨key.toArray⟩, B.v b] w (JoinPost w (if r = true then ⟨A.ps ++ B.ps, A.ks ++ [key] ++ B.ks, A.ds ++ B.ds⟩ else Nd.zero) (if r = true then 0 else 60)) := by
  have HKa : Veil (∀ W, NdAt W A a → Calls Try.prog 25 #[A.v a] W fun e w' => e = .returned (.int .i64 2) ∧ Below W.heap.size W w') := ⟨fun W h => by have := kindOf_of h ha; rw [show (if A.right then A.kind else 0) = 2 from hka] at this; exact this⟩
  have HKb : Veil (∀ W, NdAt W B b → Calls Try.prog 25 #[B.v b] W fun e w' => e = .returned (.int .i64 2) ∧ Below W.heap.size W w') := ⟨fun W h => by have := kindOf_of h hb; rw [show (if B.right then B.kind else 0) = 2 from hkb] at this; exact this⟩
  have l1 := ha.out.p
  have l2 := hb.out.p
  have l3 := ha.out.d
  have l4 := hb.out.d
  have l5 := ha.out.k
  have l6 := hb.out.k
  have HCK : Veil (∀ W g gk, W.heap[g]? = some (.cells #[.slice a.pk A.ks.length a.ck, .slice (some ⟨gk, 0, none⟩) (1 : Nat) (1 : Nat), .slice b.pk B.ks.length b.ck] 23 (0, 0)) → W.heap[gk]? = some (.cells #[.string ⟨key.toArray⟩] 9 (0, 0)) → NdAt W A a → NdAt W B b → Calls Try.prog 18 #[.slice (some ⟨g, 0, none⟩) (3 : Nat) (3 : Nat)] W fun e w' => ∃ v, e = .returned v ∧ OwnE elK w' W.heap.size v (A.ks ++ [key] ++ B.ks) ∧ Below W.heap.size W w') := ⟨fun W g gk hg hgk h1 h2 => by
    have he : Els elK W (some ⟨gk, 0, none⟩) [key] := els_of_block (cur := #[.string ⟨key.toArray⟩]) (t := 9) (fr := (0, 0)) hgk (by rfl)
    refine (concatK_of (P := [⟨a.pk, a.ck, A.ks⟩, ⟨some ⟨gk, 0, none⟩, 1, [key]⟩, ⟨b.pk, b.ck, B.ks⟩]) (g := g) (t := 23) (by simpa [Pt.v] using hg) 3 ?_ ?_ (by simp)).mono ?_
    · intro x hx
      simp only [List.mem_cons, List.not_mem_nil, or_false] at hx
      rcases hx with rfl | rfl | rfl
      · exact h1.k
      · exact he
      · exact h2.k
    · simp only [sumL, List.map_cons, List.map_nil, List.sum_cons, List.sum_nil, List.length_cons, List.length_nil]; omega
    · rintro e w' ⟨v, rfl, ho, hb'⟩
      exact ⟨v, rfl, by simpa [allL] using ho, hb'⟩⟩
  have HCP : Veil (∀ W g, W.heap[g]? = some (.cells #[.slice a.pp A.ps.length a.cp, .slice b.pp B.ps.length b.cp] 22 (0, 0)) → NdAt W A a → NdAt W B b → Calls Try.prog 16 #[.slice (some ⟨g, 0, none⟩) (2 : Nat) (2 : Nat)] W fun e w' => ∃ v, e = .returned v ∧ OwnE elP w' W.heap.size v (A.ps ++ B.ps) ∧ Below W.heap.size W w') := ⟨fun W g hg h1 h2 => by
    refine (concatP_of (P := [⟨a.pp, a.cp, A.ps⟩, ⟨b.pp, b.cp, B.ps⟩]) (g := g) (t := 22) (by simpa [Pt.v] using hg) 2 ?_ ?_ (by simp)).mono ?_
    · intro x hx
      simp only [List.mem_cons, List.not_mem_nil, or_false] at hx
      rcases hx with rfl | rfl
      · exact h1.p
      · exact h2.p
    · simp only [sumL, List.map_cons, List.map_nil, List.sum_cons, List.sum_nil]; omega
    · rintro e w' ⟨v, rfl, ho, hb'⟩
      exact ⟨v, rfl, by simpa [allL] using ho, hb'⟩⟩
  have HCD : Veil (∀ W g, W.heap[g]? = some (.cells #[.slice a.pd A.ds.length a.cd, .slice b.pd B.ds.length b.cd] 24 (0, 0)) → NdAt W A a → NdAt W B b → Calls Try.prog 20 #[.slice (some ⟨g, 0, none⟩) (2 : Nat) (2 : Nat)] W fun e w' => ∃ v, e = .returned v ∧ OwnE elD w' W.heap.size v (A.ds ++ B.ds) ∧ Below W.heap.size W w') := ⟨fun W g hg h1 h2 => by
    refine (concatD_of (P := [⟨a.pd, a.cd, A.ds⟩, ⟨b.pd, b.cd, B.ds⟩]) (g := g) (t := 24) (by simpa [Pt.v] using hg) 2 ?_ ?_ (by simp)).mono ?_
    · intro x hx
      simp only [List.mem_cons, List.not_mem_nil, or_false] at hx
      rcases hx with rfl | rfl
      · exact h1.d
      · exact h2.d
    · simp only [sumL, List.map_cons, List.map_nil, List.sum_cons, List.sum_nil]; omega
    · rintro e w' ⟨v, rfl, ho, hb'⟩
      exact ⟨v, rfl, by simpa [allL] using ho, hb'⟩⟩
  have HRx : Veil (∀ W c, NdAt W ⟨A.ps ++ B.ps, A.ks ++ [key] ++ B.ks, A.ds ++ B.ds⟩ c → Calls Try.prog 26 #[(⟨A.ps ++ B.ps, A.ks ++ [key] ++ B.ks, A.ds ++ B.ds⟩ : Nd).v c] W fun e w' => e = .returned (.bool r) ∧ Below W.heap.size W w') := ⟨fun W c h => by have := nright_of h hxo; rw [hr] at this; exact this⟩
  clear hr hxo ha hb hka hkb
  obtain ⟨x, hx⟩ : ∃ x : Nd, (⟨A.ps ++ B.ps, A.ks ++ [key] ++ B.ks, A.ds ++ B.ds⟩ : Nd) = x := ⟨_, rfl⟩
  have HXx : Veil _ := ⟨hx⟩
  rw [hx] at HRx ⊢
  clear hx
  obtain ⟨y, hy⟩ : ∃ y : Nd, (if r = true then x else Nd.zero) = y := ⟨_, rfl⟩
  obtain ⟨er, her⟩ : ∃ er : Int, (if r = true then (0 : Int) else 60) = er := ⟨_, rfl⟩
  rw [hy, her]
  have HYy : Veil _ := ⟨hy⟩
  have HEr : Veil _ := ⟨her⟩
  clear hy her
  obtain ⟨x9, hx9⟩ : ∃ x9 : Nd, (⟨A.ps ++ B.ps, [], A.ds ++ B.ds⟩ : Nd) = x9 := ⟨_, rfl⟩
  have HX9 : Veil _ := ⟨hx9⟩
  clear hx9
  revert HX9; revert HXx; revert HCK; revert HCD; revert HCP
  generalize A.ps ++ B.ps = X
  generalize A.ds ++ B.ds = Z
  generalize A.ks ++ [key] ++ B.ks = K
  intro HCP HCD HCK HXx HX9
  obtain ⟨W1, W2, W3, hW1, hW2, hW3, HJ⟩ := join_start w h h'
  have HA : Veil _ := ⟨HJ.out.1⟩
  have HB : Veil _ := ⟨HJ.out.2.1⟩
  have HR : Veil _ := ⟨HJ.out.2.2.1⟩
  have HX : Veil _ := ⟨HJ.out.2.2.2.1⟩
  have HZ0 : Veil (W1.heap.size = w.heap.size + 1) := ⟨HJ.out.2.2.2.2.1⟩
  have HZ : Veil (w.heap.size < W2.heap.size ∧ W2.heap.size < W3.heap.size ∧ W1.heap.size < W2.heap.size) := ⟨by have := HJ.out.2.2.2.2; have := lt_of_heap HR.out; omega⟩
  obtain ⟨a0, a1, a2⟩ := HA.out.cells
  obtain ⟨b0, b1, b2⟩ := HB.out.cells
  clear h h' HJ l1 l2 l3 l4 l5 l6
  unfold Nd.v at *
  go_enter Try.func8, Try.ntmps8
  go_wp2_with (first
    | (go_at_call 25; (with_reducible refine (HKb.out w4 HB3.out.s).mono ?_); rintro e w5 ⟨rfl, hb5⟩; have HA4 : Veil _ := ⟨HA3.out.below hb5⟩; have HB4 : Veil _ := ⟨HB3.out.below hb5⟩; have HR5 : Veil _ := ⟨(hb5.block _ (lt_of_heap HR4.out)).trans HR4.out⟩; have HX5 : Veil _ := ⟨bn_then HX4.out hb5⟩; clear hb5 b0 b1 b2)
    | (go_at_call 25; (with_reducible refine (HKa.out W3 HA.out.s).mono ?_); rintro e w4 ⟨rfl, hb4⟩; have HA3 : Veil _ := ⟨HA.out.below hb4⟩; have HB3 : Veil _ := ⟨HB.out.below hb4⟩; have HR4 : Veil _ := ⟨(hb4.block _ (lt_of_heap HR.out)).trans HR.out⟩; have HX4 : Veil _ := ⟨bn_then HX.out hb4⟩; clear hb4 a0 a1 a2 b0 b1 b2; obtain ⟨b0, b1, b2⟩ := HB3.out.cells))
  have HZ1 : Veil (w.heap.size < W1.heap.size) := ⟨lt_of_heap HA4.out.b |> fun _ => by have := HZ.out; have := HZ0.out; omega⟩
  obtain ⟨G1, hG1⟩ : ∃ G1, w.heap.size = G1 := ⟨_, rfl⟩
  obtain ⟨G2, hG2⟩ : ∃ G2, W1.heap.size = G2 := ⟨_, rfl⟩
  rw [hG1] at HA4
  rw [hG2] at HB4
  rw [hG1, hG2]
  clear hW1 hW2 hW3 HA HB HA3 HB3 HR HR4 HX HX4 HKa HKb
  refine region_new [.is (.pointer (some ⟨G1, 0, none⟩)), .is (.slice a.pp A.ps.length a.cp), .is (.pointer (some ⟨G2, 0, none⟩)), .is (.slice b.pp B.ps.length b.cp), .row 0 (fun g => .slice (some ⟨g, 0, none⟩) 2 2) #[.slice a.pp A.ps.length a.cp, .slice b.pp B.ps.length b.cp] 22, .gen (fun v W => ∃ p c, v = .slice p X.length c ∧ Els elP W p X ∧ SlOk p X.length c) (fun v W W' hb ⟨p, c, h1, h2, h3⟩ => ⟨p, c, h1, h2.below hb, h3⟩), .is (.pointer (some ⟨G1, 2, none⟩)), .is (.slice a.pd A.ds.length a.cd), .is (.pointer (some ⟨G2, 2, none⟩)), .is (.slice b.pd B.ds.length b.cd), .row 0 (fun g => .slice (some ⟨g, 0, none⟩) 2 2) #[.slice a.pd A.ds.length a.cd, .slice b.pd B.ds.length b.cd] 24, .gen (fun v W => ∃ p c, v = .slice p Z.length c ∧ Els elD W p Z ∧ SlOk p Z.length c) (fun v W W' hb ⟨p, c, h1, h2, h3⟩ => ⟨p, c, h1, h2.below hb, h3⟩), .gen (fun v W => ∃ ax : NdP, v = .agg #[.slice ax.pp x9.ps.length ax.cp, .slice ax.pk x9.ks.length ax.ck, .slice ax.pd x9.ds.length ax.cd] ∧ NdAt W x9 ax ∧ NdFit x9 ax) (fun v W W' hb ⟨a, h1, h2, h3⟩ => ⟨a, h1, h2.below hb, h3⟩), .row w5.heap.size (fun g => .pointer (some ⟨g, 0, none⟩)) #[.slice none 0 0, .slice none 0 0, .slice none 0 0] 26]
    [[], [(0, 21)], [], [(2, 23)], [(1, 22), (3, 24)], [(4, 25)], [], [(6, 27)], [], [(8, 29)], [(7, 28), (9, 30)], [(10, 31)], [(5, 26), (11, 32)], []]
    [[], [0], [], [2], [1, 3], [4], [], [6], [], [8], [7, 9], [5, 10], [5, 11], []]
    [(0, 21), (1, 22), (2, 23), (3, 24), (4, 25), (5, 26), (6, 27), (7, 28), (8, 29), (9, 30), (10, 31), (11, 32), (12, 33), (13, 9)] rfl (by kernel_rfl) ⟨?_, ?_, ?_, ?_, ?_, ?_, ?_, ?_, ?_, ?_, ?_, ?_, ?_, ?_, trivial⟩ ?_
  · intro vals W hB _
    dsimp only [putsL, slotOf]
    go_wp2
    exact ⟨rfl, Below.refl _ _, rfl⟩
  · intro vals W hB ⟨h0, _⟩
    have h0 : vals 0 = _ := h0
    obtain ⟨a0, a1, a2⟩ := (HA4.out.below hB).cells
    dsimp only [putsL, slotOf]
    rw [h0]
    go_wp2
    exact ⟨rfl, Below.refl _ _, rfl⟩
  · intro vals W hB _
    dsimp only [putsL, slotOf]
    go_wp2
    exact ⟨rfl, Below.refl _ _, rfl⟩
  · intro vals W hB ⟨h2, _⟩
    have h2 : vals 2 = _ := h2
    obtain ⟨a0, a1, a2⟩ := (HB4.out.below hB).cells
    dsimp only [putsL, slotOf]
    rw [h2]
    go_wp2
    exact ⟨rfl, Below.refl _ _, rfl⟩
  · intro vals W hB ⟨h1, h3, _⟩
    have h1 : vals 1 = _ := h1
    have h3 : vals 3 = _ := h3
    dsimp only [putsL, slotOf]
    rw [h1, h3]
    go_wp2
    exact ⟨rfl, below_al (Below.refl _ _) _, _, Nat.zero_le _, rfl, heap_alloc_new _ _⟩
  · intro vals W hB ⟨⟨g4, _, h4, hg4⟩, _⟩
    have h4 : vals 4 = _ := h4
    dsimp only [putsL, slotOf]
    rw [h4]
    go_wp2_with ((go_at_call 16; refine (HCP.out W _ hg4 (HA4.out.below hB).s (HB4.out.below hB).s).mono ?_; rintro e w5 ⟨v, rfl, ho, hb4⟩; obtain ⟨p5, c5, rfl, hel, hfi, -⟩ := ho.fit))
    exact ⟨rfl, hb4, ⟨p5, c5, rfl, hel, hfi⟩⟩
  · intro vals W hB _
    dsimp only [putsL, slotOf]
    go_wp2
    exact ⟨rfl, Below.refl _ _, rfl⟩
  · intro vals W hB ⟨h6, _⟩
    have h6 : vals 6 = _ := h6
    obtain ⟨a0, a1, a2⟩ := (HA4.out.below hB).cells
    dsimp only [putsL, slotOf]
    rw [h6]
    go_wp2
    exact ⟨rfl, Below.refl _ _, rfl⟩
  · intro vals W hB _
    dsimp only [putsL, slotOf]
    go_wp2
    exact ⟨rfl, Below.refl _ _, rfl⟩
  · intro vals W hB ⟨h8, _⟩
    have h8 : vals 8 = _ := h8
    obtain ⟨a0, a1, a2⟩ := (HB4.out.below hB).cells
    dsimp only [putsL, slotOf]
    rw [h8]
    go_wp2
    exact ⟨rfl, Below.refl _ _, rfl⟩
  · intro vals W hB ⟨h7, h9, _⟩
    have h7 : vals 7 = _ := h7
    have h9 : vals 9 = _ := h9
    dsimp only [putsL, slotOf]
    rw [h7, h9]
    go_wp2
    exact ⟨rfl, below_al (Below.refl _ _) _, _, Nat.zero_le _, rfl, heap_alloc_new _ _⟩
  · intro vals W hB ⟨⟨pu5, cu5, h5, hz5⟩, ⟨g10, _, h10, hg10⟩, _⟩
    have h10 : vals 10 = _ := h10
    dsimp only [putsL, slotOf]
    rw [h10]
    go_wp2_with ((go_at_call 20; refine (HCD.out W _ hg10 (HA4.out.below hB).s (HB4.out.below hB).s).mono ?_; rintro e w5 ⟨v, rfl, ho, hb4⟩; obtain ⟨p5, c5, rfl, hel, hfi, -⟩ := ho.fit))
    exact ⟨rfl, hb4, ⟨p5, c5, rfl, hel, hfi⟩⟩
  · intro vals W hB ⟨⟨pu5, cu5, h5, hz5⟩, ⟨pu11, cu11, h11, hz11⟩, _⟩
    have h5 : vals 5 = _ := h5
    have h11 : vals 11 = _ := h11
    dsimp only [putsL, slotOf]
    rw [h5, h11]
    go_wp2
    exact ⟨rfl, Below.refl _ _, ⟨⟨pu5, cu5, none, 0, pu11, cu11⟩, by rw [← HX9.out]; rfl, by rw [← HX9.out]; exact ⟨hz5.1, Els.nil _ _, hz11.1⟩, by rw [← HX9.out]; exact ⟨hz5.2, (OwnE.nil elK w 0).fitN, hz11.2⟩⟩⟩
  · intro vals W hB _
    dsimp only [putsL, slotOf]
    go_wp2
    exact ⟨rfl, below_al (Below.refl _ _) _, _, hB.size, rfl, heap_alloc_new _ _⟩
  rintro vals W6 hB ⟨q0, q1, q2, q3, ⟨g4, hw4, q4, hg4⟩, ⟨pu5, cu5, q5, hz5⟩, q6, q7, q8, q9, ⟨g10, hw10, q10, hg10⟩, ⟨pu11, cu11, q11, hz11⟩, ⟨ax, q12, hat, hfit⟩, ⟨G9, hw13, q13, hg⟩, -⟩
  have h0 : vals 0 = _ := q0
  have h1 : vals 1 = _ := q1
  have h2 : vals 2 = _ := q2
  have h3 : vals 3 = _ := q3
  have h4 : vals 4 = _ := q4
  have h5 : vals 5 = _ := q5
  have h6 : vals 6 = _ := q6
  have h7 : vals 7 = _ := q7
  have h8 : vals 8 = _ := q8
  have h9 : vals 9 = _ := q9
  have h10 : vals 10 = _ := q10
  have h11 : vals 11 = _ := q11
  have h12 : vals 12 = _ := q12
  have h13 : vals 13 = _ := q13
  dsimp only [putsL]
  rw [h0, h1, h2, h3, h4, h5, h6, h7, h8, h9, h10, h11, h12, h13]
  clear h0 q0 h1 q1 h2 q2 h3 q3 h4 q4 h5 q5 h6 q6 h7 q7 h8 q8 h9 q9 h10 q10 h11 q11 h12 q12 h13 q13
  simp only [List.length_cons, List.length_nil, Nat.reduceAdd, List.drop_succ_cons, List.drop_zero, List.setIfInBounds_toArray, List.set_cons_succ, List.set_cons_zero]
  obtain ⟨hN, hT⟩ := nbox_set hat ⟨_, _, _, _, _, _, _, _, _, hg⟩
  obtain ⟨W7, hW7⟩ : ∃ W7, ((W6.setCell ⟨G9, 0, none⟩ (.slice ax.pp x9.ps.length ax.cp)).setCell ⟨G9, 1, none⟩ (.slice ax.pk x9.ks.length ax.ck)).setCell ⟨G9, 2, none⟩ (.slice ax.pd x9.ds.length ax.cd) = W7 := ⟨_, rfl⟩
  rw [hW7] at hN hT
  have hr6 := lt_of_heap HR5.out
  have HN7 : Veil _ := ⟨hN⟩
  have HR7 : Veil _ := ⟨hT.heap ((hB.block _ (lt_of_heap HR5.out)).trans HR5.out) (show W2.heap.size ≠ G9 by omega)⟩
  have hx6 := bn_then HX5.out hB
  have HX7 : Veil _ := ⟨hx6.trans (hT.toBelow hx6.size (fun k _ e => by have := HZ.out; omega))⟩
  have h3 : Box3 W6 G9 := ⟨_, _, _, _, _, _, _, _, _, hg⟩
  have HZG : Veil (G1 < W1.heap.size ∧ W1.heap.size = G2 ∧ G2 < W2.heap.size ∧ W2.heap.size < G9) := ⟨by have := HZ.out; have := HZ1.out; omega⟩
  have HA7 : Veil _ := ⟨(HA4.out.below hB).turned h3 hT (by have := HZG.out; omega)⟩
  have HB7 : Veil _ := ⟨(HB4.out.below hB).turned h3 hT (by have := HZG.out; omega)⟩
  obtain ⟨⟨z0, z1, z2⟩, k0, k1, k2⟩ := box3 hg
  obtain ⟨u1, hu1⟩ : ∃ u1, W7.alloc (.cells #[.string ⟨key.toArray⟩] 9) = u1 := ⟨_, rfl⟩
  obtain ⟨u2, hu2⟩ : ∃ u2, u1.alloc (.cells #[.slice a.pk A.ks.length a.ck, .slice (some ⟨W7.heap.size, 0, none⟩) (1 : Nat) (1 : Nat), .slice b.pk B.ks.length b.ck] 23) = u2 := ⟨_, rfl⟩
  have v1 : Below W7.heap.size W7 u1 := by rw [← hu1]; exact below_al (Below.refl _ _) _
  have v2 : Below u1.heap.size u1 u2 := by rw [← hu2]; exact below_al (Below.refl _ _) _
  have g1 : u1.heap[W7.heap.size]? = some (.cells #[.string ⟨key.toArray⟩] 9 (0, 0)) := by rw [← hu1]; exact heap_alloc_new _ _
  have HG2 : Veil (u2.heap[u1.heap.size]? = some (.cells #[.slice a.pk A.ks.length a.ck, .slice (some ⟨W7.heap.size, 0, none⟩) (1 : Nat) (1 : Nat), .slice b.pk B.ks.length b.ck] 23 (0, 0))) := ⟨by rw [← hu2]; exact heap_alloc_new _ _⟩
  have HG1 : Veil _ := ⟨(v2.block _ (lt_of_heap g1)).trans g1⟩
  have HA2 : Veil _ := ⟨(HA7.out.below v1).below v2⟩
  have HB1 : Veil _ := ⟨HB7.out.below v1⟩
  have HB2 : Veil _ := ⟨HB1.out.below v2⟩
  have HNu : Veil _ := ⟨(HN7.out.below v1).below v2⟩
  have HRu : Veil _ := ⟨(v2.block _ (lt_of_heap ((v1.block _ (lt_of_heap HR7.out)).trans HR7.out))).trans ((v1.block _ (lt_of_heap HR7.out)).trans HR7.out)⟩
  have HXu : Veil _ := ⟨bn_then (bn_then HX7.out v1) v2⟩
  obtain ⟨p0, p1, p2⟩ := HA7.out.cells
  obtain ⟨q0, q1, q2⟩ := HB1.out.cells
  clear hB hN hT hat hfit hg h3 HA4 HB4 HR5 HX5 hx6 hw13 hr6 v1 v2 g1
  cases r
  · obtain rfl : Nd.zero = y := HYy.out
    obtain rfl : (60 : Int) = er := HEr.out
    go_wp2_with (first
      | (go_at_call 26; refine (HRx.out _ _ HN6.out.s).mono ?_; rintro e w8 ⟨rfl, hb8⟩; have HN8 : Veil _ := ⟨HN6.out.below hb8⟩; have HR8 : Veil _ := ⟨(hb8.block _ (lt_of_heap HR6.out)).trans HR6.out⟩; have HX8 : Veil _ := ⟨bn_then HX6.out hb8⟩; clear hb8 x0 x1 x2 j0 j1 j2 n0 n1 n2; obtain ⟨⟨y0, y1, y2⟩, k0', k1', k2'⟩ := box3 HR8.out; obtain ⟨x0, x1, x2⟩ := HN8.out.cells)
      | (go_at_call 18; refine (HCK.out u2 _ _ HG2.out HG1.out HA2.out.s HB2.out.s).mono ?_; rintro e w5 ⟨v, rfl, ho, hb5⟩; obtain ⟨p5, c5, rfl, hel, -, -⟩ := ho.fit; have HN5 : Veil _ := ⟨HNu.out.below hb5⟩; have HR5 : Veil _ := ⟨(hb5.block _ (lt_of_heap HRu.out)).trans HRu.out⟩; have HX5 : Veil _ := ⟨bn_then HXu.out hb5⟩; obtain ⟨⟨x0, x1, x2⟩, j0, j1, j2⟩ := box3 HN5.out.b; obtain ⟨w6, hw6⟩ : ∃ w6, w5.setCell ⟨G9, 1, none⟩ (.slice p5 K.length c5) = w6 := ⟨_, rfl⟩; have hT := (Turned.refl (· = G9) w5).setCell (p := ⟨G9, 1, none⟩) rfl (.slice p5 K.length c5); have hb9 := heap_setCell_at HN5.out.b 1 (.slice p5 K.length c5); rw [hw6] at hT hb9; have hat5 := ndat_box HN5.out.s HN5.out.box3 hT; have hel6 := els_box hel (fun x => by simp [elK, sv]) HN5.out.box3 hT; have HN6 : Veil (NBox w6 G9 x ⟨ax.pp, ax.cp, p5, c5, ax.pd, ax.cd⟩) := ⟨by rw [← HXx.out]; have h9 := HX9.out; rw [← h9] at hb9 hat5; exact ⟨hb9, ⟨hat5.p, hel6, hat5.d⟩⟩⟩; have HR6 : Veil _ := ⟨hT.heap HR5.out (show W2.heap.size ≠ G9 by have := HZG.out; omega)⟩; have HX6 : Veil _ := ⟨HX5.out.trans (hT.toBelow HX5.out.size (fun k _ e => by have := HZ.out; have := HZG.out; omega))⟩; clear ho hel hb5 hT hb9 hat5 hel6; obtain ⟨n0, n1, n2⟩ := HN6.out.cells))
    have hU := (((Turned.refl (· = W2.heap.size) w8).setCell (p := ⟨W2.heap.size, 0, none⟩) rfl (.slice none 0 0)).setCell (p := ⟨W2.heap.size, 1, none⟩) rfl (.slice none 0 0)).setCell (p := ⟨W2.heap.size, 2, none⟩) rfl (.slice none 0 0)
    have hz := HZ.out
    exact bodyPost_ret (results_node2 (g := W2.heap.size) (y := .int .i64 60) rfl rfl rfl (heap_setCell_at (heap_setCell_at (heap_setCell_at HR8.out 0 _) 1 _) 2 _)) rfl ⟨⟨none, 0, none, 0, none, 0⟩, rfl, ⟨Els.nil _ _, Els.nil _ _, Els.nil _ _⟩, HX8.out.trans (hU.toBelow HX8.out.size (fun k _ e => by omega))⟩
  · obtain rfl : x = y := HYy.out
    obtain rfl : (0 : Int) = er := HEr.out
    go_wp2_with (first
      | (go_at_call 26; refine (HRx.out _ _ HN6.out.s).mono ?_; rintro e w8 ⟨rfl, hb8⟩; have HN8 : Veil _ := ⟨HN6.out.below hb8⟩; have HR8 : Veil _ := ⟨(hb8.block _ (lt_of_heap HR6.out)).trans HR6.out⟩; have HX8 : Veil _ := ⟨bn_then HX6.out hb8⟩; clear hb8 x0 x1 x2 j0 j1 j2 n0 n1 n2; obtain ⟨⟨y0, y1, y2⟩, k0', k1', k2'⟩ := box3 HR8.out; obtain ⟨x0, x1, x2⟩ := HN8.out.cells)
      | (go_at_call 18; refine (HCK.out u2 _ _ HG2.out HG1.out HA2.out.s HB2.out.s).mono ?_; rintro e w5 ⟨v, rfl, ho, hb5⟩; obtain ⟨p5, c5, rfl, hel, -, -⟩ := ho.fit; have HN5 : Veil _ := ⟨HNu.out.below hb5⟩; have HR5 : Veil _ := ⟨(hb5.block _ (lt_of_heap HRu.out)).trans HRu.out⟩; have HX5 : Veil _ := ⟨bn_then HXu.out hb5⟩; obtain ⟨⟨x0, x1, x2⟩, j0, j1, j2⟩ := box3 HN5.out.b; obtain ⟨w6, hw6⟩ : ∃ w6, w5.setCell ⟨G9, 1, none⟩ (.slice p5 K.length c5) = w6 := ⟨_, rfl⟩; have hT := (Turned.refl (· = G9) w5).setCell (p := ⟨G9, 1, none⟩) rfl (.slice p5 K.length c5); have hb9 := heap_setCell_at HN5.out.b 1 (.slice p5 K.length c5); rw [hw6] at hT hb9; have hat5 := ndat_box HN5.out.s HN5.out.box3 hT; have hel6 := els_box hel (fun x => by simp [elK, sv]) HN5.out.box3 hT; have HN6 : Veil (NBox w6 G9 x ⟨ax.pp, ax.cp, p5, c5, ax.pd, ax.cd⟩) := ⟨by rw [← HXx.out]; have h9 := HX9.out; rw [← h9] at hb9 hat5; exact ⟨hb9, ⟨hat5.p, hel6, hat5.d⟩⟩⟩; have HR6 : Veil _ := ⟨hT.heap HR5.out (show W2.heap.size ≠ G9 by have := HZG.out; omega)⟩; have HX6 : Veil _ := ⟨HX5.out.trans (hT.toBelow HX5.out.size (fun k _ e => by have := HZ.out; have := HZG.out; omega))⟩; clear ho hel hb5 hT hb9 hat5 hel6; obtain ⟨n0, n1, n2⟩ := HN6.out.cells))
    have hz := HZ.out
    have hU := nbox_set HN8.out.s ⟨_, _, _, _, _, _, _, _, _, HR8.out⟩
    exact bodyPost_ret (results_node2 (g := W2.heap.size) (y := .int .i64 0) rfl rfl rfl hU.1.b) rfl ⟨⟨ax.pp, ax.cp, p5, c5, ax.pd, ax.cd⟩, rfl, hU.1.s, HX8.out.trans (hU.2.toBelow HX8.out.size (fun k _ e => by omega))⟩
end Go.Proofs.Ytalnmaoidaldhaa
