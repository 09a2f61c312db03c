/- The law NodeBytes. -/
import Derived.Test.YtfpcknkinlegcaaKOF
import Derived.Test.YtfpcknkinlegcaaKF1
namespace Go.Proofs.Ytfpcknkinlegcaa
open Go Go.RowKit Sm
attribute [local go_sem] Oper.semAt_some

theorem encR_form (m : Nd) : ∃ (K : Int) (S : ByteArray) (E : Int), m.encR = .tuple #[.int .i64 K, .string S, .int .i64 E] := by
  unfold Nd.encR
  split
  · exact ⟨_, _, _, rfl⟩
  · exact ⟨_, _, _, rfl⟩

set_option maxRecDepth 20000 in
set_option maxHeartbeats 4000000 in
theorem nodeBytes_any {w : World} {n : Nd} {a : NdP} (h : NdIn w n a) (key : List UInt8) (hkey : key.length ≤ 9223372036854775807) : Calls Try.prog 3 #[n.v a, .string ⟨key.toArray⟩] w fun e w' => e = .returned (.bool true) ∧ Below w.heap.size w w' := by
  have HC : Veil (∀ W, NdAt W n a → Calls Try.prog 11 #[n.v a] W fun e w' => ∃ v1 v2 v3, e = .returned (.agg #[v1, v2, v3]) ∧ NdOwn w' W.heap.size v1 v2 v3 n.cut ∧ Below W.heap.size W w') := ⟨fun W hW => lawcut_of hW h.f h.p h.k⟩
  have hok := h.cut_ok
  have hkt : (key.take 70).length ≤ 1000000 := by simp; omega
  have HTx : Veil (∀ W, Calls Try.prog 19 #[.string ⟨key.toArray⟩] W fun e w' => e = .returned (.string ⟨(key.take 70).toArray⟩) ∧ w' = W) := ⟨fun W => lawtext_any key hkey W⟩
  have HPl : Veil (∀ W a', NdAt W n.cut a' → Calls Try.prog 18 #[n.cut.v a', .string ⟨(key.take 70).toArray⟩] W fun e w' => e = .returned (.int .i64 (n.cut.place (key.take 70))) ∧ Below W.heap.size W w') := ⟨fun W a' h => nplace_of h ⟨hok⟩ _ hkt⟩
  have HPR : Veil (∀ W a', NdAt W n.cut a' → Calls Try.prog 20 #[n.cut.v a', .string ⟨(key.take 70).toArray⟩] W fun e w' => e = .returned (.int .i64 (n.cut.place (key.take 70))) ∧ Below W.heap.size W w') := ⟨fun W a' h => refplace_of h ⟨hok⟩ _ hkt⟩
  have HE : Veil (∀ W a', NdAt W n.cut a' → NdFit n.cut a' → Calls Try.prog 12 #[n.cut.v a'] W fun e w' => e = .returned n.cut.encR ∧ Below W.heap.size W w') := ⟨fun W a' h hf => encode_of h hf.k ⟨hok⟩⟩
  have HER : Veil (∀ W a', NdAt W n.cut a' → Calls Try.prog 13 #[n.cut.v a'] W fun e w' => e = .returned n.cut.encR ∧ Below W.heap.size W w') := ⟨fun W a' h => refnencode_of h ⟨hok⟩⟩
  have HS : Veil (∀ W a', NdAt W n.cut a' → NdFit n.cut a' → Calls Try.prog 16 #[n.cut.v a'] W fun e w' => e = .returned (.int .i64 n.cut.size) ∧ Below W.heap.size W w') := ⟨fun W a' h hf => size_of h hf.k ⟨hok⟩⟩
  have HSR : Veil (∀ W a', NdAt W n.cut a' → Calls Try.prog 17 #[n.cut.v a'] W fun e w' => e = .returned (.int .i64 n.cut.size) ∧ Below W.heap.size W w') := ⟨fun W a' h => refsize_of h ⟨hok⟩⟩
  have HR : Veil (∀ W a', NdAt W n.cut a' → Calls Try.prog 14 #[n.cut.v a'] W fun e w' => e = .returned (.bool n.cut.right) ∧ Below W.heap.size W w') := ⟨fun W a' h => nright_of h ⟨hok⟩⟩
  have HRR : Veil (∀ W a', NdAt W n.cut a' → Calls Try.prog 15 #[n.cut.v a'] W fun e w' => e = .returned (.bool n.cut.right) ∧ Below W.heap.size W w') := ⟨fun W a' h => refnright_of h ⟨hok⟩⟩
  obtain ⟨K, S, E, hke⟩ := encR_form n.cut
  rw [hke] at HE HER
  have HB : Veil _ := ⟨NdBox.new h.s⟩
  clear h hok hkey hke hkt
  revert HC; revert HTx; revert HPl; revert HPR; revert HE; revert HER; revert HS; revert HSR; revert HR; revert HRR
  generalize n.cut = m
  generalize key.take 70 = key'
  generalize m.right = r
  generalize m.size = sz
  generalize m.place key' = pl
  intro HRR HR HSR HS HER HE HPR HPl HTx HC
  obtain ⟨W1, hW1⟩ : ∃ W1, w.alloc (.cells #[.slice a.pp n.ps.length a.cp, .slice a.pk n.ks.length a.ck, .slice a.pd n.ds.length a.cd] 26) = W1 := ⟨_, rfl⟩
  rw [hW1] at HB
  unfold Nd.v at *
  go_enter Try.func3, Try.ntmps3
  go_wp2_with (first
    | (go_at_call 13; refine (HER.out _ _ HL.out.s).mono ?_; rintro e w5 ⟨rfl, hb⟩; replace HL : Veil _ := ⟨HL.out.below hb⟩; clear hb b0 b1 b2; obtain ⟨b0, b1, b2⟩ := HL.out.cells)
    | (go_at_call 12; refine (HE.out _ _ HL.out.s HL.out.f).mono ?_; rintro e w5 ⟨rfl, hb⟩; replace HL : Veil _ := ⟨HL.out.below hb⟩; clear hb b0 b1 b2; obtain ⟨b0, b1, b2⟩ := HL.out.cells)
    | (go_at_call 11; refine (HC.out _ HB2.out.s).mono ?_; rintro e w3 ⟨v1, v2, v3, rfl, hown, hb3⟩; obtain ⟨a', W4, rfl, rfl, rfl, hW4, hL⟩ := law_cut HB2.out hb3 hown; have HL : Veil _ := ⟨hL⟩; have hB3 := (HB2.out.below hb3).b; clear hL hown hb3 a0 a1 a2; obtain ⟨⟨a0, a1, a2⟩, k0, k1, k2⟩ := box3 hB3; obtain ⟨b0, b1, b2⟩ := HL.out.cells; clear hB3)
    | (go_at_call 10; refine (shown_any _).mono ?_; rintro e w2 ⟨rfl, hb2⟩; have HB2 : Veil _ := ⟨HB.out.below hb2⟩; clear hb2; obtain ⟨a0, a1, a2⟩ := HB2.out.cells))
  clear a0 a1 a2 k0 k1 k2 b0 b1 b2 hW4 hW1 HB HB2 HC HE HER
  refine region_new [.is (.bool true), .is (.bool true), .is (.agg #[.slice a'.pp m.ps.length a'.cp, .slice a'.pk m.ks.length a'.ck, .slice a'.pd m.ds.length a'.cd]), .is (.bool r), .is (.agg #[.slice a'.pp m.ps.length a'.cp, .slice a'.pk m.ks.length a'.ck, .slice a'.pd m.ds.length a'.cd]), .is (.bool r), .is (.bool true), .is (.bool true), .is (.bool true), .is (.agg #[.slice a'.pp m.ps.length a'.cp, .slice a'.pk m.ks.length a'.ck, .slice a'.pd m.ds.length a'.cd]), .is (.int .i64 sz), .is (.agg #[.slice a'.pp m.ps.length a'.cp, .slice a'.pk m.ks.length a'.ck, .slice a'.pd m.ds.length a'.cd]), .is (.int .i64 sz), .is (.bool true), .is (.bool true), .is (.bool true), .is (.int .i64 K), .is (.int .i64 K), .is (.bool true), .is (.bool true), .is (.bool true), .is (.string S), .is (.string S), .is (.bool true), .is (.bool true), .is (.bool true), .is (.int .i64 E), .is (.int .i64 E), .is (.bool true), .is (.bool true), .is (.bool true), .is (.agg #[.slice a'.pp m.ps.length a'.cp, .slice a'.pk m.ks.length a'.ck, .slice a'.pd m.ds.length a'.cd]), .is (.string ⟨key.toArray⟩), .is (.string ⟨key'.toArray⟩), .is (.int .i64 pl), .is (.agg #[.slice a'.pp m.ps.length a'.cp, .slice a'.pk m.ks.length a'.ck, .slice a'.pd m.ds.length a'.cd]), .is (.string ⟨key.toArray⟩), .is (.string ⟨key'.toArray⟩), .is (.int .i64 pl), .is (.bool true), .is (.bool true)]
    [[], [(0, 27)], [(1, 28)], [(1, 28), (2, 29)], [(1, 28)], [(1, 28), (4, 31)], [(1, 28), (3, 30), (5, 32)], [(1, 28), (6, 33)], [(7, 34)], [(8, 35)], [(8, 35), (9, 36)], [(8, 35)], [(8, 35), (11, 38)], [(8, 35), (10, 37), (12, 39)], [(8, 35), (13, 40)], [(14, 41)], [(15, 42)], [(15, 42)], [(15, 42), (16, 43), (17, 44)], [(15, 42), (18, 45)], [(19, 46)], [(20, 47)], [(20, 47)], [(20, 47), (21, 48), (22, 49)], [(20, 47), (23, 50)], [(24, 51)], [(25, 52)], [(25, 52)], [(25, 52), (26, 53), (27, 54)], [(25, 52), (28, 55)], [(29, 56)], [(30, 57)], [(30, 57)], [(30, 57), (32, 59)], [(30, 57), (31, 58), (33, 60)], [(30, 57)], [(30, 57)], [(30, 57), (36, 63)], [(30, 57), (35, 62), (37, 64)], [(30, 57), (34, 61), (38, 65)], [(30, 57), (39, 66)]]
    [[], [0], [1], [1, 2], [1], [1, 3, 4], [1, 3, 5], [1, 6], [5, 7], [8], [8, 9], [8], [8, 10, 11], [8, 10, 12], [8, 13], [12, 14], [15], [15], [15, 16, 17], [15, 18], [15, 19], [20], [20], [20, 21, 22], [20, 23], [20, 24], [25], [25], [25, 26, 27], [25, 28], [25, 29], [30], [30], [30, 32], [30, 31, 33], [30], [30], [30, 34, 36], [30, 35, 37], [30, 34, 38], [30, 39]]
    [(0, 27), (1, 28), (2, 29), (3, 30), (4, 31), (5, 32), (6, 33), (7, 34), (8, 35), (9, 36), (10, 37), (11, 38), (12, 39), (13, 40), (14, 41), (15, 42), (16, 43), (17, 44), (18, 45), (19, 46), (20, 47), (21, 48), (22, 49), (23, 50), (24, 51), (25, 52), (26, 53), (27, 54), (28, 55), (29, 56), (30, 57), (31, 58), (32, 59), (33, 60), (34, 61), (35, 62), (36, 63), (37, 64), (38, 65), (39, 66), (40, 67)] rfl (by kernel_rfl) ⟨?_, ?_, ?_, ?_, ?_, ?_, ?_, ?_, ?_, ?_, ?_, ?_, ?_, ?_, ?_, ?_, ?_, ?_, ?_, ?_, ?_, ?_, ?_, ?_, ?_, ?_, ?_, ?_, ?_, ?_, ?_, ?_, ?_, ?_, ?_, ?_, ?_, ?_, ?_, ?_, ?_, trivial⟩ ?_
  · intro vals W hB _
    dsimp only [putsL, slotOf]
    go_wp2
    exact ⟨rfl, Below.refl _ _, rfl⟩
  · intro vals W hB ⟨h0, _⟩
    have h0 : vals 0 = _ := h0
    dsimp only [putsL, slotOf]
    rw [h0]
    go_wp2
    exact ⟨rfl, Below.refl _ _, rfl⟩
  · intro vals W hB ⟨h1, _⟩
    have h1 : vals 1 = _ := h1
    obtain ⟨b0, b1, b2⟩ := (HL.out.below hB).cells
    dsimp only [putsL, slotOf]
    rw [h1]
    go_wp2
    exact ⟨rfl, Below.refl _ _, rfl⟩
  · intro vals W hB ⟨h1, h2, _⟩
    have h1 : vals 1 = _ := h1
    have h2 : vals 2 = _ := h2
    dsimp only [putsL, slotOf]
    rw [h1, h2]
    go_wp2_with ((go_at_call 14; refine (HR.out _ _ (HL.out.below hB).s).mono ?_; rintro e w4 ⟨rfl, hb4⟩))
    exact ⟨rfl, hb4, rfl⟩
  · intro vals W hB ⟨h1, _⟩
    have h1 : vals 1 = _ := h1
    obtain ⟨b0, b1, b2⟩ := (HL.out.below hB).cells
    dsimp only [putsL, slotOf]
    rw [h1]
    go_wp2
    exact ⟨rfl, Below.refl _ _, rfl⟩
  · intro vals W hB ⟨h1, h3, h4, _⟩
    have h1 : vals 1 = _ := h1
    have h4 : vals 4 = _ := h4
    dsimp only [putsL, slotOf]
    rw [h1, h4]
    go_wp2_with ((go_at_call 15; refine (HRR.out _ _ (HL.out.below hB).s).mono ?_; rintro e w4 ⟨rfl, hb4⟩))
    exact ⟨rfl, hb4, rfl⟩
  · intro vals W hB ⟨h1, h3, h5, _⟩
    have h1 : vals 1 = _ := h1
    have h3 : vals 3 = _ := h3
    have h5 : vals 5 = _ := h5
    dsimp only [putsL, slotOf]
    rw [h1, h3, h5]
    go_wp2
    exact ⟨rfl, Below.refl _ _, rfl⟩
  · intro vals W hB ⟨h1, h6, _⟩
    have h1 : vals 1 = _ := h1
    have h6 : vals 6 = _ := h6
    dsimp only [putsL, slotOf]
    rw [h1, h6]
    go_wp2
    exact ⟨rfl, Below.refl _ _, rfl⟩
  · intro vals W hB ⟨h5, h7, _⟩
    have h7 : vals 7 = _ := h7
    dsimp only [putsL, slotOf]
    rw [h7]
    go_wp2
    exact ⟨rfl, Below.refl _ _, rfl⟩
  · intro vals W hB ⟨h8, _⟩
    have h8 : vals 8 = _ := h8
    obtain ⟨b0, b1, b2⟩ := (HL.out.below hB).cells
    dsimp only [putsL, slotOf]
    rw [h8]
    go_wp2
    exact ⟨rfl, Below.refl _ _, rfl⟩
  · intro vals W hB ⟨h8, h9, _⟩
    have h8 : vals 8 = _ := h8
    have h9 : vals 9 = _ := h9
    dsimp only [putsL, slotOf]
    rw [h8, h9]
    go_wp2_with ((go_at_call 16; refine (HS.out _ _ (HL.out.below hB).s HL.out.f).mono ?_; rintro e w4 ⟨rfl, hb4⟩))
    exact ⟨rfl, hb4, rfl⟩
  · intro vals W hB ⟨h8, _⟩
    have h8 : vals 8 = _ := h8
    obtain ⟨b0, b1, b2⟩ := (HL.out.below hB).cells
    dsimp only [putsL, slotOf]
    rw [h8]
    go_wp2
    exact ⟨rfl, Below.refl _ _, rfl⟩
  · intro vals W hB ⟨h8, h10, h11, _⟩
    have h8 : vals 8 = _ := h8
    have h11 : vals 11 = _ := h11
    dsimp only [putsL, slotOf]
    rw [h8, h11]
    go_wp2_with ((go_at_call 17; refine (HSR.out _ _ (HL.out.below hB).s).mono ?_; rintro e w4 ⟨rfl, hb4⟩))
    exact ⟨rfl, hb4, rfl⟩
  · intro vals W hB ⟨h8, h10, h12, _⟩
    have h8 : vals 8 = _ := h8
    have h10 : vals 10 = _ := h10
    have h12 : vals 12 = _ := h12
    dsimp only [putsL, slotOf]
    rw [h8, h10, h12]
    go_wp2
    exact ⟨rfl, Below.refl _ _, rfl⟩
  · intro vals W hB ⟨h8, h13, _⟩
    have h8 : vals 8 = _ := h8
    have h13 : vals 13 = _ := h13
    dsimp only [putsL, slotOf]
    rw [h8, h13]
    go_wp2
    exact ⟨rfl, Below.refl _ _, rfl⟩
  · intro vals W hB ⟨h12, h14, _⟩
    have h14 : vals 14 = _ := h14
    dsimp only [putsL, slotOf]
    rw [h14]
    go_wp2
    exact ⟨rfl, Below.refl _ _, rfl⟩
  · intro vals W hB ⟨h15, _⟩
    have h15 : vals 15 = _ := h15
    dsimp only [putsL, slotOf]
    rw [h15]
    go_wp2
    exact ⟨rfl, Below.refl _ _, rfl⟩
  · intro vals W hB ⟨h15, _⟩
    have h15 : vals 15 = _ := h15
    dsimp only [putsL, slotOf]
    rw [h15]
    go_wp2
    exact ⟨rfl, Below.refl _ _, rfl⟩
  · intro vals W hB ⟨h15, h16, h17, _⟩
    have h15 : vals 15 = _ := h15
    have h16 : vals 16 = _ := h16
    have h17 : vals 17 = _ := h17
    dsimp only [putsL, slotOf]
    rw [h15, h16, h17]
    go_wp2
    exact ⟨rfl, Below.refl _ _, rfl⟩
  · intro vals W hB ⟨h15, h18, _⟩
    have h15 : vals 15 = _ := h15
    have h18 : vals 18 = _ := h18
    dsimp only [putsL, slotOf]
    rw [h15, h18]
    go_wp2
    exact ⟨rfl, Below.refl _ _, rfl⟩
  · intro vals W hB ⟨h15, h19, _⟩
    have h19 : vals 19 = _ := h19
    dsimp only [putsL, slotOf]
    rw [h19]
    go_wp2
    exact ⟨rfl, Below.refl _ _, rfl⟩
  · intro vals W hB ⟨h20, _⟩
    have h20 : vals 20 = _ := h20
    dsimp only [putsL, slotOf]
    rw [h20]
    go_wp2
    exact ⟨rfl, Below.refl _ _, rfl⟩
  · intro vals W hB ⟨h20, _⟩
    have h20 : vals 20 = _ := h20
    dsimp only [putsL, slotOf]
    rw [h20]
    go_wp2
    exact ⟨rfl, Below.refl _ _, rfl⟩
  · intro vals W hB ⟨h20, h21, h22, _⟩
    have h20 : vals 20 = _ := h20
    have h21 : vals 21 = _ := h21
    have h22 : vals 22 = _ := h22
    dsimp only [putsL, slotOf]
    rw [h20, h21, h22]
    go_wp2
    exact ⟨rfl, Below.refl _ _, rfl⟩
  · intro vals W hB ⟨h20, h23, _⟩
    have h20 : vals 20 = _ := h20
    have h23 : vals 23 = _ := h23
    dsimp only [putsL, slotOf]
    rw [h20, h23]
    go_wp2
    exact ⟨rfl, Below.refl _ _, rfl⟩
  · intro vals W hB ⟨h20, h24, _⟩
    have h24 : vals 24 = _ := h24
    dsimp only [putsL, slotOf]
    rw [h24]
    go_wp2
    exact ⟨rfl, Below.refl _ _, rfl⟩
  · intro vals W hB ⟨h25, _⟩
    have h25 : vals 25 = _ := h25
    dsimp only [putsL, slotOf]
    rw [h25]
    go_wp2
    exact ⟨rfl, Below.refl _ _, rfl⟩
  · intro vals W hB ⟨h25, _⟩
    have h25 : vals 25 = _ := h25
    dsimp only [putsL, slotOf]
    rw [h25]
    go_wp2
    exact ⟨rfl, Below.refl _ _, rfl⟩
  · intro vals W hB ⟨h25, h26, h27, _⟩
    have h25 : vals 25 = _ := h25
    have h26 : vals 26 = _ := h26
    have h27 : vals 27 = _ := h27
    dsimp only [putsL, slotOf]
    rw [h25, h26, h27]
    go_wp2
    exact ⟨rfl, Below.refl _ _, rfl⟩
  · intro vals W hB ⟨h25, h28, _⟩
    have h25 : vals 25 = _ := h25
    have h28 : vals 28 = _ := h28
    dsimp only [putsL, slotOf]
    rw [h25, h28]
    go_wp2
    exact ⟨rfl, Below.refl _ _, rfl⟩
  · intro vals W hB ⟨h25, h29, _⟩
    have h29 : vals 29 = _ := h29
    dsimp only [putsL, slotOf]
    rw [h29]
    go_wp2
    exact ⟨rfl, Below.refl _ _, rfl⟩
  · intro vals W hB ⟨h30, _⟩
    have h30 : vals 30 = _ := h30
    obtain ⟨b0, b1, b2⟩ := (HL.out.below hB).cells
    dsimp only [putsL, slotOf]
    rw [h30]
    go_wp2
    exact ⟨rfl, Below.refl _ _, rfl⟩
  · intro vals W hB ⟨h30, _⟩
    have h30 : vals 30 = _ := h30
    dsimp only [putsL, slotOf]
    rw [h30]
    go_wp2
    exact ⟨rfl, Below.refl _ _, rfl⟩
  · intro vals W hB ⟨h30, h32, _⟩
    have h30 : vals 30 = _ := h30
    have h32 : vals 32 = _ := h32
    dsimp only [putsL, slotOf]
    rw [h30, h32]
    go_wp2_with ((go_at_call 19; refine (HTx.out _).mono ?_; rintro e w4 ⟨rfl, rfl⟩; have hb4 := Below.refl w4.heap.size w4))
    exact ⟨rfl, hb4, rfl⟩
  · intro vals W hB ⟨h30, h31, h33, _⟩
    have h30 : vals 30 = _ := h30
    have h31 : vals 31 = _ := h31
    have h33 : vals 33 = _ := h33
    dsimp only [putsL, slotOf]
    rw [h30, h31, h33]
    go_wp2_with ((go_at_call 18; refine (HPl.out _ _ (HL.out.below hB).s).mono ?_; rintro e w4 ⟨rfl, hb4⟩))
    exact ⟨rfl, hb4, rfl⟩
  · intro vals W hB ⟨h30, _⟩
    have h30 : vals 30 = _ := h30
    obtain ⟨b0, b1, b2⟩ := (HL.out.below hB).cells
    dsimp only [putsL, slotOf]
    rw [h30]
    go_wp2
    exact ⟨rfl, Below.refl _ _, rfl⟩
  · intro vals W hB ⟨h30, _⟩
    have h30 : vals 30 = _ := h30
    dsimp only [putsL, slotOf]
    rw [h30]
    go_wp2
    exact ⟨rfl, Below.refl _ _, rfl⟩
  · intro vals W hB ⟨h30, h34, h36, _⟩
    have h30 : vals 30 = _ := h30
    have h36 : vals 36 = _ := h36
    dsimp only [putsL, slotOf]
    rw [h30, h36]
    go_wp2_with ((go_at_call 19; refine (HTx.out _).mono ?_; rintro e w4 ⟨rfl, rfl⟩; have hb4 := Below.refl w4.heap.size w4))
    exact ⟨rfl, hb4, rfl⟩
  · intro vals W hB ⟨h30, h35, h37, _⟩
    have h30 : vals 30 = _ := h30
    have h35 : vals 35 = _ := h35
    have h37 : vals 37 = _ := h37
    dsimp only [putsL, slotOf]
    rw [h30, h35, h37]
    go_wp2_with ((go_at_call 20; refine (HPR.out _ _ (HL.out.below hB).s).mono ?_; rintro e w4 ⟨rfl, hb4⟩))
    exact ⟨rfl, hb4, rfl⟩
  · intro vals W hB ⟨h30, h34, h38, _⟩
    have h30 : vals 30 = _ := h30
    have h34 : vals 34 = _ := h34
    have h38 : vals 38 = _ := h38
    dsimp only [putsL, slotOf]
    rw [h30, h34, h38]
    go_wp2
    exact ⟨rfl, Below.refl _ _, rfl⟩
  · intro vals W hB ⟨h30, h39, _⟩
    have h30 : vals 30 = _ := h30
    have h39 : vals 39 = _ := h39
    dsimp only [putsL, slotOf]
    rw [h30, h39]
    go_wp2
    exact ⟨rfl, Below.refl _ _, rfl⟩
  rintro vals W hB ⟨q0, q1, q2, q3, q4, q5, q6, q7, q8, q9, q10, q11, q12, q13, q14, q15, q16, q17, q18, q19, q20, q21, q22, q23, q24, q25, q26, q27, q28, q29, q30, q31, q32, q33, q34, q35, q36, q37, q38, q39, q40, -⟩
  have h0 : vals 0 = _ := q0
  have h1 : vals 1 = _ := q1
  have h2 : vals 2 = _ := q2
  have h3 : vals 3 = _ := q3
  have h4 : vals 4 = _ := q4
  have h5 : vals 5 = _ := q5
  have h6 : vals 6 = _ := q6
  have h7 : vals 7 = _ := q7
  have h8 : vals 8 = _ := q8
  have h9 : vals 9 = _ := q9
  have h10 : vals 10 = _ := q10
  have h11 : vals 11 = _ := q11
  have h12 : vals 12 = _ := q12
  have h13 : vals 13 = _ := q13
  have h14 : vals 14 = _ := q14
  have h15 : vals 15 = _ := q15
  have h16 : vals 16 = _ := q16
  have h17 : vals 17 = _ := q17
  have h18 : vals 18 = _ := q18
  have h19 : vals 19 = _ := q19
  have h20 : vals 20 = _ := q20
  have h21 : vals 21 = _ := q21
  have h22 : vals 22 = _ := q22
  have h23 : vals 23 = _ := q23
  have h24 : vals 24 = _ := q24
  have h25 : vals 25 = _ := q25
  have h26 : vals 26 = _ := q26
  have h27 : vals 27 = _ := q27
  have h28 : vals 28 = _ := q28
  have h29 : vals 29 = _ := q29
  have h30 : vals 30 = _ := q30
  have h31 : vals 31 = _ := q31
  have h32 : vals 32 = _ := q32
  have h33 : vals 33 = _ := q33
  have h34 : vals 34 = _ := q34
  have h35 : vals 35 = _ := q35
  have h36 : vals 36 = _ := q36
  have h37 : vals 37 = _ := q37
  have h38 : vals 38 = _ := q38
  have h39 : vals 39 = _ := q39
  have h40 : vals 40 = _ := q40
  dsimp only [putsL]
  rw [h0, h1, h2, h3, h4, h5, h6, h7, h8, h9, h10, h11, h12, h13, h14, h15, h16, h17, h18, h19, h20, h21, h22, h23, h24, h25, h26, h27, h28, h29, h30, h31, h32, h33, h34, h35, h36, h37, h38, h39, h40]
  clear h0 q0 h1 q1 h2 q2 h3 q3 h4 q4 h5 q5 h6 q6 h7 q7 h8 q8 h9 q9 h10 q10 h11 q11 h12 q12 h13 q13 h14 q14 h15 q15 h16 q16 h17 q17 h18 q18 h19 q19 h20 q20 h21 q21 h22 q22 h23 q23 h24 q24 h25 q25 h26 q26 h27 q27 h28 q28 h29 q29 h30 q30 h31 q31 h32 q32 h33 q33 h34 q34 h35 q35 h36 q36 h37 q37 h38 q38 h39 q39 h40 q40
  simp only [List.length_cons, List.length_nil, Nat.reduceAdd, List.drop_succ_cons, List.drop_zero, List.setIfInBounds_toArray, List.set_cons_succ, List.set_cons_zero]
  go_wp2
  go_ret
  exact ⟨rfl, bn_then HL.out.x hB⟩
end Go.Proofs.Ytfpcknkinlegcaa
