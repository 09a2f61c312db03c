/- The laws on accounts: AccountsKeep, the way 2 of four. -/
import Derived.Test.YtbbfmddechpnjaaDoorKJD
namespace Go.Proofs.YtbbfmddechpnjaaDoor
open Go Go.RowKit Sm
attribute [local go_sem] Oper.semAt_some

set_option maxRecDepth 20000 in
set_option maxHeartbeats 16000000 in
theorem accountsKeep2 (a b : Ac) (ha : a.Ok) (hbk : b.Ok) (n : Int) (hn : I64 n) (c1 : (depositA a n).2 = 0) (c2 : (withdrawA a n).2 ≠ 0) (w : World) (hS : MSent w) : Calls Tryd.prog 6 #[a.v, b.v, .int .i64 n] w fun e w' => e = .returned (.bool true) ∧ Below w.heap.size w w' := by
  have PD : Veil _ := ⟨fun W (hb : Below w.heap.size w W) => acdeposit_any a ha n hn W (hS.below hb)⟩
  have PWd : Veil _ := ⟨fun W (hb : Below w.heap.size w W) => acwithdraw_any a ha n hn W (hS.below hb)⟩
  have PP : Veil _ := ⟨fun W (hb : Below w.heap.size w W) => acpay_any a b ha hbk n hn W (hS.below hb)⟩
  have HSm : Veil (∀ W, Below w.heap.size w W → MSent W) := ⟨fun W hb => hS.below hb⟩
  have F1 : (depositA a n).2 = 0 ∧ TotAt (depositA a n).1.w (depositA a n).1.b (a.w + a.b) ∧ TotAt a.w a.b (a.w + a.b) ∧ RgtAt w (depositA a n).1.w (depositA a n).1.b := by
    have h := c1
    obtain ⟨h1, -, -, h4, h5⟩ := depositA_ok a n h
    refine ⟨h, ?_, total_right h1, ?_⟩
    · rw [h4]; have := total_right h5; rwa [show a.w - n + (a.b + n) = a.w + a.b by omega] at this
    · rw [h4]; exact rgt_at hS h5
  have F2 := c2
  have F3 : (payA a b n).2.2 ≠ 0 ∨ (payA a b n).2.2 = 0 ∧ TotAt (payA a b n).1.w (payA a b n).1.b (a.w - n + a.b) ∧ TotAt a.w a.b (a.w + a.b) ∧ TotAt (payA a b n).2.1.w (payA a b n).2.1.b (b.w + n + b.b) ∧ TotAt b.w b.b (b.w + b.b) ∧ IntKind.i64.wrap (a.w - n + a.b + n) = a.w + a.b ∧ IntKind.i64.wrap (b.w + b.b + n) = b.w + n + b.b ∧ RgtAt w (payA a b n).1.w (payA a b n).1.b ∧ RgtAt w (payA a b n).2.1.w (payA a b n).2.1.b ∧ a.b = (payA a b n).1.b ∧ b.b = (payA a b n).2.1.b := by
    by_cases h : (payA a b n).2.2 = 0
    · obtain ⟨h1, h2⟩ := payA_ok a b n h
      obtain ⟨k1, -, -, k4, k5⟩ := spendA_ok a n h1
      obtain ⟨l1, -, l3, l4⟩ := earnA_ok b n h2.1
      rw [h2.2]
      have ra := (rightA_iff _).1 k1
      have rb := (rightA_iff _).1 l4
      have wa := wrap_64 (i64_am ra.2.2)
      have wb := wrap_64 (i64_am rb.2.2)
      dsimp only at wb
      refine .inr ⟨rfl, total_right k5, total_right k1, total_right l4, total_right l1, ?_, ?_, rgt_at hS k5, rgt_at hS l4, rfl, rfl⟩
      · rw [show a.w - n + a.b + n = a.w + a.b by omega]; exact wa
      · rw [show b.w + b.b + n = b.w + n + b.b by omega]; exact wb
    · exact .inl h
  clear c1 c2
  generalize depositA a n = x1 at PD F1
  generalize withdrawA a n = x2 at PWd F2
  generalize payA a b n = x5 at PP F3
  obtain ⟨⟨dw, db⟩, ce⟩ := x1
  obtain ⟨⟨ww, wb⟩, cf⟩ := x2
  obtain ⟨⟨pw, pb⟩, ⟨qw, qb⟩, cg⟩ := x5
  obtain ⟨aw, ab⟩ := a
  obtain ⟨bw, bb⟩ := b
  clear ha hbk hn hS
  unfold Ac.v at *
  dsimp only at *
  obtain ⟨TA, hTA⟩ : ∃ T, aw + ab = T := ⟨_, rfl⟩
  obtain ⟨TP, hTP⟩ : ∃ T, aw - n + ab = T := ⟨_, rfl⟩
  obtain ⟨TQ, hTQ⟩ : ∃ T, bw + n + bb = T := ⟨_, rfl⟩
  obtain ⟨TB, hTB⟩ : ∃ T, bw + bb = T := ⟨_, rfl⟩
  rw [hTA] at F1
  rw [hTA, hTP, hTQ, hTB] at F3
  clear hTA hTP hTQ hTB
  have HF3 : Veil _ := ⟨F3⟩
  clear F3
  have HA : Veil (AcBox ((w.alloc (.cells #[.int .i64 aw, .int .i64 ab] 23)).alloc (.cells #[.int .i64 bw, .int .i64 bb] 23)) w.heap.size aw ab) := ⟨(AcBox.new _ _ _ _).below (below_al (Below.refl _ _) _)⟩
  have HB : Veil (AcBox ((w.alloc (.cells #[.int .i64 aw, .int .i64 ab] 23)).alloc (.cells #[.int .i64 bw, .int .i64 bb] 23)) (w.heap.size + 1) bw bb) := ⟨by
    have := AcBox.new (w.alloc (.cells #[.int .i64 aw, .int .i64 ab] 23)) bw bb 23
    rwa [World.size_alloc] at this⟩
  have hT : Below w.heap.size w ((w.alloc (.cells #[.int .i64 aw, .int .i64 ab] 23)).alloc (.cells #[.int .i64 bw, .int .i64 bb] 23)) := below_al (below_al (Below.refl _ _) _) _
  obtain ⟨rfl, t1, t2, t3⟩ := F1
  focus
    have PTd : Veil _ := ⟨t1⟩
    have PTa1 : Veil _ := ⟨t2⟩
    have PRd : Veil _ := ⟨t3⟩
    clear t1 t2 t3
    have ne2 : (cf == 0) = false := by simpa using F2
    clear F2
    go_enter Tryd.func6, Tryd.ntmps6
    go_wp2_with (first
    | (go_at_call 18; (with_reducible refine (PP.out _ (below_al (hT) _)).mono ?_); rintro e w4x ⟨rfl, hb4⟩; have hT := bc_then (below_al (hT) _) hb4; have HA : Veil _ := ⟨(HA.out.below (below_al (Below.refl _ _) _)).below hb4⟩; have HB : Veil _ := ⟨(HB.out.below (below_al (Below.refl _ _) _)).below hb4⟩; have HD : Veil _ := ⟨(HD.out.below (below_al (Below.refl _ _) _)).below hb4⟩; have HWd : Veil _ := ⟨(AcBox.new _ _ _ _).below hb4⟩; obtain ⟨HA0, HA1⟩ := HA.out; have HAz := World.block_lt_of_cell? _ _ HA0; dsimp only at HAz; obtain ⟨HB0, HB1⟩ := HB.out; have HBz := World.block_lt_of_cell? _ _ HB0; dsimp only at HBz; obtain ⟨HD0, HD1⟩ := HD.out; have HDz := World.block_lt_of_cell? _ _ HD0; dsimp only at HDz; obtain ⟨HWd0, HWd1⟩ := HWd.out; have HWdz := World.block_lt_of_cell? _ _ HWd0; dsimp only at HWdz)
    | (go_at_call 12; (with_reducible refine (PWd.out _ (below_al (hT) _)).mono ?_); rintro e w3x ⟨rfl, hb3⟩; have hT := bc_then (below_al (hT) _) hb3; have HA : Veil _ := ⟨(HA.out.below (below_al (Below.refl _ _) _)).below hb3⟩; have HB : Veil _ := ⟨(HB.out.below (below_al (Below.refl _ _) _)).below hb3⟩; have HD : Veil _ := ⟨(AcBox.new _ _ _ _).below hb3⟩; obtain ⟨HA0, HA1⟩ := HA.out; have HAz := World.block_lt_of_cell? _ _ HA0; dsimp only at HAz; obtain ⟨HB0, HB1⟩ := HB.out; have HBz := World.block_lt_of_cell? _ _ HB0; dsimp only at HBz; obtain ⟨HD0, HD1⟩ := HD.out; have HDz := World.block_lt_of_cell? _ _ HD0; dsimp only at HDz)
    | (go_at_call 10; (with_reducible refine (PD.out _ (hT)).mono ?_); rintro e w2x ⟨rfl, hb2⟩; have hT := bc_then (hT) hb2; have HA : Veil _ := ⟨HA.out.below hb2⟩; have HB : Veil _ := ⟨HB.out.below hb2⟩; obtain ⟨HA0, HA1⟩ := HA.out; have HAz := World.block_lt_of_cell? _ _ HA0; dsimp only at HAz; obtain ⟨HB0, HB1⟩ := HB.out; have HBz := World.block_lt_of_cell? _ _ HB0; dsimp only at HBz)
    | (go_at_call 9; (with_reducible refine (shown13_any _ (HSm.out _ (hT))).mono ?_); rintro e w1x ⟨rfl, hb1⟩; have hT := bc_then (hT) hb1; have HA : Veil _ := ⟨HA.out.below hb1⟩; have HB : Veil _ := ⟨HB.out.below hb1⟩; obtain ⟨HA0, HA1⟩ := HA.out; have HAz := World.block_lt_of_cell? _ _ HA0; dsimp only at HAz; obtain ⟨HB0, HB1⟩ := HB.out; have HBz := World.block_lt_of_cell? _ _ HB0; dsimp only at HBz))
    obtain ⟨WF, hWF⟩ : ∃ WF, (w4x.alloc (.cells #[.int .i64 pw, .int .i64 pb] 23)).alloc (.cells #[.int .i64 qw, .int .i64 qb] 23) = WF := ⟨_, rfl⟩
    have hup : Below w4x.heap.size w4x WF := by rw [← hWF]; exact below_al (below_al (Below.refl _ _) _) _
    have HAf : Veil _ := ⟨HA.out.below hup⟩
    have HBf : Veil _ := ⟨HB.out.below hup⟩
    have HDf : Veil _ := ⟨HD.out.below hup⟩
    have HWdf : Veil _ := ⟨HWd.out.below hup⟩
    have HPf : Veil (AcBox WF w4x.heap.size pw pb) := ⟨by
      rw [← hWF]
      exact (AcBox.new _ _ _ _).below (below_al (Below.refl _ _) _)⟩
    have HQf : Veil (AcBox WF (w4x.heap.size + 1) qw qb) := ⟨by
      rw [← hWF]
      rw [← World.size_alloc]
      exact AcBox.new _ _ _ _⟩
    have HTf : Veil (Below w.heap.size w WF) := ⟨by rw [← hWF]; exact below_al (below_al (hT) _) _⟩
    rw [hWF]
    clear HA0 HA1 HAz HB0 HB1 HBz HD0 HD1 HDz HWd0 HWd1 HWdz
    clear HA HB HD HWd hT hup hWF hb1 hb2 hb3 hb4
    refine region_new [.is (.int .i64 0), .is (.bool true), .is (.bool true), .is (.agg #[.int .i64 dw, .int .i64 db]), .is (.int .i64 TA), .is (.agg #[.int .i64 aw, .int .i64 ab]), .is (.int .i64 TA), .is (.bool false), .is (.bool false), .is (.agg #[.int .i64 dw, .int .i64 db]), .is (.bool true), .is (.bool false), .is (.bool false), .is (.bool false), .is (.bool false), .is (.int .i64 cf), .is (.bool false), .is (.bool false), .is undef, .is undef, .is undef, .is undef, .is undef, .is undef, .is undef, .is undef, .is undef, .is undef, .is (.bool false), .is (.bool false)]
      [[], [(0, 36)], [(1, 37)], [(2, 38)], [(2, 38), (3, 39)], [(2, 38)], [(2, 38), (5, 41)], [(2, 38), (4, 40), (6, 42)], [(2, 38), (7, 43)], [(8, 44)], [(8, 44), (9, 45)], [(8, 44), (10, 46)], [(2, 38), (8, 44), (11, 47)], [(2, 38), (12, 48)], [(13, 49)], [(14, 50)], [(14, 50), (15, 51)], [(14, 50), (16, 52)], [(17, 53)], [(17, 53), (18, 54)], [(17, 53)], [(17, 53), (20, 56)], [(17, 53), (19, 55), (21, 57)], [(17, 53), (22, 58)], [(23, 59)], [(23, 59), (24, 60)], [(23, 59), (25, 61)], [(17, 53), (23, 59), (26, 62)], [(14, 50), (17, 53), (27, 63)], [(14, 50), (28, 64)]]
      [[], [0], [1], [2], [2, 3], [2], [2, 4, 5], [2, 4, 6], [2, 6, 7], [8], [8, 9], [8, 10], [2, 8, 11], [2, 12], [10, 13], [14], [14, 15], [14, 16], [17], [17, 18], [17], [17, 19, 20], [17, 19, 21], [17, 21, 22], [23], [23, 24], [23, 25], [17, 23, 26], [14, 17, 27], [14, 28]]
      [(0, 36), (1, 37), (2, 38), (3, 39), (4, 40), (5, 41), (6, 42), (7, 43), (8, 44), (9, 45), (10, 46), (11, 47), (12, 48), (13, 49), (14, 50), (15, 51), (16, 52), (17, 53), (18, 54), (19, 55), (20, 56), (21, 57), (22, 58), (23, 59), (24, 60), (25, 61), (26, 62), (27, 63), (28, 64), (29, 65)] rfl (by kernel_rfl) ⟨?_, ?_, ?_, ?_, ?_, ?_, ?_, ?_, ?_, ?_, ?_, ?_, ?_, ?_, ?_, ?_, ?_, ?_, ?_, ?_, ?_, ?_, ?_, ?_, ?_, ?_, ?_, ?_, ?_, ?_, trivial⟩ ?_
    · intro vals W hB _
      dsimp only [putsL, slotOf]
      go_wp2
      exact ⟨rfl, Below.refl _ _, rfl⟩
    · intro vals W hB ⟨h0, _⟩
      have h0 : vals 0 = _ := h0
      dsimp only [putsL, slotOf]
      rw [h0]
      go_wp2
      exact ⟨rfl, Below.refl _ _, rfl⟩
    · intro vals W hB ⟨h1, _⟩
      have h1 : vals 1 = _ := h1
      dsimp only [putsL, slotOf]
      rw [h1]
      go_wp2
      exact ⟨rfl, Below.refl _ _, rfl⟩
    · intro vals W hB ⟨h2, _⟩
      have h2 : vals 2 = _ := h2
      obtain ⟨x0, x1⟩ := HDf.out.below hB
      dsimp only [putsL, slotOf]
      rw [h2]
      go_wp2
      exact ⟨rfl, Below.refl _ _, rfl⟩
    · intro vals W hB ⟨h2, h3, _⟩
      have h2 : vals 2 = _ := h2
      have h3 : vals 3 = _ := h3
      dsimp only [putsL, slotOf]
      rw [h2, h3]
      go_wp2_with ((go_at_call 26; refine (PTd.out _).mono ?_; rintro e w4 ⟨rfl, hb4⟩))
      exact ⟨rfl, hb4, rfl⟩
    · intro vals W hB ⟨h2, _⟩
      have h2 : vals 2 = _ := h2
      obtain ⟨x0, x1⟩ := HAf.out.below hB
      dsimp only [putsL, slotOf]
      rw [h2]
      go_wp2
      exact ⟨rfl, Below.refl _ _, rfl⟩
    · intro vals W hB ⟨h2, h4, h5, _⟩
      have h2 : vals 2 = _ := h2
      have h5 : vals 5 = _ := h5
      dsimp only [putsL, slotOf]
      rw [h2, h5]
      go_wp2_with ((go_at_call 26; refine (PTa1.out _).mono ?_; rintro e w4 ⟨rfl, hb4⟩))
      exact ⟨rfl, hb4, rfl⟩
    · intro vals W hB ⟨h2, h4, h6, _⟩
      have h2 : vals 2 = _ := h2
      have h4 : vals 4 = _ := h4
      have h6 : vals 6 = _ := h6
      dsimp only [putsL, slotOf]
      rw [h2, h4, h6]
      go_wp2
      exact ⟨rfl, Below.refl _ _, rfl⟩
    · intro vals W hB ⟨h2, h6, h7, _⟩
      have h2 : vals 2 = _ := h2
      have h7 : vals 7 = _ := h7
      dsimp only [putsL, slotOf]
      rw [h2, h7]
      go_wp2
      exact ⟨rfl, Below.refl _ _, rfl⟩
    · intro vals W hB ⟨h8, _⟩
      have h8 : vals 8 = _ := h8
      obtain ⟨x0, x1⟩ := HDf.out.below hB
      dsimp only [putsL, slotOf]
      rw [h8]
      go_wp2
      exact ⟨rfl, Below.refl _ _, rfl⟩
    · intro vals W hB ⟨h8, h9, _⟩
      have h8 : vals 8 = _ := h8
      have h9 : vals 9 = _ := h9
      dsimp only [putsL, slotOf]
      rw [h8, h9]
      go_wp2_with ((go_at_call 20; refine (PRd.out _ (bc_then HTf.out hB)).mono ?_; rintro e w4 ⟨rfl, hb4⟩))
      exact ⟨rfl, hb4, rfl⟩
    · intro vals W hB ⟨h8, h10, _⟩
      have h8 : vals 8 = _ := h8
      have h10 : vals 10 = _ := h10
      dsimp only [putsL, slotOf]
      rw [h8, h10]
      go_wp2
      exact ⟨rfl, Below.refl _ _, rfl⟩
    · intro vals W hB ⟨h2, h8, h11, _⟩
      have h2 : vals 2 = _ := h2
      have h8 : vals 8 = _ := h8
      have h11 : vals 11 = _ := h11
      dsimp only [putsL, slotOf]
      rw [h2, h8, h11]
      go_wp2
      exact ⟨rfl, Below.refl _ _, rfl⟩
    · intro vals W hB ⟨h2, h12, _⟩
      have h2 : vals 2 = _ := h2
      have h12 : vals 12 = _ := h12
      dsimp only [putsL, slotOf]
      rw [h2, h12]
      go_wp2
      exact ⟨rfl, Below.refl _ _, rfl⟩
    · intro vals W hB ⟨h10, h13, _⟩
      have h13 : vals 13 = _ := h13
      dsimp only [putsL, slotOf]
      rw [h13]
      go_wp2
      exact ⟨rfl, Below.refl _ _, rfl⟩
    · intro vals W hB ⟨h14, _⟩
      have h14 : vals 14 = _ := h14
      dsimp only [putsL, slotOf]
      rw [h14]
      go_wp2
      exact ⟨rfl, Below.refl _ _, rfl⟩
    · intro vals W hB ⟨h14, h15, _⟩
      have h14 : vals 14 = _ := h14
      have h15 : vals 15 = _ := h15
      dsimp only [putsL, slotOf]
      rw [h14, h15]
      go_wp2
      exact ⟨rfl, Below.refl _ _, rfl⟩
    · intro vals W hB ⟨h14, h16, _⟩
      have h14 : vals 14 = _ := h14
      have h16 : vals 16 = _ := h16
      dsimp only [putsL, slotOf]
      rw [h14, h16]
      go_wp2
      exact ⟨rfl, Below.refl _ _, rfl⟩
    · intro vals W hB ⟨h17, _⟩
      have h17 : vals 17 = _ := h17
      dsimp only [putsL, slotOf]
      rw [h17]
      refine wpList_skip rfl ?_
      exact wpList_nil (one_normal ⟨rfl, Below.refl _ _, rfl⟩)
    · intro vals W hB ⟨h17, h18, _⟩
      have h17 : vals 17 = _ := h17
      have h18 : vals 18 = _ := h18
      dsimp only [putsL, slotOf]
      rw [h17, h18]
      refine wpList_skip rfl ?_
      exact wpList_nil (one_normal ⟨rfl, Below.refl _ _, rfl⟩)
    · intro vals W hB ⟨h17, _⟩
      have h17 : vals 17 = _ := h17
      dsimp only [putsL, slotOf]
      rw [h17]
      refine wpList_skip rfl ?_
      exact wpList_nil (one_normal ⟨rfl, Below.refl _ _, rfl⟩)
    · intro vals W hB ⟨h17, h19, h20, _⟩
      have h17 : vals 17 = _ := h17
      have h20 : vals 20 = _ := h20
      dsimp only [putsL, slotOf]
      rw [h17, h20]
      refine wpList_skip rfl ?_
      exact wpList_nil (one_normal ⟨rfl, Below.refl _ _, rfl⟩)
    · intro vals W hB ⟨h17, h19, h21, _⟩
      have h17 : vals 17 = _ := h17
      have h19 : vals 19 = _ := h19
      have h21 : vals 21 = _ := h21
      dsimp only [putsL, slotOf]
      rw [h17, h19, h21]
      refine wpList_skip rfl ?_
      exact wpList_nil (one_normal ⟨rfl, Below.refl _ _, rfl⟩)
    · intro vals W hB ⟨h17, h21, h22, _⟩
      have h17 : vals 17 = _ := h17
      have h22 : vals 22 = _ := h22
      dsimp only [putsL, slotOf]
      rw [h17, h22]
      refine wpList_skip rfl ?_
      exact wpList_nil (one_normal ⟨rfl, Below.refl _ _, rfl⟩)
    · intro vals W hB ⟨h23, _⟩
      have h23 : vals 23 = _ := h23
      dsimp only [putsL, slotOf]
      rw [h23]
      refine wpList_skip rfl ?_
      exact wpList_nil (one_normal ⟨rfl, Below.refl _ _, rfl⟩)
    · intro vals W hB ⟨h23, h24, _⟩
      have h23 : vals 23 = _ := h23
      have h24 : vals 24 = _ := h24
      dsimp only [putsL, slotOf]
      rw [h23, h24]
      refine wpList_skip rfl ?_
      exact wpList_nil (one_normal ⟨rfl, Below.refl _ _, rfl⟩)
    · intro vals W hB ⟨h23, h25, _⟩
      have h23 : vals 23 = _ := h23
      have h25 : vals 25 = _ := h25
      dsimp only [putsL, slotOf]
      rw [h23, h25]
      refine wpList_skip rfl ?_
      exact wpList_nil (one_normal ⟨rfl, Below.refl _ _, rfl⟩)
    · intro vals W hB ⟨h17, h23, h26, _⟩
      have h17 : vals 17 = _ := h17
      have h23 : vals 23 = _ := h23
      have h26 : vals 26 = _ := h26
      dsimp only [putsL, slotOf]
      rw [h17, h23, h26]
      refine wpList_skip rfl ?_
      exact wpList_nil (one_normal ⟨rfl, Below.refl _ _, rfl⟩)
    · intro vals W hB ⟨h14, h17, h27, _⟩
      have h14 : vals 14 = _ := h14
      have h17 : vals 17 = _ := h17
      have h27 : vals 27 = _ := h27
      dsimp only [putsL, slotOf]
      rw [h14, h17, h27]
      go_wp2
      exact ⟨rfl, Below.refl _ _, rfl⟩
    · intro vals W hB ⟨h14, h28, _⟩
      have h14 : vals 14 = _ := h14
      have h28 : vals 28 = _ := h28
      dsimp only [putsL, slotOf]
      rw [h14, h28]
      go_wp2
      exact ⟨rfl, Below.refl _ _, rfl⟩
    rintro vals W hB ⟨q0, q1, q2, q3, q4, q5, q6, q7, q8, q9, q10, q11, q12, q13, q14, q15, q16, q17, q18, q19, q20, q21, q22, q23, q24, q25, q26, q27, q28, q29, -⟩
    have h0 : vals 0 = _ := q0
    have h1 : vals 1 = _ := q1
    have h2 : vals 2 = _ := q2
    have h3 : vals 3 = _ := q3
    have h4 : vals 4 = _ := q4
    have h5 : vals 5 = _ := q5
    have h6 : vals 6 = _ := q6
    have h7 : vals 7 = _ := q7
    have h8 : vals 8 = _ := q8
    have h9 : vals 9 = _ := q9
    have h10 : vals 10 = _ := q10
    have h11 : vals 11 = _ := q11
    have h12 : vals 12 = _ := q12
    have h13 : vals 13 = _ := q13
    have h14 : vals 14 = _ := q14
    have h15 : vals 15 = _ := q15
    have h16 : vals 16 = _ := q16
    have h17 : vals 17 = _ := q17
    have h18 : vals 18 = _ := q18
    have h19 : vals 19 = _ := q19
    have h20 : vals 20 = _ := q20
    have h21 : vals 21 = _ := q21
    have h22 : vals 22 = _ := q22
    have h23 : vals 23 = _ := q23
    have h24 : vals 24 = _ := q24
    have h25 : vals 25 = _ := q25
    have h26 : vals 26 = _ := q26
    have h27 : vals 27 = _ := q27
    have h28 : vals 28 = _ := q28
    have h29 : vals 29 = _ := q29
    dsimp only [putsL]
    rw [h0, h1, h2, h3, h4, h5, h6, h7, h8, h9, h10, h11, h12, h13, h14, h15, h16, h17, h18, h19, h20, h21, h22, h23, h24, h25, h26, h27, h28, h29]
    clear h0 q0 h1 q1 h2 q2 h3 q3 h4 q4 h5 q5 h6 q6 h7 q7 h8 q8 h9 q9 h10 q10 h11 q11 h12 q12 h13 q13 h14 q14 h15 q15 h16 q16 h17 q17 h18 q18 h19 q19 h20 q20 h21 q21 h22 q22 h23 q23 h24 q24 h25 q25 h26 q26 h27 q27 h28 q28 h29 q29
    simp only [List.length_cons, List.length_nil, Nat.reduceAdd, List.drop_succ_cons, List.drop_zero, List.setIfInBounds_toArray, List.set_cons_succ, List.set_cons_zero]
    have HA2 : Veil _ := ⟨HAf.out.below hB⟩
    have HB2 : Veil _ := ⟨HBf.out.below hB⟩
    have HD2 : Veil _ := ⟨HDf.out.below hB⟩
    have HWd2 : Veil _ := ⟨HWdf.out.below hB⟩
    have HP2 : Veil _ := ⟨HPf.out.below hB⟩
    have HQ2 : Veil _ := ⟨HQf.out.below hB⟩
    have HT2 : Veil _ := ⟨bc_then HTf.out hB⟩
    clear hB HAf HBf HDf HWdf HPf HQf HTf
    go_wp2
  all_goals
    rcases HF3.out with F3 | ⟨rfl, t1, t2, t3, t4, hw1, hw2, t5, t6, rfl, rfl⟩
    · have ne3 : (cg != 0) = true := by simpa using F3
      clear F3 HF3
      refine region_new [.is (.bool true), .is (.bool true), .is (.int .i64 cg), .is (.bool true), .is (.bool true), .is undef, .is undef, .is undef, .is undef, .is undef, .is undef, .is undef, .is undef, .is undef, .is undef, .is undef, .is undef, .is undef, .is undef, .is undef, .is undef, .is undef, .is undef, .is undef, .is undef, .is undef, .is undef, .is undef, .is undef, .is undef, .is undef, .is undef, .is undef, .is undef, .is undef, .is undef, .is undef, .is undef, .is undef, .is undef, .is undef, .is undef, .is undef, .is (.bool true), .is (.bool true), .is (.bool true)]
        [[], [(0, 66)], [(1, 67)], [(1, 67), (2, 68)], [(1, 67), (3, 69)], [(4, 70)], [(4, 70), (5, 71)], [(4, 70)], [(4, 70), (6, 72), (7, 73)], [(4, 70)], [(4, 70), (9, 75)], [(4, 70), (8, 74), (10, 76)], [(4, 70), (11, 77)], [(12, 78)], [(12, 78), (13, 79)], [(12, 78)], [(12, 78), (15, 81)], [(12, 78)], [(12, 78), (16, 82), (17, 83)], [(12, 78), (14, 80), (18, 84)], [(4, 70), (12, 78), (19, 85)], [(4, 70), (20, 86)], [(21, 87)], [(21, 87), (22, 88)], [(4, 70), (21, 87), (23, 89)], [(4, 70), (24, 90)], [(25, 91)], [(25, 91), (26, 92)], [(4, 70), (25, 91), (27, 93)], [(4, 70), (28, 94)], [(29, 95)], [(29, 95), (30, 96)], [(29, 95)], [(29, 95), (32, 98)], [(29, 95), (31, 97), (33, 99)], [(4, 70), (29, 95), (34, 100)], [(4, 70), (35, 101)], [(36, 102)], [(36, 102), (37, 103)], [(36, 102)], [(36, 102), (39, 105)], [(36, 102), (38, 104), (40, 106)], [(4, 70), (36, 102), (41, 107)], [(1, 67), (4, 70), (42, 108)], [(1, 67), (43, 109)], [(44, 110)]]
        [[], [0], [1], [1, 2], [1, 3], [4], [4, 5], [4], [4, 6, 7], [4], [4, 6, 9], [4, 8, 10], [4, 10, 11], [12], [12, 13], [12], [12, 14, 15], [12], [12, 16, 17], [12, 14, 18], [4, 12, 19], [4, 16, 20], [21], [21, 22], [4, 21, 23], [4, 23, 24], [25], [25, 26], [4, 25, 27], [4, 27, 28], [29], [29, 30], [29], [29, 32], [29, 31, 33], [4, 29, 34], [4, 29, 35], [36], [36, 37], [36], [36, 39], [36, 38, 40], [4, 36, 41], [1, 4, 42], [1, 43], [0, 1, 2, 3, 4, 5, 6, 7, 8, 9, 10, 11, 12, 13, 14, 15, 16, 17, 18, 19, 20, 21, 22, 23, 24, 25, 26, 27, 28, 29, 30, 31, 32, 33, 34, 35, 36, 37, 38, 39, 40, 41, 42, 43, 44]]
        [(0, 66), (1, 67), (2, 68), (3, 69), (4, 70), (5, 71), (6, 72), (7, 73), (8, 74), (9, 75), (10, 76), (11, 77), (12, 78), (13, 79), (14, 80), (15, 81), (16, 82), (17, 83), (18, 84), (19, 85), (20, 86), (21, 87), (22, 88), (23, 89), (24, 90), (25, 91), (26, 92), (27, 93), (28, 94), (29, 95), (30, 96), (31, 97), (32, 98), (33, 99), (34, 100), (35, 101), (36, 102), (37, 103), (38, 104), (39, 105), (40, 106), (41, 107), (42, 108), (43, 109), (44, 110), (45, 6)] rfl (by kernel_rfl) ⟨?_, ?_, ?_, ?_, ?_, ?_, ?_, ?_, ?_, ?_, ?_, ?_, ?_, ?_, ?_, ?_, ?_, ?_, ?_, ?_, ?_, ?_, ?_, ?_, ?_, ?_, ?_, ?_, ?_, ?_, ?_, ?_, ?_, ?_, ?_, ?_, ?_, ?_, ?_, ?_, ?_, ?_, ?_, ?_, ?_, ?_, trivial⟩ ?_
      · intro vals W hB _
        dsimp only [putsL, slotOf]
        go_wp2
        exact ⟨rfl, Below.refl _ _, rfl⟩
      · intro vals W hB ⟨h0, _⟩
        have h0 : vals 0 = _ := h0
        dsimp only [putsL, slotOf]
        rw [h0]
        go_wp2
        exact ⟨rfl, Below.refl _ _, rfl⟩
      · intro vals W hB ⟨h1, _⟩
        have h1 : vals 1 = _ := h1
        dsimp only [putsL, slotOf]
        rw [h1]
        go_wp2
        exact ⟨rfl, Below.refl _ _, rfl⟩
      · intro vals W hB ⟨h1, h2, _⟩
        have h1 : vals 1 = _ := h1
        have h2 : vals 2 = _ := h2
        dsimp only [putsL, slotOf]
        rw [h1, h2]
        go_wp2
        exact ⟨rfl, Below.refl _ _, rfl⟩
      · intro vals W hB ⟨h1, h3, _⟩
        have h1 : vals 1 = _ := h1
        have h3 : vals 3 = _ := h3
        dsimp only [putsL, slotOf]
        rw [h1, h3]
        go_wp2
        exact ⟨rfl, Below.refl _ _, rfl⟩
      · intro vals W hB ⟨h4, _⟩
        have h4 : vals 4 = _ := h4
        dsimp only [putsL, slotOf]
        rw [h4]
        refine wpList_skip rfl ?_
        exact wpList_nil (one_normal ⟨rfl, Below.refl _ _, rfl⟩)
      · intro vals W hB ⟨h4, h5, _⟩
        have h4 : vals 4 = _ := h4
        have h5 : vals 5 = _ := h5
        dsimp only [putsL, slotOf]
        rw [h4, h5]
        refine wpList_skip rfl ?_
        exact wpList_nil (one_normal ⟨rfl, Below.refl _ _, rfl⟩)
      · intro vals W hB ⟨h4, _⟩
        have h4 : vals 4 = _ := h4
        dsimp only [putsL, slotOf]
        rw [h4]
        refine wpList_skip rfl ?_
        exact wpList_nil (one_normal ⟨rfl, Below.refl _ _, rfl⟩)
      · intro vals W hB ⟨h4, h6, h7, _⟩
        have h4 : vals 4 = _ := h4
        have h6 : vals 6 = _ := h6
        have h7 : vals 7 = _ := h7
        dsimp only [putsL, slotOf]
        rw [h4, h6, h7]
        refine wpList_skip rfl ?_
        exact wpList_nil (one_normal ⟨rfl, Below.refl _ _, rfl⟩)
      · intro vals W hB ⟨h4, _⟩
        have h4 : vals 4 = _ := h4
        dsimp only [putsL, slotOf]
        rw [h4]
        refine wpList_skip rfl ?_
        exact wpList_nil (one_normal ⟨rfl, Below.refl _ _, rfl⟩)
      · intro vals W hB ⟨h4, h6, h9, _⟩
        have h4 : vals 4 = _ := h4
        have h9 : vals 9 = _ := h9
        dsimp only [putsL, slotOf]
        rw [h4, h9]
        refine wpList_skip rfl ?_
        exact wpList_nil (one_normal ⟨rfl, Below.refl _ _, rfl⟩)
      · intro vals W hB ⟨h4, h8, h10, _⟩
        have h4 : vals 4 = _ := h4
        have h8 : vals 8 = _ := h8
        have h10 : vals 10 = _ := h10
        dsimp only [putsL, slotOf]
        rw [h4, h8, h10]
        refine wpList_skip rfl ?_
        exact wpList_nil (one_normal ⟨rfl, Below.refl _ _, rfl⟩)
      · intro vals W hB ⟨h4, h10, h11, _⟩
        have h4 : vals 4 = _ := h4
        have h11 : vals 11 = _ := h11
        dsimp only [putsL, slotOf]
        rw [h4, h11]
        refine wpList_skip rfl ?_
        exact wpList_nil (one_normal ⟨rfl, Below.refl _ _, rfl⟩)
      · intro vals W hB ⟨h12, _⟩
        have h12 : vals 12 = _ := h12
        dsimp only [putsL, slotOf]
        rw [h12]
        refine wpList_skip rfl ?_
        exact wpList_nil (one_normal ⟨rfl, Below.refl _ _, rfl⟩)
      · intro vals W hB ⟨h12, h13, _⟩
        have h12 : vals 12 = _ := h12
        have h13 : vals 13 = _ := h13
        dsimp only [putsL, slotOf]
        rw [h12, h13]
        refine wpList_skip rfl ?_
        exact wpList_nil (one_normal ⟨rfl, Below.refl _ _, rfl⟩)
      · intro vals W hB ⟨h12, _⟩
        have h12 : vals 12 = _ := h12
        dsimp only [putsL, slotOf]
        rw [h12]
        refine wpList_skip rfl ?_
        exact wpList_nil (one_normal ⟨rfl, Below.refl _ _, rfl⟩)
      · intro vals W hB ⟨h12, h14, h15, _⟩
        have h12 : vals 12 = _ := h12
        have h15 : vals 15 = _ := h15
        dsimp only [putsL, slotOf]
        rw [h12, h15]
        refine wpList_skip rfl ?_
        exact wpList_nil (one_normal ⟨rfl, Below.refl _ _, rfl⟩)
      · intro vals W hB ⟨h12, _⟩
        have h12 : vals 12 = _ := h12
        dsimp only [putsL, slotOf]
        rw [h12]
        refine wpList_skip rfl ?_
        exact wpList_nil (one_normal ⟨rfl, Below.refl _ _, rfl⟩)
      · intro vals W hB ⟨h12, h16, h17, _⟩
        have h12 : vals 12 = _ := h12
        have h16 : vals 16 = _ := h16
        have h17 : vals 17 = _ := h17
        dsimp only [putsL, slotOf]
        rw [h12, h16, h17]
        refine wpList_skip rfl ?_
        exact wpList_nil (one_normal ⟨rfl, Below.refl _ _, rfl⟩)
      · intro vals W hB ⟨h12, h14, h18, _⟩
        have h12 : vals 12 = _ := h12
        have h14 : vals 14 = _ := h14
        have h18 : vals 18 = _ := h18
        dsimp only [putsL, slotOf]
        rw [h12, h14, h18]
        refine wpList_skip rfl ?_
        exact wpList_nil (one_normal ⟨rfl, Below.refl _ _, rfl⟩)
      · intro vals W hB ⟨h4, h12, h19, _⟩
        have h4 : vals 4 = _ := h4
        have h12 : vals 12 = _ := h12
        have h19 : vals 19 = _ := h19
        dsimp only [putsL, slotOf]
        rw [h4, h12, h19]
        refine wpList_skip rfl ?_
        exact wpList_nil (one_normal ⟨rfl, Below.refl _ _, rfl⟩)
      · intro vals W hB ⟨h4, h16, h20, _⟩
        have h4 : vals 4 = _ := h4
        have h20 : vals 20 = _ := h20
        dsimp only [putsL, slotOf]
        rw [h4, h20]
        refine wpList_skip rfl ?_
        exact wpList_nil (one_normal ⟨rfl, Below.refl _ _, rfl⟩)
      · intro vals W hB ⟨h21, _⟩
        have h21 : vals 21 = _ := h21
        dsimp only [putsL, slotOf]
        rw [h21]
        refine wpList_skip rfl ?_
        exact wpList_nil (one_normal ⟨rfl, Below.refl _ _, rfl⟩)
      · intro vals W hB ⟨h21, h22, _⟩
        have h21 : vals 21 = _ := h21
        have h22 : vals 22 = _ := h22
        dsimp only [putsL, slotOf]
        rw [h21, h22]
        refine wpList_skip rfl ?_
        exact wpList_nil (one_normal ⟨rfl, Below.refl _ _, rfl⟩)
      · intro vals W hB ⟨h4, h21, h23, _⟩
        have h4 : vals 4 = _ := h4
        have h21 : vals 21 = _ := h21
        have h23 : vals 23 = _ := h23
        dsimp only [putsL, slotOf]
        rw [h4, h21, h23]
        refine wpList_skip rfl ?_
        exact wpList_nil (one_normal ⟨rfl, Below.refl _ _, rfl⟩)
      · intro vals W hB ⟨h4, h23, h24, _⟩
        have h4 : vals 4 = _ := h4
        have h24 : vals 24 = _ := h24
        dsimp only [putsL, slotOf]
        rw [h4, h24]
        refine wpList_skip rfl ?_
        exact wpList_nil (one_normal ⟨rfl, Below.refl _ _, rfl⟩)
      · intro vals W hB ⟨h25, _⟩
        have h25 : vals 25 = _ := h25
        dsimp only [putsL, slotOf]
        rw [h25]
        refine wpList_skip rfl ?_
        exact wpList_nil (one_normal ⟨rfl, Below.refl _ _, rfl⟩)
      · intro vals W hB ⟨h25, h26, _⟩
        have h25 : vals 25 = _ := h25
        have h26 : vals 26 = _ := h26
        dsimp only [putsL, slotOf]
        rw [h25, h26]
        refine wpList_skip rfl ?_
        exact wpList_nil (one_normal ⟨rfl, Below.refl _ _, rfl⟩)
      · intro vals W hB ⟨h4, h25, h27, _⟩
        have h4 : vals 4 = _ := h4
        have h25 : vals 25 = _ := h25
        have h27 : vals 27 = _ := h27
        dsimp only [putsL, slotOf]
        rw [h4, h25, h27]
        refine wpList_skip rfl ?_
        exact wpList_nil (one_normal ⟨rfl, Below.refl _ _, rfl⟩)
      · intro vals W hB ⟨h4, h27, h28, _⟩
        have h4 : vals 4 = _ := h4
        have h28 : vals 28 = _ := h28
        dsimp only [putsL, slotOf]
        rw [h4, h28]
        refine wpList_skip rfl ?_
        exact wpList_nil (one_normal ⟨rfl, Below.refl _ _, rfl⟩)
      · intro vals W hB ⟨h29, _⟩
        have h29 : vals 29 = _ := h29
        dsimp only [putsL, slotOf]
        rw [h29]
        refine wpList_skip rfl ?_
        exact wpList_nil (one_normal ⟨rfl, Below.refl _ _, rfl⟩)
      · intro vals W hB ⟨h29, h30, _⟩
        have h29 : vals 29 = _ := h29
        have h30 : vals 30 = _ := h30
        dsimp only [putsL, slotOf]
        rw [h29, h30]
        refine wpList_skip rfl ?_
        exact wpList_nil (one_normal ⟨rfl, Below.refl _ _, rfl⟩)
      · intro vals W hB ⟨h29, _⟩
        have h29 : vals 29 = _ := h29
        dsimp only [putsL, slotOf]
        rw [h29]
        refine wpList_skip rfl ?_
        exact wpList_nil (one_normal ⟨rfl, Below.refl _ _, rfl⟩)
      · intro vals W hB ⟨h29, h32, _⟩
        have h29 : vals 29 = _ := h29
        have h32 : vals 32 = _ := h32
        dsimp only [putsL, slotOf]
        rw [h29, h32]
        refine wpList_skip rfl ?_
        exact wpList_nil (one_normal ⟨rfl, Below.refl _ _, rfl⟩)
      · intro vals W hB ⟨h29, h31, h33, _⟩
        have h29 : vals 29 = _ := h29
        have h31 : vals 31 = _ := h31
        have h33 : vals 33 = _ := h33
        dsimp only [putsL, slotOf]
        rw [h29, h31, h33]
        refine wpList_skip rfl ?_
        exact wpList_nil (one_normal ⟨rfl, Below.refl _ _, rfl⟩)
      · intro vals W hB ⟨h4, h29, h34, _⟩
        have h4 : vals 4 = _ := h4
        have h29 : vals 29 = _ := h29
        have h34 : vals 34 = _ := h34
        dsimp only [putsL, slotOf]
        rw [h4, h29, h34]
        refine wpList_skip rfl ?_
        exact wpList_nil (one_normal ⟨rfl, Below.refl _ _, rfl⟩)
      · intro vals W hB ⟨h4, h29, h35, _⟩
        have h4 : vals 4 = _ := h4
        have h35 : vals 35 = _ := h35
        dsimp only [putsL, slotOf]
        rw [h4, h35]
        refine wpList_skip rfl ?_
        exact wpList_nil (one_normal ⟨rfl, Below.refl _ _, rfl⟩)
      · intro vals W hB ⟨h36, _⟩
        have h36 : vals 36 = _ := h36
        dsimp only [putsL, slotOf]
        rw [h36]
        refine wpList_skip rfl ?_
        exact wpList_nil (one_normal ⟨rfl, Below.refl _ _, rfl⟩)
      · intro vals W hB ⟨h36, h37, _⟩
        have h36 : vals 36 = _ := h36
        have h37 : vals 37 = _ := h37
        dsimp only [putsL, slotOf]
        rw [h36, h37]
        refine wpList_skip rfl ?_
        exact wpList_nil (one_normal ⟨rfl, Below.refl _ _, rfl⟩)
      · intro vals W hB ⟨h36, _⟩
        have h36 : vals 36 = _ := h36
        dsimp only [putsL, slotOf]
        rw [h36]
        refine wpList_skip rfl ?_
        exact wpList_nil (one_normal ⟨rfl, Below.refl _ _, rfl⟩)
      · intro vals W hB ⟨h36, h39, _⟩
        have h36 : vals 36 = _ := h36
        have h39 : vals 39 = _ := h39
        dsimp only [putsL, slotOf]
        rw [h36, h39]
        refine wpList_skip rfl ?_
        exact wpList_nil (one_normal ⟨rfl, Below.refl _ _, rfl⟩)
      · intro vals W hB ⟨h36, h38, h40, _⟩
        have h36 : vals 36 = _ := h36
        have h38 : vals 38 = _ := h38
        have h40 : vals 40 = _ := h40
        dsimp only [putsL, slotOf]
        rw [h36, h38, h40]
        refine wpList_skip rfl ?_
        exact wpList_nil (one_normal ⟨rfl, Below.refl _ _, rfl⟩)
      · intro vals W hB ⟨h4, h36, h41, _⟩
        have h4 : vals 4 = _ := h4
        have h36 : vals 36 = _ := h36
        have h41 : vals 41 = _ := h41
        dsimp only [putsL, slotOf]
        rw [h4, h36, h41]
        refine wpList_skip rfl ?_
        exact wpList_nil (one_normal ⟨rfl, Below.refl _ _, rfl⟩)
      · intro vals W hB ⟨h1, h4, h42, _⟩
        have h1 : vals 1 = _ := h1
        have h4 : vals 4 = _ := h4
        have h42 : vals 42 = _ := h42
        dsimp only [putsL, slotOf]
        rw [h1, h4, h42]
        go_wp2
        exact ⟨rfl, Below.refl _ _, rfl⟩
      · intro vals W hB ⟨h1, h43, _⟩
        have h1 : vals 1 = _ := h1
        have h43 : vals 43 = _ := h43
        dsimp only [putsL, slotOf]
        rw [h1, h43]
        go_wp2
        exact ⟨rfl, Below.refl _ _, rfl⟩
      · intro vals W hB ⟨h0, h1, h2, h3, h4, h5, h6, h7, h8, h9, h10, h11, h12, h13, h14, h15, h16, h17, h18, h19, h20, h21, h22, h23, h24, h25, h26, h27, h28, h29, h30, h31, h32, h33, h34, h35, h36, h37, h38, h39, h40, h41, h42, h43, h44, _⟩
        have h44 : vals 44 = _ := h44
        dsimp only [putsL, slotOf]
        rw [h44]
        go_wp2
        exact ⟨rfl, Below.refl _ _, rfl⟩
      rintro vals W hB ⟨q0, q1, q2, q3, q4, q5, q6, q7, q8, q9, q10, q11, q12, q13, q14, q15, q16, q17, q18, q19, q20, q21, q22, q23, q24, q25, q26, q27, q28, q29, q30, q31, q32, q33, q34, q35, q36, q37, q38, q39, q40, q41, q42, q43, q44, q45, -⟩
      have h0 : vals 0 = _ := q0
      have h1 : vals 1 = _ := q1
      have h2 : vals 2 = _ := q2
      have h3 : vals 3 = _ := q3
      have h4 : vals 4 = _ := q4
      have h5 : vals 5 = _ := q5
      have h6 : vals 6 = _ := q6
      have h7 : vals 7 = _ := q7
      have h8 : vals 8 = _ := q8
      have h9 : vals 9 = _ := q9
      have h10 : vals 10 = _ := q10
      have h11 : vals 11 = _ := q11
      have h12 : vals 12 = _ := q12
      have h13 : vals 13 = _ := q13
      have h14 : vals 14 = _ := q14
      have h15 : vals 15 = _ := q15
      have h16 : vals 16 = _ := q16
      have h17 : vals 17 = _ := q17
      have h18 : vals 18 = _ := q18
      have h19 : vals 19 = _ := q19
      have h20 : vals 20 = _ := q20
      have h21 : vals 21 = _ := q21
      have h22 : vals 22 = _ := q22
      have h23 : vals 23 = _ := q23
      have h24 : vals 24 = _ := q24
      have h25 : vals 25 = _ := q25
      have h26 : vals 26 = _ := q26
      have h27 : vals 27 = _ := q27
      have h28 : vals 28 = _ := q28
      have h29 : vals 29 = _ := q29
      have h30 : vals 30 = _ := q30
      have h31 : vals 31 = _ := q31
      have h32 : vals 32 = _ := q32
      have h33 : vals 33 = _ := q33
      have h34 : vals 34 = _ := q34
      have h35 : vals 35 = _ := q35
      have h36 : vals 36 = _ := q36
      have h37 : vals 37 = _ := q37
      have h38 : vals 38 = _ := q38
      have h39 : vals 39 = _ := q39
      have h40 : vals 40 = _ := q40
      have h41 : vals 41 = _ := q41
      have h42 : vals 42 = _ := q42
      have h43 : vals 43 = _ := q43
      have h44 : vals 44 = _ := q44
      have h45 : vals 45 = _ := q45
      dsimp only [putsL]
      rw [h0, h1, h2, h3, h4, h5, h6, h7, h8, h9, h10, h11, h12, h13, h14, h15, h16, h17, h18, h19, h20, h21, h22, h23, h24, h25, h26, h27, h28, h29, h30, h31, h32, h33, h34, h35, h36, h37, h38, h39, h40, h41, h42, h43, h44, h45]
      clear h0 q0 h1 q1 h2 q2 h3 q3 h4 q4 h5 q5 h6 q6 h7 q7 h8 q8 h9 q9 h10 q10 h11 q11 h12 q12 h13 q13 h14 q14 h15 q15 h16 q16 h17 q17 h18 q18 h19 q19 h20 q20 h21 q21 h22 q22 h23 q23 h24 q24 h25 q25 h26 q26 h27 q27 h28 q28 h29 q29 h30 q30 h31 q31 h32 q32 h33 q33 h34 q34 h35 q35 h36 q36 h37 q37 h38 q38 h39 q39 h40 q40 h41 q41 h42 q42 h43 q43 h44 q44 h45 q45
      simp only [List.length_cons, List.length_nil, Nat.reduceAdd, List.drop_succ_cons, List.drop_zero, List.setIfInBounds_toArray, List.set_cons_succ, List.set_cons_zero]
      have HTF : Veil _ := ⟨bc_then HT2.out hB⟩
      clear hB
      go_wp2
      go_ret
      exact ⟨rfl, HTF.out⟩
    · have PTp : Veil _ := ⟨t1⟩
      have PTa3 : Veil _ := ⟨t2⟩
      have PTq : Veil _ := ⟨t3⟩
      have PTb : Veil _ := ⟨t4⟩
      have PRp : Veil _ := ⟨t5⟩
      have PRq : Veil _ := ⟨t6⟩
      clear t1 t2 t3 t4 t5 t6 HF3
      refine region_new [.is (.bool true), .is (.bool true), .is (.int .i64 0), .is (.bool false), .is (.bool false), .is (.agg #[.int .i64 pw, .int .i64 ab]), .is (.int .i64 TP), .is (.int .i64 n), .is (.int .i64 TA), .is (.agg #[.int .i64 aw, .int .i64 ab]), .is (.int .i64 TA), .is (.bool true), .is (.bool true), .is (.agg #[.int .i64 qw, .int .i64 bb]), .is (.int .i64 TQ), .is (.agg #[.int .i64 bw, .int .i64 bb]), .is (.int .i64 TB), .is (.int .i64 n), .is (.int .i64 TQ), .is (.bool true), .is (.bool true), .is (.bool true), .is (.agg #[.int .i64 pw, .int .i64 ab]), .is (.bool true), .is (.bool true), .is (.bool true), .is (.agg #[.int .i64 qw, .int .i64 bb]), .is (.bool true), .is (.bool true), .is (.bool true), .is (.pointer (some ⟨w4x.heap.size, 1, none⟩)), .is (.int .i64 ab), .is (.pointer (some ⟨w.heap.size, 1, none⟩)), .is (.int .i64 ab), .is (.bool true), .is (.bool true), .is (.bool true), .is (.pointer (some ⟨w4x.heap.size + 1, 1, none⟩)), .is (.int .i64 bb), .is (.pointer (some ⟨w.heap.size + 1, 1, none⟩)), .is (.int .i64 bb), .is (.bool true), .is (.bool true), .is (.bool true), .is (.bool true), .is (.bool true)]
        [[], [(0, 66)], [(1, 67)], [(1, 67), (2, 68)], [(1, 67), (3, 69)], [(4, 70)], [(4, 70), (5, 71)], [(4, 70)], [(4, 70), (6, 72), (7, 73)], [(4, 70)], [(4, 70), (9, 75)], [(4, 70), (8, 74), (10, 76)], [(4, 70), (11, 77)], [(12, 78)], [(12, 78), (13, 79)], [(12, 78)], [(12, 78), (15, 81)], [(12, 78)], [(12, 78), (16, 82), (17, 83)], [(12, 78), (14, 80), (18, 84)], [(4, 70), (12, 78), (19, 85)], [(4, 70), (20, 86)], [(21, 87)], [(21, 87), (22, 88)], [(4, 70), (21, 87), (23, 89)], [(4, 70), (24, 90)], [(25, 91)], [(25, 91), (26, 92)], [(4, 70), (25, 91), (27, 93)], [(4, 70), (28, 94)], [(29, 95)], [(29, 95), (30, 96)], [(29, 95)], [(29, 95), (32, 98)], [(29, 95), (31, 97), (33, 99)], [(4, 70), (29, 95), (34, 100)], [(4, 70), (35, 101)], [(36, 102)], [(36, 102), (37, 103)], [(36, 102)], [(36, 102), (39, 105)], [(36, 102), (38, 104), (40, 106)], [(4, 70), (36, 102), (41, 107)], [(1, 67), (4, 70), (42, 108)], [(1, 67), (43, 109)], [(44, 110)]]
        [[], [0], [1], [1, 2], [1, 3], [4], [4, 5], [4], [4, 6, 7], [4], [4, 6, 9], [4, 8, 10], [4, 10, 11], [12], [12, 13], [12], [12, 14, 15], [12], [12, 16, 17], [12, 14, 18], [4, 12, 19], [4, 16, 20], [21], [21, 22], [4, 21, 23], [4, 23, 24], [25], [25, 26], [4, 25, 27], [4, 27, 28], [29], [29, 30], [29], [29, 32], [29, 31, 33], [4, 29, 34], [4, 29, 35], [36], [36, 37], [36], [36, 39], [36, 38, 40], [4, 36, 41], [1, 4, 42], [1, 43], [0, 1, 2, 3, 4, 5, 6, 7, 8, 9, 10, 11, 12, 13, 14, 15, 16, 17, 18, 19, 20, 21, 22, 23, 24, 25, 26, 27, 28, 29, 30, 31, 32, 33, 34, 35, 36, 37, 38, 39, 40, 41, 42, 43, 44]]
        [(0, 66), (1, 67), (2, 68), (3, 69), (4, 70), (5, 71), (6, 72), (7, 73), (8, 74), (9, 75), (10, 76), (11, 77), (12, 78), (13, 79), (14, 80), (15, 81), (16, 82), (17, 83), (18, 84), (19, 85), (20, 86), (21, 87), (22, 88), (23, 89), (24, 90), (25, 91), (26, 92), (27, 93), (28, 94), (29, 95), (30, 96), (31, 97), (32, 98), (33, 99), (34, 100), (35, 101), (36, 102), (37, 103), (38, 104), (39, 105), (40, 106), (41, 107), (42, 108), (43, 109), (44, 110), (45, 6)] rfl (by kernel_rfl) ⟨?_, ?_, ?_, ?_, ?_, ?_, ?_, ?_, ?_, ?_, ?_, ?_, ?_, ?_, ?_, ?_, ?_, ?_, ?_, ?_, ?_, ?_, ?_, ?_, ?_, ?_, ?_, ?_, ?_, ?_, ?_, ?_, ?_, ?_, ?_, ?_, ?_, ?_, ?_, ?_, ?_, ?_, ?_, ?_, ?_, ?_, trivial⟩ ?_
      · intro vals W hB _
        dsimp only [putsL, slotOf]
        go_wp2
        exact ⟨rfl, Below.refl _ _, rfl⟩
      · intro vals W hB ⟨h0, _⟩
        have h0 : vals 0 = _ := h0
        dsimp only [putsL, slotOf]
        rw [h0]
        go_wp2
        exact ⟨rfl, Below.refl _ _, rfl⟩
      · intro vals W hB ⟨h1, _⟩
        have h1 : vals 1 = _ := h1
        dsimp only [putsL, slotOf]
        rw [h1]
        go_wp2
        exact ⟨rfl, Below.refl _ _, rfl⟩
      · intro vals W hB ⟨h1, h2, _⟩
        have h1 : vals 1 = _ := h1
        have h2 : vals 2 = _ := h2
        dsimp only [putsL, slotOf]
        rw [h1, h2]
        go_wp2
        exact ⟨rfl, Below.refl _ _, rfl⟩
      · intro vals W hB ⟨h1, h3, _⟩
        have h1 : vals 1 = _ := h1
        have h3 : vals 3 = _ := h3
        dsimp only [putsL, slotOf]
        rw [h1, h3]
        go_wp2
        exact ⟨rfl, Below.refl _ _, rfl⟩
      · intro vals W hB ⟨h4, _⟩
        have h4 : vals 4 = _ := h4
        obtain ⟨x0, x1⟩ := HP2.out.below hB
        dsimp only [putsL, slotOf]
        rw [h4]
        go_wp2
        exact ⟨rfl, Below.refl _ _, rfl⟩
      · intro vals W hB ⟨h4, h5, _⟩
        have h4 : vals 4 = _ := h4
        have h5 : vals 5 = _ := h5
        dsimp only [putsL, slotOf]
        rw [h4, h5]
        go_wp2_with ((go_at_call 26; refine (PTp.out _).mono ?_; rintro e w4 ⟨rfl, hb4⟩))
        exact ⟨rfl, hb4, rfl⟩
      · intro vals W hB ⟨h4, _⟩
        have h4 : vals 4 = _ := h4
        dsimp only [putsL, slotOf]
        rw [h4]
        go_wp2
        exact ⟨rfl, Below.refl _ _, rfl⟩
      · intro vals W hB ⟨h4, h6, h7, _⟩
        have h4 : vals 4 = _ := h4
        have h6 : vals 6 = _ := h6
        have h7 : vals 7 = _ := h7
        dsimp only [putsL, slotOf]
        rw [h4, h6, h7]
        go_wp2
        exact ⟨rfl, Below.refl _ _, rfl⟩
      · intro vals W hB ⟨h4, _⟩
        have h4 : vals 4 = _ := h4
        obtain ⟨x0, x1⟩ := HA2.out.below hB
        dsimp only [putsL, slotOf]
        rw [h4]
        go_wp2
        exact ⟨rfl, Below.refl _ _, rfl⟩
      · intro vals W hB ⟨h4, h6, h9, _⟩
        have h4 : vals 4 = _ := h4
        have h9 : vals 9 = _ := h9
        dsimp only [putsL, slotOf]
        rw [h4, h9]
        go_wp2_with ((go_at_call 26; refine (PTa3.out _).mono ?_; rintro e w4 ⟨rfl, hb4⟩))
        exact ⟨rfl, hb4, rfl⟩
      · intro vals W hB ⟨h4, h8, h10, _⟩
        have h4 : vals 4 = _ := h4
        have h8 : vals 8 = _ := h8
        have h10 : vals 10 = _ := h10
        dsimp only [putsL, slotOf]
        rw [h4, h8, h10]
        go_wp2
        exact ⟨rfl, Below.refl _ _, rfl⟩
      · intro vals W hB ⟨h4, h10, h11, _⟩
        have h4 : vals 4 = _ := h4
        have h11 : vals 11 = _ := h11
        dsimp only [putsL, slotOf]
        rw [h4, h11]
        go_wp2
        exact ⟨rfl, Below.refl _ _, rfl⟩
      · intro vals W hB ⟨h12, _⟩
        have h12 : vals 12 = _ := h12
        obtain ⟨x0, x1⟩ := HQ2.out.below hB
        dsimp only [putsL, slotOf]
        rw [h12]
        go_wp2
        exact ⟨rfl, Below.refl _ _, rfl⟩
      · intro vals W hB ⟨h12, h13, _⟩
        have h12 : vals 12 = _ := h12
        have h13 : vals 13 = _ := h13
        dsimp only [putsL, slotOf]
        rw [h12, h13]
        go_wp2_with ((go_at_call 26; refine (PTq.out _).mono ?_; rintro e w4 ⟨rfl, hb4⟩))
        exact ⟨rfl, hb4, rfl⟩
      · intro vals W hB ⟨h12, _⟩
        have h12 : vals 12 = _ := h12
        obtain ⟨x0, x1⟩ := HB2.out.below hB
        dsimp only [putsL, slotOf]
        rw [h12]
        go_wp2
        exact ⟨rfl, Below.refl _ _, rfl⟩
      · intro vals W hB ⟨h12, h14, h15, _⟩
        have h12 : vals 12 = _ := h12
        have h15 : vals 15 = _ := h15
        dsimp only [putsL, slotOf]
        rw [h12, h15]
        go_wp2_with ((go_at_call 26; refine (PTb.out _).mono ?_; rintro e w4 ⟨rfl, hb4⟩))
        exact ⟨rfl, hb4, rfl⟩
      · intro vals W hB ⟨h12, _⟩
        have h12 : vals 12 = _ := h12
        dsimp only [putsL, slotOf]
        rw [h12]
        go_wp2
        exact ⟨rfl, Below.refl _ _, rfl⟩
      · intro vals W hB ⟨h12, h16, h17, _⟩
        have h12 : vals 12 = _ := h12
        have h16 : vals 16 = _ := h16
        have h17 : vals 17 = _ := h17
        dsimp only [putsL, slotOf]
        rw [h12, h16, h17]
        go_wp2
        exact ⟨rfl, Below.refl _ _, rfl⟩
      · intro vals W hB ⟨h12, h14, h18, _⟩
        have h12 : vals 12 = _ := h12
        have h14 : vals 14 = _ := h14
        have h18 : vals 18 = _ := h18
        dsimp only [putsL, slotOf]
        rw [h12, h14, h18]
        go_wp2
        exact ⟨rfl, Below.refl _ _, rfl⟩
      · intro vals W hB ⟨h4, h12, h19, _⟩
        have h4 : vals 4 = _ := h4
        have h12 : vals 12 = _ := h12
        have h19 : vals 19 = _ := h19
        dsimp only [putsL, slotOf]
        rw [h4, h12, h19]
        go_wp2
        exact ⟨rfl, Below.refl _ _, rfl⟩
      · intro vals W hB ⟨h4, h16, h20, _⟩
        have h4 : vals 4 = _ := h4
        have h20 : vals 20 = _ := h20
        dsimp only [putsL, slotOf]
        rw [h4, h20]
        go_wp2
        exact ⟨rfl, Below.refl _ _, rfl⟩
      · intro vals W hB ⟨h21, _⟩
        have h21 : vals 21 = _ := h21
        obtain ⟨x0, x1⟩ := HP2.out.below hB
        dsimp only [putsL, slotOf]
        rw [h21]
        go_wp2
        exact ⟨rfl, Below.refl _ _, rfl⟩
      · intro vals W hB ⟨h21, h22, _⟩
        have h21 : vals 21 = _ := h21
        have h22 : vals 22 = _ := h22
        dsimp only [putsL, slotOf]
        rw [h21, h22]
        go_wp2_with ((go_at_call 20; refine (PRp.out _ (bc_then HT2.out hB)).mono ?_; rintro e w4 ⟨rfl, hb4⟩))
        exact ⟨rfl, hb4, rfl⟩
      · intro vals W hB ⟨h4, h21, h23, _⟩
        have h4 : vals 4 = _ := h4
        have h21 : vals 21 = _ := h21
        have h23 : vals 23 = _ := h23
        dsimp only [putsL, slotOf]
        rw [h4, h21, h23]
        go_wp2
        exact ⟨rfl, Below.refl _ _, rfl⟩
      · intro vals W hB ⟨h4, h23, h24, _⟩
        have h4 : vals 4 = _ := h4
        have h24 : vals 24 = _ := h24
        dsimp only [putsL, slotOf]
        rw [h4, h24]
        go_wp2
        exact ⟨rfl, Below.refl _ _, rfl⟩
      · intro vals W hB ⟨h25, _⟩
        have h25 : vals 25 = _ := h25
        obtain ⟨x0, x1⟩ := HQ2.out.below hB
        dsimp only [putsL, slotOf]
        rw [h25]
        go_wp2
        exact ⟨rfl, Below.refl _ _, rfl⟩
      · intro vals W hB ⟨h25, h26, _⟩
        have h25 : vals 25 = _ := h25
        have h26 : vals 26 = _ := h26
        dsimp only [putsL, slotOf]
        rw [h25, h26]
        go_wp2_with ((go_at_call 20; refine (PRq.out _ (bc_then HT2.out hB)).mono ?_; rintro e w4 ⟨rfl, hb4⟩))
        exact ⟨rfl, hb4, rfl⟩
      · intro vals W hB ⟨h4, h25, h27, _⟩
        have h4 : vals 4 = _ := h4
        have h25 : vals 25 = _ := h25
        have h27 : vals 27 = _ := h27
        dsimp only [putsL, slotOf]
        rw [h4, h25, h27]
        go_wp2
        exact ⟨rfl, Below.refl _ _, rfl⟩
      · intro vals W hB ⟨h4, h27, h28, _⟩
        have h4 : vals 4 = _ := h4
        have h28 : vals 28 = _ := h28
        dsimp only [putsL, slotOf]
        rw [h4, h28]
        go_wp2
        exact ⟨rfl, Below.refl _ _, rfl⟩
      · intro vals W hB ⟨h29, _⟩
        have h29 : vals 29 = _ := h29
        dsimp only [putsL, slotOf]
        rw [h29]
        go_wp2
        exact ⟨rfl, Below.refl _ _, rfl⟩
      · intro vals W hB ⟨h29, h30, _⟩
        have h29 : vals 29 = _ := h29
        have h30 : vals 30 = _ := h30
        obtain ⟨x0, x1⟩ := HP2.out.below hB
        dsimp only [putsL, slotOf]
        rw [h29, h30]
        go_wp2
        exact ⟨rfl, Below.refl _ _, rfl⟩
      · intro vals W hB ⟨h29, _⟩
        have h29 : vals 29 = _ := h29
        dsimp only [putsL, slotOf]
        rw [h29]
        go_wp2
        exact ⟨rfl, Below.refl _ _, rfl⟩
      · intro vals W hB ⟨h29, h32, _⟩
        have h29 : vals 29 = _ := h29
        have h32 : vals 32 = _ := h32
        obtain ⟨x0, x1⟩ := HA2.out.below hB
        dsimp only [putsL, slotOf]
        rw [h29, h32]
        go_wp2
        exact ⟨rfl, Below.refl _ _, rfl⟩
      · intro vals W hB ⟨h29, h31, h33, _⟩
        have h29 : vals 29 = _ := h29
        have h31 : vals 31 = _ := h31
        have h33 : vals 33 = _ := h33
        dsimp only [putsL, slotOf]
        rw [h29, h31, h33]
        go_wp2
        exact ⟨rfl, Below.refl _ _, rfl⟩
      · intro vals W hB ⟨h4, h29, h34, _⟩
        have h4 : vals 4 = _ := h4
        have h29 : vals 29 = _ := h29
        have h34 : vals 34 = _ := h34
        dsimp only [putsL, slotOf]
        rw [h4, h29, h34]
        go_wp2
        exact ⟨rfl, Below.refl _ _, rfl⟩
      · intro vals W hB ⟨h4, h29, h35, _⟩
        have h4 : vals 4 = _ := h4
        have h35 : vals 35 = _ := h35
        dsimp only [putsL, slotOf]
        rw [h4, h35]
        go_wp2
        exact ⟨rfl, Below.refl _ _, rfl⟩
      · intro vals W hB ⟨h36, _⟩
        have h36 : vals 36 = _ := h36
        dsimp only [putsL, slotOf]
        rw [h36]
        go_wp2
        exact ⟨rfl, Below.refl _ _, rfl⟩
      · intro vals W hB ⟨h36, h37, _⟩
        have h36 : vals 36 = _ := h36
        have h37 : vals 37 = _ := h37
        obtain ⟨x0, x1⟩ := HQ2.out.below hB
        dsimp only [putsL, slotOf]
        rw [h36, h37]
        go_wp2
        exact ⟨rfl, Below.refl _ _, rfl⟩
      · intro vals W hB ⟨h36, _⟩
        have h36 : vals 36 = _ := h36
        dsimp only [putsL, slotOf]
        rw [h36]
        go_wp2
        exact ⟨rfl, Below.refl _ _, rfl⟩
      · intro vals W hB ⟨h36, h39, _⟩
        have h36 : vals 36 = _ := h36
        have h39 : vals 39 = _ := h39
        obtain ⟨x0, x1⟩ := HB2.out.below hB
        dsimp only [putsL, slotOf]
        rw [h36, h39]
        go_wp2
        exact ⟨rfl, Below.refl _ _, rfl⟩
      · intro vals W hB ⟨h36, h38, h40, _⟩
        have h36 : vals 36 = _ := h36
        have h38 : vals 38 = _ := h38
        have h40 : vals 40 = _ := h40
        dsimp only [putsL, slotOf]
        rw [h36, h38, h40]
        go_wp2
        exact ⟨rfl, Below.refl _ _, rfl⟩
      · intro vals W hB ⟨h4, h36, h41, _⟩
        have h4 : vals 4 = _ := h4
        have h36 : vals 36 = _ := h36
        have h41 : vals 41 = _ := h41
        dsimp only [putsL, slotOf]
        rw [h4, h36, h41]
        go_wp2
        exact ⟨rfl, Below.refl _ _, rfl⟩
      · intro vals W hB ⟨h1, h4, h42, _⟩
        have h1 : vals 1 = _ := h1
        have h4 : vals 4 = _ := h4
        have h42 : vals 42 = _ := h42
        dsimp only [putsL, slotOf]
        rw [h1, h4, h42]
        go_wp2
        exact ⟨rfl, Below.refl _ _, rfl⟩
      · intro vals W hB ⟨h1, h43, _⟩
        have h1 : vals 1 = _ := h1
        have h43 : vals 43 = _ := h43
        dsimp only [putsL, slotOf]
        rw [h1, h43]
        go_wp2
        exact ⟨rfl, Below.refl _ _, rfl⟩
      · intro vals W hB ⟨h0, h1, h2, h3, h4, h5, h6, h7, h8, h9, h10, h11, h12, h13, h14, h15, h16, h17, h18, h19, h20, h21, h22, h23, h24, h25, h26, h27, h28, h29, h30, h31, h32, h33, h34, h35, h36, h37, h38, h39, h40, h41, h42, h43, h44, _⟩
        have h44 : vals 44 = _ := h44
        dsimp only [putsL, slotOf]
        rw [h44]
        go_wp2
        exact ⟨rfl, Below.refl _ _, rfl⟩
      rintro vals W hB ⟨q0, q1, q2, q3, q4, q5, q6, q7, q8, q9, q10, q11, q12, q13, q14, q15, q16, q17, q18, q19, q20, q21, q22, q23, q24, q25, q26, q27, q28, q29, q30, q31, q32, q33, q34, q35, q36, q37, q38, q39, q40, q41, q42, q43, q44, q45, -⟩
      have h0 : vals 0 = _ := q0
      have h1 : vals 1 = _ := q1
      have h2 : vals 2 = _ := q2
      have h3 : vals 3 = _ := q3
      have h4 : vals 4 = _ := q4
      have h5 : vals 5 = _ := q5
      have h6 : vals 6 = _ := q6
      have h7 : vals 7 = _ := q7
      have h8 : vals 8 = _ := q8
      have h9 : vals 9 = _ := q9
      have h10 : vals 10 = _ := q10
      have h11 : vals 11 = _ := q11
      have h12 : vals 12 = _ := q12
      have h13 : vals 13 = _ := q13
      have h14 : vals 14 = _ := q14
      have h15 : vals 15 = _ := q15
      have h16 : vals 16 = _ := q16
      have h17 : vals 17 = _ := q17
      have h18 : vals 18 = _ := q18
      have h19 : vals 19 = _ := q19
      have h20 : vals 20 = _ := q20
      have h21 : vals 21 = _ := q21
      have h22 : vals 22 = _ := q22
      have h23 : vals 23 = _ := q23
      have h24 : vals 24 = _ := q24
      have h25 : vals 25 = _ := q25
      have h26 : vals 26 = _ := q26
      have h27 : vals 27 = _ := q27
      have h28 : vals 28 = _ := q28
      have h29 : vals 29 = _ := q29
      have h30 : vals 30 = _ := q30
      have h31 : vals 31 = _ := q31
      have h32 : vals 32 = _ := q32
      have h33 : vals 33 = _ := q33
      have h34 : vals 34 = _ := q34
      have h35 : vals 35 = _ := q35
      have h36 : vals 36 = _ := q36
      have h37 : vals 37 = _ := q37
      have h38 : vals 38 = _ := q38
      have h39 : vals 39 = _ := q39
      have h40 : vals 40 = _ := q40
      have h41 : vals 41 = _ := q41
      have h42 : vals 42 = _ := q42
      have h43 : vals 43 = _ := q43
      have h44 : vals 44 = _ := q44
      have h45 : vals 45 = _ := q45
      dsimp only [putsL]
      rw [h0, h1, h2, h3, h4, h5, h6, h7, h8, h9, h10, h11, h12, h13, h14, h15, h16, h17, h18, h19, h20, h21, h22, h23, h24, h25, h26, h27, h28, h29, h30, h31, h32, h33, h34, h35, h36, h37, h38, h39, h40, h41, h42, h43, h44, h45]
      clear h0 q0 h1 q1 h2 q2 h3 q3 h4 q4 h5 q5 h6 q6 h7 q7 h8 q8 h9 q9 h10 q10 h11 q11 h12 q12 h13 q13 h14 q14 h15 q15 h16 q16 h17 q17 h18 q18 h19 q19 h20 q20 h21 q21 h22 q22 h23 q23 h24 q24 h25 q25 h26 q26 h27 q27 h28 q28 h29 q29 h30 q30 h31 q31 h32 q32 h33 q33 h34 q34 h35 q35 h36 q36 h37 q37 h38 q38 h39 q39 h40 q40 h41 q41 h42 q42 h43 q43 h44 q44 h45 q45
      simp only [List.length_cons, List.length_nil, Nat.reduceAdd, List.drop_succ_cons, List.drop_zero, List.setIfInBounds_toArray, List.set_cons_succ, List.set_cons_zero]
      have HTF : Veil _ := ⟨bc_then HT2.out hB⟩
      clear hB
      go_wp2
      go_ret
      exact ⟨rfl, HTF.out⟩
end Go.Proofs.YtbbfmddechpnjaaDoor
