/- The laws on goods: GoodsTwice, GoodsKeep. -/
import Derived.Deep.RegionHeld3
import Derived.Test.YtecalafjfbgbcaaDoorKI7
namespace Go.Proofs.YtecalafjfbgbcaaDoor
open Go Go.RowKit Sm
attribute [local go_sem] Oper.semAt_some

set_option maxRecDepth 20000 in
set_option maxHeartbeats 2000000 in
theorem goodsTwice_any {w : World} {p : Option Addr} (l : List St) (lc : Nat) (i : Nat) (n m : Int) (hin : InL elS w p l lc) (hgd : GdW l) (hS : MSent w) (hsi : i < 65536) (hn : I64 n) (hm : I64 m) :
    Calls Tryd.prog 8 #[.slice p l.length lc, .int .u16 i, .int .i64 n, .int .i64 m] w fun e w' => e = .returned (.bool true) ∧ Below w.heap.size w w' := by
  have hcut : Veil (∀ W, Below w.heap.size w W → Calls Tryd.prog 10 #[.slice p l.length lc] W (FreshPost elS W (l.take 30))) := ⟨fun W hW => cutG12_any l lc ⟨hin.els.below hW, hin.spot, hin.nil0, hin.le, hin.cap⟩⟩
  have ht := take30 l
  have hg := hgd.take 30
  have HSm : Veil (∀ W, Below w.heap.size w W → MSent W) := ⟨fun W hb => hS.below hb⟩
  generalize l.take 30 = T at hcut ht hg
  have P1 : Veil (GiveAt w 11 T ⟨i, n⟩ (giveG T ⟨i, n⟩).1 (giveG T ⟨i, n⟩).2) := ⟨fun p cp W h hb => gdgive_any T cp ⟨i, n⟩ h (by omega) hsi hn hg (hS.below hb)⟩
  have P2 : Veil (GiveAt w 11 (giveG T ⟨i, n⟩).1 ⟨i, m⟩ (giveG (giveG T ⟨i, n⟩).1 ⟨i, m⟩).1 (giveG (giveG T ⟨i, n⟩).1 ⟨i, m⟩).2) := ⟨fun p cp W h hb => gdgive_any _ cp ⟨i, m⟩ h (by have := (sizes_ok T ⟨i, n⟩).1; omega) hsi hm (giveG_w hg hsi) (hS.below hb)⟩
  have hBl := (sizes_ok (giveG T ⟨i, n⟩).1 ⟨i, m⟩).1
  have F : (giveG T ⟨i, n⟩).2 ≠ 0 ∨ (giveG T ⟨i, n⟩).2 = 0 ∧ ((giveG (giveG T ⟨i, n⟩).1 ⟨i, m⟩).2 ≠ 0 ∨ (giveG (giveG T ⟨i, n⟩).1 ⟨i, m⟩).2 = 0 ∧ (1 ≤ n ∧ n ≤ 1152921504606846976) ∧ (1 ≤ m ∧ m ≤ 1152921504606846976) ∧ GiveAt w 11 T ⟨i, n + m⟩ (giveG (giveG T ⟨i, n⟩).1 ⟨i, m⟩).1 0) := by
    by_cases h : (giveG T ⟨i, n⟩).2 = 0
    · refine .inr ⟨h, ?_⟩
      by_cases g : (giveG (giveG T ⟨i, n⟩).1 ⟨i, m⟩).2 = 0
      · have b1 := (amt1_iff n).1 (giveG_ok T ⟨i, n⟩ h).2.1
        have b2 := (amt1_iff m).1 (giveG_ok _ ⟨i, m⟩ g).2.1
        refine .inr ⟨g, b1, b2, fun p cp W hE hb => ?_⟩
        have := gdgive_any T cp ⟨i, n + m⟩ hE (by omega) hsi (by show I64 (n + m); unfold I64; omega) hg (hS.below hb)
        rw [give_twice T i n m h g] at this
        rwa [g] at this
      · exact .inl g
    · exact .inl h
  generalize giveG T ⟨i, n⟩ = x1 at P1 P2 F hBl
  obtain ⟨A, e0⟩ := x1
  dsimp only at P1 P2 F hBl
  generalize giveG A ⟨i, m⟩ = x2 at P2 F hBl
  obtain ⟨B, f0⟩ := x2
  dsimp only at P2 F hBl
  clear hin hn hm hS hg hgd
  unfold GiveAt at *
  unfold St.v at *
  dsimp only at *
  have hT : Below w.heap.size w w := Below.refl _ _
  rcases F with F | ⟨rfl, F | ⟨rfl, ⟨n0, n1⟩, ⟨m0, m1⟩, P3⟩⟩
  · have F1' : ¬ e0 = 0 := F
    go_enter Tryd.func8, Tryd.ntmps8
    go_wp2_with (first
      | (go_at_call 11; (with_reducible refine (P2.out _ _ _ HA.out hT).mono ?_); rintro e w4 ⟨v4, rfl, hF, hb4⟩; have hT := bc_then hT hb4)
      | (go_at_call 11; (with_reducible refine (P1.out _ _ _ HT.out hT).mono ?_); rintro e w3 ⟨v3, rfl, hF, hb3⟩; have hT := bc_then hT hb3; obtain ⟨p3, c3, rfl, hE3, -⟩ := hF.formI; have HA : Veil _ := ⟨hE3⟩; clear hE3)
      | (go_at_call 10; (with_reducible refine (hcut.out _ hT).mono ?_); rintro e w2 ⟨v2, rfl, hF, hb2⟩; have hT := bc_then hT hb2; obtain ⟨p2, c2, rfl, hE2, -⟩ := hF.formI; have HT : Veil _ := ⟨hE2⟩; clear hE2)
      | (go_at_call 9; refine (shown12_any _ (HSm.out _ hT)).mono ?_; rintro e w1 ⟨rfl, hb1⟩; have hT := bc_then hT hb1))
    go_ret
    exact ⟨rfl, hT⟩
  · have F1' : ¬ f0 = 0 := F
    go_enter Tryd.func8, Tryd.ntmps8
    go_wp2_with (first
      | (go_at_call 11; (with_reducible refine (P2.out _ _ _ HA.out hT).mono ?_); rintro e w4 ⟨v4, rfl, hF, hb4⟩; have hT := bc_then hT hb4)
      | (go_at_call 11; (with_reducible refine (P1.out _ _ _ HT.out hT).mono ?_); rintro e w3 ⟨v3, rfl, hF, hb3⟩; have hT := bc_then hT hb3; obtain ⟨p3, c3, rfl, hE3, -⟩ := hF.formI; have HA : Veil _ := ⟨hE3⟩; clear hE3)
      | (go_at_call 10; (with_reducible refine (hcut.out _ hT).mono ?_); rintro e w2 ⟨v2, rfl, hF, hb2⟩; have hT := bc_then hT hb2; obtain ⟨p2, c2, rfl, hE2, -⟩ := hF.formI; have HT : Veil _ := ⟨hE2⟩; clear hE2)
      | (go_at_call 9; refine (shown12_any _ (HSm.out _ hT)).mono ?_; rintro e w1 ⟨rfl, hb1⟩; have hT := bc_then hT hb1))
    go_ret
    exact ⟨rfl, hT⟩
  · have HP3 : Veil _ := ⟨P3⟩
    have HBL : Veil _ := ⟨hBl⟩
    clear P3 hBl
    go_enter Tryd.func8, Tryd.ntmps8
    go_wp2_with (first
      | (go_at_call 21; (with_reducible refine (sameG_els B B rfl _ _ HB.out HC.out (by have := HBL.out; omega)).mono ?_); rintro e w6 ⟨rfl, hb6⟩; have hT := bc_then hT hb6)
      | (go_at_call 11; (with_reducible refine (HP3.out _ _ _ HT.out hT).mono ?_); rintro e w5 ⟨v5, rfl, hF, hb5⟩; have hT := bc_then hT hb5; have HB : Veil _ := ⟨HB.out.below hb5⟩; obtain ⟨p5, c5, rfl, hE5, -⟩ := hF.formI; have HC : Veil _ := ⟨hE5⟩; clear hE5)
      | (go_at_call 11; (with_reducible refine (P2.out _ _ _ HA.out hT).mono ?_); rintro e w4 ⟨v4, rfl, hF, hb4⟩; have hT := bc_then hT hb4; have HT : Veil _ := ⟨HT.out.below hb4⟩; obtain ⟨p4, c4, rfl, hE4, -⟩ := hF.formI; have HB : Veil _ := ⟨hE4⟩; clear hE4)
      | (go_at_call 11; (with_reducible refine (P1.out _ _ _ HT.out hT).mono ?_); rintro e w3 ⟨v3, rfl, hF, hb3⟩; have hT := bc_then hT hb3; have HT : Veil _ := ⟨HT.out.below hb3⟩; obtain ⟨p3, c3, rfl, hE3, -⟩ := hF.formI; have HA : Veil _ := ⟨hE3⟩; clear hE3)
      | (go_at_call 10; (with_reducible refine (hcut.out _ hT).mono ?_); rintro e w2 ⟨v2, rfl, hF, hb2⟩; have hT := bc_then hT hb2; obtain ⟨p2, c2, rfl, hE2, -⟩ := hF.formI; have HT : Veil _ := ⟨hE2⟩; clear hE2)
      | (go_at_call 9; refine (shown12_any _ (HSm.out _ hT)).mono ?_; rintro e w1 ⟨rfl, hb1⟩; have hT := bc_then hT hb1))
    go_ret
    exact ⟨rfl, hT⟩
end Go.Proofs.YtecalafjfbgbcaaDoor

/- The law on goods: GoodsKeep. -/
namespace Go.Proofs.YtecalafjfbgbcaaDoor
open Go Go.RowKit Sm
attribute [local go_sem] Oper.semAt_some

abbrev CountAt (f : FuncId) (L : List St) (i : Nat) (c : Int) : Prop := ∀ (p : Option Addr) (cp : Nat) (W : World), InL elS W p L cp → Calls Tryd.prog f #[.slice p L.length cp, .int .u16 i] W fun e w' => e = .returned (.int .i64 c) ∧ Below W.heap.size W w'
abbrev RightAt (f : FuncId) (L : List St) (b : Bool) : Prop := ∀ (p : Option Addr) (cp : Nat) (W : World), InL elS W p L cp → Calls Tryd.prog f #[.slice p L.length cp] W fun e w' => e = .returned (.bool b) ∧ Below W.heap.size W w'
theorem lastB {a b : Prop} (h : a ∧ b) : b := h.2
/-- What of a move is kept, in letters. -/
theorem move_facts (A B : List St) (s : St) (j : Nat) : (moveG A B s).2.2 ≠ 0 ∧ (moveG A B s).1 = [] ∧ (moveG A B s).2.1 = [] ∨ (moveG A B s).2.2 = 0 ∧ rightG (moveG A B s).1 = true ∧ rightG (moveG A B s).2.1 = true ∧ (1 ≤ s.n ∧ s.n ≤ 1152921504606846976) ∧ (0 ≤ countG (moveG A B s).1 s.item ∧ countG (moveG A B s).1 s.item ≤ 1152921504606846976) ∧ (0 ≤ countG (moveG A B s).2.1 s.item ∧ countG (moveG A B s).2.1 s.item ≤ 1152921504606846976) ∧ countG (moveG A B s).1 s.item + s.n = countG A s.item ∧ countG (moveG A B s).2.1 s.item - s.n = countG B s.item ∧ (j = s.item ∨ j ≠ s.item ∧ countG (moveG A B s).1 j = countG A j ∧ countG (moveG A B s).2.1 j = countG B j) := by
  by_cases h : (moveG A B s).2.2 = 0
  · obtain ⟨h1, h2, h3⟩ := moveG_ok A B s h
    have k1 := take_keeps A s h1
    have k2 := give_keeps B s h2
    obtain ⟨-, b1, -⟩ := takeG_ok A s h1
    have b2 := (amt1_iff s.n).1 b1
    rw [h3]
    dsimp only
    have r1 := (rightG_iff _).2 k1.ok
    have r2 := (rightG_iff _).2 k2.ok
    refine .inr ⟨rfl, r1, r2, b2, countG_le _ _ r1, countG_le _ _ r2, ?_, ?_, ?_⟩
    · rw [k1.cnt]; omega
    · rw [k2.cnt]; omega
    · by_cases hj : j = s.item
      · exact .inl hj
      · exact .inr ⟨hj, k1.oth j hj, k2.oth j hj⟩
  · obtain ⟨h1, h2⟩ := moveG_err A B s h
    exact .inl ⟨h, h1, h2⟩

set_option maxRecDepth 20000 in
set_option maxHeartbeats 4000000 in
theorem goodsKeep_any {w : World} {p q : Option Addr} (l l2 : List St) (lc lc2 : Nat) (s : St) (j : Nat) (hin : InL elS w p l lc) (hin2 : InL elS w q l2 lc2) (hgd : GdW l) (hgd2 : GdW l2) (hS : MSent w) (hsi : s.item < 65536) (hsn : I64 s.n) (hj : j < 65536) :
    Calls Tryd.prog 4 #[.slice p l.length lc, .slice q l2.length lc2, s.v, .int .u16 j] w fun e w' => e = .returned (.bool true) ∧ Below w.heap.size w w' := by
  have hcut : Veil (∀ W, Below w.heap.size w W → Calls Tryd.prog 10 #[.slice p l.length lc] W (FreshPost elS W (l.take 30))) := ⟨fun W hW => cutG12_any l lc ⟨hin.els.below hW, hin.spot, hin.nil0, hin.le, hin.cap⟩⟩
  have hcut2 : Veil (∀ W, Below w.heap.size w W → Calls Tryd.prog 10 #[.slice q l2.length lc2] W (FreshPost elS W (l2.take 30))) := ⟨fun W hW => cutG12_any l2 lc2 ⟨hin2.els.below hW, hin2.spot, hin2.nil0, hin2.le, hin2.cap⟩⟩
  have ht := take30 l
  have ht2 := take30 l2
  have hg := hgd.take 30
  have hg2 := hgd2.take 30
  have HSm : Veil (∀ W, Below w.heap.size w W → MSent W) := ⟨fun W hb => hS.below hb⟩
  generalize l.take 30 = A at hcut ht hg
  generalize l2.take 30 = B at hcut2 ht2 hg2
  have PM : Veil (∀ (p q : Option Addr) (ca cb : Nat) (W : World), InL elS W p A ca → InL elS W q B cb → Below w.heap.size w W → Calls Tryd.prog 15 #[.slice p A.length ca, .slice q B.length cb, s.v] W (GoodsPost2 W (moveG A B s).1 (moveG A B s).2.1 (moveG A B s).2.2)) := ⟨fun p q ca cb W h g hb => gdmove_any A B ca cb s h g (by omega) (by omega) hsi hsn hg hg2 (hS.below hb)⟩
  have F := move_facts A B s j
  have hX : (moveG A B s).1.length ≤ 20 ∧ (moveG A B s).2.1.length ≤ 20 := by
    by_cases h : (moveG A B s).2.2 = 0
    · obtain ⟨-, -, h3⟩ := moveG_ok A B s h
      rw [h3]; exact ⟨(sizes_ok A s).2, (sizes_ok B s).1⟩
    · obtain ⟨h1, h2⟩ := moveG_err A B s h
      rw [h1, h2]; exact ⟨Nat.zero_le _, Nat.zero_le _⟩
  obtain ⟨hX1, hY1⟩ := moveG_w hg hg2 hsi
  generalize moveG A B s = x1 at PM F hX hX1 hY1
  obtain ⟨X, Y, e0⟩ := x1
  dsimp only at PM F hX hX1 hY1
  clear hin hin2
  obtain ⟨si, sn⟩ := s
  unfold St.v at *
  dsimp only at *
  have RX : Veil (RightAt 17 X (rightG X)) := ⟨fun p cp W h => gdright_any X cp h (by omega) hX1⟩
  have RY : Veil (RightAt 17 Y (rightG Y)) := ⟨fun p cp W h => gdright_any Y cp h (by omega) hY1⟩
  have CX : Veil (CountAt 19 X si (countG X si)) := ⟨fun p cp W h => gdcount_any X cp si hsi h.els (by omega) hX1⟩
  have CY : Veil (CountAt 19 Y si (countG Y si)) := ⟨fun p cp W h => gdcount_any Y cp si hsi h.els (by omega) hY1⟩
  have CA : Veil (CountAt 19 A si (countG A si)) := ⟨fun p cp W h => gdcount_any A cp si hsi h.els (by omega) hg⟩
  have CB : Veil (CountAt 19 B si (countG B si)) := ⟨fun p cp W h => gdcount_any B cp si hsi h.els (by omega) hg2⟩
  have DX : Veil (CountAt 19 X j (countG X j)) := ⟨fun p cp W h => gdcount_any X cp j hj h.els (by omega) hX1⟩
  have DY : Veil (CountAt 19 Y j (countG Y j)) := ⟨fun p cp W h => gdcount_any Y cp j hj h.els (by omega) hY1⟩
  have DA : Veil (CountAt 19 A j (countG A j)) := ⟨fun p cp W h => gdcount_any A cp j hj h.els (by omega) hg⟩
  have DB : Veil (CountAt 19 B j (countG B j)) := ⟨fun p cp W h => gdcount_any B cp j hj h.els (by omega) hg2⟩
  have HS0 : Veil (StBox (w.alloc (.cells #[.int .u16 si, .int .i64 sn] 25)) w.heap.size si sn) := ⟨StBox.new _ _ _ _⟩
  have hT : Below w.heap.size w (w.alloc (.cells #[.int .u16 si, .int .i64 sn] 25)) := below_al (Below.refl _ _) _
  clear hX hsn hS hg hg2 hgd hgd2 hX1 hY1
  rcases F with ⟨F, rfl, rfl⟩ | ⟨rfl, hr1, hr2, ⟨n0, n1⟩, ⟨x0, x1⟩, ⟨y0, y1⟩, hc1, hc2, hoth⟩
  · have F1' : ¬ e0 = 0 := F
    clear F RX RY CX CY CA CB DX DY DA DB
    go_enter Tryd.func4, Tryd.ntmps4
    go_wp2_with (first
      | (go_at_call 15; (with_reducible refine (PM.out _ _ _ _ _ HA.out HB.out hT).mono ?_); rintro e w4 ⟨v4, u4, rfl, hF, hG, hb4⟩; have hT := bc_then hT hb4; obtain ⟨p4, c4, rfl, -⟩ := hF.formI; obtain ⟨q4, g4, rfl, -⟩ := hG.form)
      | (go_at_call 10; (with_reducible refine (hcut2.out _ hT).mono ?_); rintro e w3 ⟨v3, rfl, hF, hb3⟩; have hT := bc_then hT hb3; have HA : Veil _ := ⟨HA.out.below hb3⟩; have HS : Veil _ := ⟨HS.out.below hb3⟩; obtain ⟨d0, d1⟩ := HS.out; obtain ⟨p3, c3, rfl, hE3, -⟩ := hF.formI; have HB : Veil _ := ⟨hE3⟩; clear hE3)
      | (go_at_call 10; (with_reducible refine (hcut.out _ hT).mono ?_); rintro e w2 ⟨v2, rfl, hF, hb2⟩; have hT := bc_then hT hb2; have HS : Veil _ := ⟨HS.out.below hb2⟩; obtain ⟨d0, d1⟩ := HS.out; obtain ⟨p2, c2, rfl, hE2, -⟩ := hF.formI; have HA : Veil _ := ⟨hE2⟩; clear hE2)
      | (go_at_call 9; refine (shown12_any _ (HSm.out _ hT)).mono ?_; rintro e w1 ⟨rfl, hb1⟩; have hT := bc_then hT hb1; have HS : Veil _ := ⟨HS0.out.below hb1⟩; obtain ⟨d0, d1⟩ := HS.out))
    go_ret
    exact ⟨rfl, hT⟩
  · rw [hr1] at RX
    rw [hr2] at RY
    clear hr1 hr2
    generalize countG X si = cx at *
    generalize countG Y si = cy at *
    generalize countG A si = ca at *
    generalize countG B si = cb at *
    generalize countG X j = dx at *
    generalize countG Y j = dy at *
    generalize countG A j = da at *
    generalize countG B j = db at *
    have hw1 : IntKind.i64.wrap (cx + sn) = ca := by rw [IntKind.wrap_i64]; omega
    have hw2 : IntKind.i64.wrap (cy - sn) = cb := by rw [IntKind.wrap_i64]; omega
    have HO : Veil _ := ⟨hoth⟩
    clear hoth hc1 hc2 n0 n1 x0 x1 y0 y1
    go_enter Tryd.func4, Tryd.ntmps4
    go_wp2_with (first
      | (go_at_call 15; (with_reducible refine (PM.out _ _ _ _ _ HA.out HB.out hT).mono ?_); rintro e w4 ⟨v4, u4, rfl, hF, hG, hb4⟩; have hT := bc_then hT hb4; have HA : Veil _ := ⟨HA.out.below hb4⟩; have HB : Veil _ := ⟨HB.out.below hb4⟩; have HS : Veil _ := ⟨HS.out.below hb4⟩; obtain ⟨p4, c4, rfl, hE4, -⟩ := hF.formI; obtain ⟨q4, g4, rfl, hG4, -⟩ := hG.formI; have HX : Veil _ := ⟨hE4⟩; have HY : Veil _ := ⟨hG4⟩; clear hE4 hG4)
      | (go_at_call 10; (with_reducible refine (hcut2.out _ hT).mono ?_); rintro e w3 ⟨v3, rfl, hF, hb3⟩; have hT := bc_then hT hb3; have HA : Veil _ := ⟨HA.out.below hb3⟩; have HS : Veil _ := ⟨HS.out.below hb3⟩; obtain ⟨d0, d1⟩ := HS.out; obtain ⟨p3, c3, rfl, hE3, -⟩ := hF.formI; have HB : Veil _ := ⟨hE3⟩; clear hE3)
      | (go_at_call 10; (with_reducible refine (hcut.out _ hT).mono ?_); rintro e w2 ⟨v2, rfl, hF, hb2⟩; have hT := bc_then hT hb2; have HS : Veil _ := ⟨HS.out.below hb2⟩; obtain ⟨d0, d1⟩ := HS.out; obtain ⟨p2, c2, rfl, hE2, -⟩ := hF.formI; have HA : Veil _ := ⟨hE2⟩; clear hE2)
      | (go_at_call 9; refine (shown12_any _ (HSm.out _ hT)).mono ?_; rintro e w1 ⟨rfl, hb1⟩; have hT := bc_then hT hb1; have HS : Veil _ := ⟨HS0.out.below hb1⟩; obtain ⟨d0, d1⟩ := HS.out))
    have ST : Veil (∀ W, Below w4.heap.size w4 W → W.cell? ⟨w.heap.size, 0, none⟩ = some (.int .u16 si) ∧ W.cell? ⟨w.heap.size, 1, none⟩ = some (.int .i64 sn)) := ⟨fun W h => ⟨(HS.out.below h).i, (HS.out.below h).n⟩⟩
    have HT4 : Veil _ := ⟨hT⟩
    have hb0 : Below w4.heap.size w4 w4.drew := (Below.refl _ _).drew
    clear hT d0 d1 hb1 hb2 hb3 hb4 hF hG
    go_region_held3 (fun W => (W.cell? ⟨w.heap.size, 0, none⟩ = some (.int .u16 si) ∧ W.cell? ⟨w.heap.size, 1, none⟩ = some (.int .i64 sn)) ∧ Below w4.heap.size w4 W) (refine ⟨ST.out _ ?_, ?_⟩ <;> first | assumption | exact bc_then hb0 hb5 | exact bc_then (lastB (by assumption)) hb6 | exact bc_then (lastB (by assumption)) hb7 | exact bc_then (lastB (by assumption)) hb8 | exact bc_then (lastB (by assumption)) hb9 | exact bc_then (lastB (by assumption)) hb10) (first
      | (go_at_call 19; (with_reducible refine (CB.out _ _ _ (HB.out.below (lastB (by assumption)))).mono ?_); rintro e w10 ⟨rfl, hb10⟩)
      | (go_at_call 19; (with_reducible refine (CY.out _ _ _ (HY.out.below (lastB (by assumption)))).mono ?_); rintro e w9 ⟨rfl, hb9⟩)
      | (go_at_call 19; (with_reducible refine (CA.out _ _ _ (HA.out.below (lastB (by assumption)))).mono ?_); rintro e w8 ⟨rfl, hb8⟩)
      | (go_at_call 19; (with_reducible refine (CX.out _ _ _ (HX.out.below (lastB (by assumption)))).mono ?_); rintro e w7 ⟨rfl, hb7⟩)
      | (go_at_call 17; (with_reducible refine (RY.out _ _ _ (HY.out.below (lastB (by assumption)))).mono ?_); rintro e w6 ⟨rfl, hb6⟩)
      | (go_at_call 17; (with_reducible refine (RX.out _ _ _ (HX.out.below hb0)).mono ?_); rintro e w5 ⟨rfl, hb5⟩))
    have hf : Below w4.heap.size w4 w10 := lastB (by assumption)
    have HZ : Veil _ := ⟨hf⟩
    obtain ⟨d0, d1⟩ := ST.out _ hf
    have hT := bc_then HT4.out hf
    have HX9 : Veil _ := ⟨HX.out.below hf⟩
    have HA9 : Veil _ := ⟨HA.out.below hf⟩
    have HY9 : Veil _ := ⟨HY.out.below hf⟩
    have HB9 : Veil _ := ⟨HB.out.below hf⟩
    clear hb10 hf hb0
    rcases HO.out with hjj | ⟨hjj, rfl, rfl⟩
    · subst hjj
      go_wp2
      go_ret
      exact ⟨rfl, by assumption⟩
    · have hji : ¬ (j : Int) = si := by omega
      clear hjj HO
      go_wp2_with (first
        | (go_at_call 19; (with_reducible refine (DB.out _ _ _ HB9.out).mono ?_); rintro e w14 ⟨rfl, hb14⟩; have hT := bc_then hT hb14)
        | (go_at_call 19; (with_reducible refine (DY.out _ _ _ HY9.out).mono ?_); rintro e w13 ⟨rfl, hb13⟩; have hT := bc_then hT hb13; have HB9 : Veil _ := ⟨HB9.out.below hb13⟩)
        | (go_at_call 19; (with_reducible refine (DA.out _ _ _ HA9.out).mono ?_); rintro e w12 ⟨rfl, hb12⟩; have hT := bc_then hT hb12; have HY9 : Veil _ := ⟨HY9.out.below hb12⟩; have HB9 : Veil _ := ⟨HB9.out.below hb12⟩)
        | (go_at_call 19; (with_reducible refine (DX.out _ _ _ HX9.out).mono ?_); rintro e w11 ⟨rfl, hb11⟩; have hT := bc_then hT hb11; have HA9 : Veil _ := ⟨HA9.out.below hb11⟩; have HY9 : Veil _ := ⟨HY9.out.below hb11⟩; have HB9 : Veil _ := ⟨HB9.out.below hb11⟩))
      go_ret
      exact ⟨rfl, hT⟩
end Go.Proofs.YtecalafjfbgbcaaDoor

/- The law on goods: GoodsDo. -/
namespace Go.Proofs.YtecalafjfbgbcaaDoor
open Go Go.RowKit Sm
attribute [local go_sem] Oper.semAt_some

abbrev MoveAt (w0 : World) (f : FuncId) (A B : List St) (s : St) (X Y : List St) (c : Int) : Prop := ∀ (p q : Option Addr) (ca cb : Nat) (W : World), InL elS W p A ca → InL elS W q B cb → Below w0.heap.size w0 W → Calls Tryd.prog f #[.slice p A.length ca, .slice q B.length cb, s.v] W (GoodsPost2 W X Y c)
theorem moveG_len (A B : List St) (s : St) : (moveG A B s).1.length ≤ 20 ∧ (moveG A B s).2.1.length ≤ 20 := by
  by_cases h : (moveG A B s).2.2 = 0
  · obtain ⟨-, -, h3⟩ := moveG_ok A B s h
    rw [h3]; exact ⟨(sizes_ok A s).2, (sizes_ok B s).1⟩
  · obtain ⟨h1, h2⟩ := moveG_err A B s h
    rw [h1, h2]; exact ⟨Nat.zero_le _, Nat.zero_le _⟩

set_option maxRecDepth 20000 in
set_option maxHeartbeats 4000000 in
theorem goodsDo_any {w : World} {p q : Option Addr} (l l2 : List St) (lc lc2 : Nat) (s : St) (hin : InL elS w p l lc) (hin2 : InL elS w q l2 lc2) (hgd : GdW l) (hgd2 : GdW l2) (hS : MSent w) (hsi : s.item < 65536) (hsn : I64 s.n) :
    Calls Tryd.prog 3 #[.slice p l.length lc, .slice q l2.length lc2, s.v] w fun e w' => e = .returned (.bool true) ∧ Below w.heap.size w w' := by
  have hcut : Veil (∀ W, Below w.heap.size w W → Calls Tryd.prog 10 #[.slice p l.length lc] W (FreshPost elS W (l.take 30))) := ⟨fun W hW => cutG12_any l lc ⟨hin.els.below hW, hin.spot, hin.nil0, hin.le, hin.cap⟩⟩
  have hcut2 : Veil (∀ W, Below w.heap.size w W → Calls Tryd.prog 10 #[.slice q l2.length lc2] W (FreshPost elS W (l2.take 30))) := ⟨fun W hW => cutG12_any l2 lc2 ⟨hin2.els.below hW, hin2.spot, hin2.nil0, hin2.le, hin2.cap⟩⟩
  have ht := take30 l
  have ht2 := take30 l2
  have hg := hgd.take 30
  have hg2 := hgd2.take 30
  have HSm : Veil (∀ W, Below w.heap.size w W → MSent W) := ⟨fun W hb => hS.below hb⟩
  generalize l.take 30 = A at hcut ht hg
  generalize l2.take 30 = B at hcut2 ht2 hg2
  have PG : Veil (GiveAt w 11 A s (giveG A s).1 (giveG A s).2) := ⟨fun p cp W h hb => gdgive_any A cp s h (by omega) hsi hsn hg (hS.below hb)⟩
  have RG : Veil (GiveAt w 12 A s (giveG A s).1 (giveG A s).2) := ⟨fun p cp W h _ => refgiveG_any A cp s h.els (by omega) hsn⟩
  have PT : Veil (GiveAt w 13 A s (takeG A s).1 (takeG A s).2) := ⟨fun p cp W h hb => gdtake_any A cp s h (by omega) hsi hsn hg (hS.below hb)⟩
  have RT : Veil (GiveAt w 14 A s (takeG A s).1 (takeG A s).2) := ⟨fun p cp W h _ => reftakeG_any A cp s h.els (by omega) hsn⟩
  have PM : Veil (MoveAt w 15 A B s (moveG A B s).1 (moveG A B s).2.1 (moveG A B s).2.2) := ⟨fun p q ca cb W h g hb => gdmove_any A B ca cb s h g (by omega) (by omega) hsi hsn hg hg2 (hS.below hb)⟩
  have RM : Veil (MoveAt w 16 A B s (moveG A B s).1 (moveG A B s).2.1 (moveG A B s).2.2) := ⟨fun p q ca cb W h g _ => refmoveG_any A B ca cb s h.els g.els (by omega) (by omega) hsn⟩
  have PR : Veil (RightAt 17 A (rightG A)) := ⟨fun p cp W h => gdright_any A cp h (by omega) hg⟩
  have RR : Veil (RightAt 18 A (rightG A)) := ⟨fun p cp W h => refrightG_any A cp h.els (by omega)⟩
  have PC : Veil (CountAt 19 A s.item (countG A s.item)) := ⟨fun p cp W h => gdcount_any A cp s.item hsi h.els (by omega) hg⟩
  have RC : Veil (CountAt 20 A s.item (countG A s.item)) := ⟨fun p cp W h => refcountG_any A cp s.item h.els (by omega)⟩
  have HL : Veil ((giveG A s).1.length ≤ 20 ∧ (takeG A s).1.length ≤ 20 ∧ (moveG A B s).1.length ≤ 20 ∧ (moveG A B s).2.1.length ≤ 20) := ⟨(sizes_ok A s).1, (sizes_ok A s).2, moveG_len A B s⟩
  generalize giveG A s = x1 at PG RG HL
  generalize takeG A s = x2 at PT RT HL
  generalize moveG A B s = x3 at PM RM HL
  generalize rightG A = x4 at PR RR
  obtain ⟨G, e1⟩ := x1
  obtain ⟨T, e2⟩ := x2
  obtain ⟨X, Y, e3⟩ := x3
  clear hin hin2 hsi hsn hS hg hg2 hgd hgd2
  obtain ⟨si, sn⟩ := s
  unfold GiveAt MoveAt at *
  unfold St.v at *
  dsimp only at *
  generalize countG A si = x5 at PC RC
  have HS : Veil (StBox (w.alloc (.cells #[.int .u16 si, .int .i64 sn] 25)) w.heap.size si sn) := ⟨StBox.new _ _ _ _⟩
  have hT : Below w.heap.size w (w.alloc (.cells #[.int .u16 si, .int .i64 sn] 25)) := below_al (Below.refl _ _) _
  go_enter Tryd.func3, Tryd.ntmps3
  go_wp2_with (first
    | (go_at_call 16; (with_reducible refine (RM.out _ _ _ _ _ HA.out HB.out hT).mono ?_); rintro e w9x ⟨v9k, v9l, rfl, hF9k, hF9l, hb9⟩; have hT := bc_then hT hb9; have HS : Veil _ := ⟨HS.out.below hb9⟩; obtain ⟨d0, d1⟩ := HS.out; have HA : Veil _ := ⟨HA.out.below hb9⟩; have HB : Veil _ := ⟨HB.out.below hb9⟩; have HG : Veil _ := ⟨HG.out.below hb9⟩; have HG2 : Veil _ := ⟨HG2.out.below hb9⟩; have HTk : Veil _ := ⟨HTk.out.below hb9⟩; have HTk2 : Veil _ := ⟨HTk2.out.below hb9⟩; have HX : Veil _ := ⟨HX.out.below hb9⟩; have HY : Veil _ := ⟨HY.out.below hb9⟩; obtain ⟨p9k, c9k, rfl, hE9k, -⟩ := hF9k.formI; have HX2 : Veil _ := ⟨hE9k⟩; clear hE9k hF9k; obtain ⟨p9l, c9l, rfl, hE9l, -⟩ := hF9l.formI; have HY2 : Veil _ := ⟨hE9l⟩; clear hE9l hF9l)
    | (go_at_call 15; (with_reducible refine (PM.out _ _ _ _ _ HA.out HB.out hT).mono ?_); rintro e w8x ⟨v8x, v8y, rfl, hF8x, hF8y, hb8⟩; have hT := bc_then hT hb8; have HS : Veil _ := ⟨HS.out.below hb8⟩; obtain ⟨d0, d1⟩ := HS.out; have HA : Veil _ := ⟨HA.out.below hb8⟩; have HB : Veil _ := ⟨HB.out.below hb8⟩; have HG : Veil _ := ⟨HG.out.below hb8⟩; have HG2 : Veil _ := ⟨HG2.out.below hb8⟩; have HTk : Veil _ := ⟨HTk.out.below hb8⟩; have HTk2 : Veil _ := ⟨HTk2.out.below hb8⟩; obtain ⟨p8x, c8x, rfl, hE8x, -⟩ := hF8x.formI; have HX : Veil _ := ⟨hE8x⟩; clear hE8x hF8x; obtain ⟨p8y, c8y, rfl, hE8y, -⟩ := hF8y.formI; have HY : Veil _ := ⟨hE8y⟩; clear hE8y hF8y)
    | (go_at_call 14; (with_reducible refine (RT.out _ _ _ HA.out hT).mono ?_); rintro e w7x ⟨v7u, rfl, hF7u, hb7⟩; have hT := bc_then hT hb7; have HS : Veil _ := ⟨HS.out.below hb7⟩; obtain ⟨d0, d1⟩ := HS.out; have HA : Veil _ := ⟨HA.out.below hb7⟩; have HB : Veil _ := ⟨HB.out.below hb7⟩; have HG : Veil _ := ⟨HG.out.below hb7⟩; have HG2 : Veil _ := ⟨HG2.out.below hb7⟩; have HTk : Veil _ := ⟨HTk.out.below hb7⟩; obtain ⟨p7u, c7u, rfl, hE7u, -⟩ := hF7u.formI; have HTk2 : Veil _ := ⟨hE7u⟩; clear hE7u hF7u)
    | (go_at_call 13; (with_reducible refine (PT.out _ _ _ HA.out hT).mono ?_); rintro e w6x ⟨v6t, rfl, hF6t, hb6⟩; have hT := bc_then hT hb6; have HS : Veil _ := ⟨HS.out.below hb6⟩; obtain ⟨d0, d1⟩ := HS.out; have HA : Veil _ := ⟨HA.out.below hb6⟩; have HB : Veil _ := ⟨HB.out.below hb6⟩; have HG : Veil _ := ⟨HG.out.below hb6⟩; have HG2 : Veil _ := ⟨HG2.out.below hb6⟩; obtain ⟨p6t, c6t, rfl, hE6t, -⟩ := hF6t.formI; have HTk : Veil _ := ⟨hE6t⟩; clear hE6t hF6t)
    | (go_at_call 12; (with_reducible refine (RG.out _ _ _ HA.out hT).mono ?_); rintro e w5x ⟨v5h, rfl, hF5h, hb5⟩; have hT := bc_then hT hb5; have HS : Veil _ := ⟨HS.out.below hb5⟩; obtain ⟨d0, d1⟩ := HS.out; have HA : Veil _ := ⟨HA.out.below hb5⟩; have HB : Veil _ := ⟨HB.out.below hb5⟩; have HG : Veil _ := ⟨HG.out.below hb5⟩; obtain ⟨p5h, c5h, rfl, hE5h, -⟩ := hF5h.formI; have HG2 : Veil _ := ⟨hE5h⟩; clear hE5h hF5h)
    | (go_at_call 11; (with_reducible refine (PG.out _ _ _ HA.out hT).mono ?_); rintro e w4x ⟨v4g, rfl, hF4g, hb4⟩; have hT := bc_then hT hb4; have HS : Veil _ := ⟨HS.out.below hb4⟩; obtain ⟨d0, d1⟩ := HS.out; have HA : Veil _ := ⟨HA.out.below hb4⟩; have HB : Veil _ := ⟨HB.out.below hb4⟩; obtain ⟨p4g, c4g, rfl, hE4g, -⟩ := hF4g.formI; have HG : Veil _ := ⟨hE4g⟩; clear hE4g hF4g)
    | (go_at_call 10; (with_reducible refine (hcut2.out _ hT).mono ?_); rintro e w3x ⟨v3b, rfl, hF3b, hb3⟩; have hT := bc_then hT hb3; have HS : Veil _ := ⟨HS.out.below hb3⟩; obtain ⟨d0, d1⟩ := HS.out; have HA : Veil _ := ⟨HA.out.below hb3⟩; obtain ⟨p3b, c3b, rfl, hE3b, -⟩ := hF3b.formI; have HB : Veil _ := ⟨hE3b⟩; clear hE3b hF3b)
    | (go_at_call 10; (with_reducible refine (hcut.out _ hT).mono ?_); rintro e w2x ⟨v2a, rfl, hF2a, hb2⟩; have hT := bc_then hT hb2; have HS : Veil _ := ⟨HS.out.below hb2⟩; obtain ⟨d0, d1⟩ := HS.out; obtain ⟨p2a, c2a, rfl, hE2a, -⟩ := hF2a.formI; have HA : Veil _ := ⟨hE2a⟩; clear hE2a hF2a)
    | (go_at_call 9; (with_reducible refine (shown12_any _ (HSm.out _ hT)).mono ?_); rintro e w1x ⟨rfl, hb1⟩; have hT := bc_then hT hb1; have HS : Veil _ := ⟨HS.out.below hb1⟩; obtain ⟨d0, d1⟩ := HS.out))
  have ST : Veil (∀ W, Below w9x.heap.size w9x W → W.cell? ⟨w.heap.size, 0, none⟩ = some (.int .u16 si) ∧ W.cell? ⟨w.heap.size, 1, none⟩ = some (.int .i64 sn)) := ⟨fun W h => ⟨(HS.out.below h).i, (HS.out.below h).n⟩⟩
  have HT9 : Veil _ := ⟨hT⟩
  have hb0 : Below w9x.heap.size w9x w9x.drew := (Below.refl _ _).drew
  clear hT d0 d1 hb1 hb2 hb3 hb4 hb5 hb6 hb7 hb8 hb9
  go_region_held3 (fun W => (W.cell? ⟨w.heap.size, 0, none⟩ = some (.int .u16 si) ∧ W.cell? ⟨w.heap.size, 1, none⟩ = some (.int .i64 sn)) ∧ Below w9x.heap.size w9x W) (refine ⟨ST.out _ ?_, ?_⟩ <;> first | assumption | exact bc_then hb0 hr1 | exact bc_then (lastB (by assumption)) hr2 | exact bc_then (lastB (by assumption)) hr3 | exact bc_then (lastB (by assumption)) hr4 | exact bc_then (lastB (by assumption)) hr5 | exact bc_then (lastB (by assumption)) hr6 | exact bc_then (lastB (by assumption)) hr7 | exact bc_then (lastB (by assumption)) hr8) (first
    | (go_at_call 21; (with_reducible refine (sameG_els Y Y rfl _ _ (HY.out.below (lastB (by assumption))) (HY2.out.below (lastB (by assumption))) (by have := HL.out; omega)).mono ?_); rintro e r8 ⟨rfl, hr8⟩)
    | (go_at_call 21; (with_reducible refine (sameG_els X X rfl _ _ (HX.out.below (lastB (by assumption))) (HX2.out.below (lastB (by assumption))) (by have := HL.out; omega)).mono ?_); rintro e r7 ⟨rfl, hr7⟩)
    | (go_at_call 21; (with_reducible refine (sameG_els T T rfl _ _ (HTk.out.below (lastB (by assumption))) (HTk2.out.below (lastB (by assumption))) (by have := HL.out; omega)).mono ?_); rintro e r6 ⟨rfl, hr6⟩)
    | (go_at_call 21; (with_reducible refine (sameG_els G G rfl _ _ (HG.out.below (lastB (by assumption))) (HG2.out.below (lastB (by assumption))) (by have := HL.out; omega)).mono ?_); rintro e r5 ⟨rfl, hr5⟩)
    | (go_at_call 20; (with_reducible refine (RC.out _ _ _ (HA.out.below (lastB (by assumption)))).mono ?_); rintro e r4 ⟨rfl, hr4⟩)
    | (go_at_call 19; (with_reducible refine (PC.out _ _ _ (HA.out.below (lastB (by assumption)))).mono ?_); rintro e r3 ⟨rfl, hr3⟩)
    | (go_at_call 18; (with_reducible refine (RR.out _ _ _ (HA.out.below (lastB (by assumption)))).mono ?_); rintro e r2 ⟨rfl, hr2⟩)
    | (go_at_call 17; (with_reducible refine (PR.out _ _ _ (HA.out.below hb0)).mono ?_); rintro e r1 ⟨rfl, hr1⟩))
  all_goals
    have hf : Below w9x.heap.size w9x r8 := lastB (by assumption)
    have HF : Veil (Below w.heap.size w r8) := ⟨bc_then HT9.out hf⟩
    clear hf hr8
    go_wp2
    go_ret
    exact ⟨rfl, HF.out⟩
end Go.Proofs.YtecalafjfbgbcaaDoor

/- The law on goods: GoodsOwn. -/
namespace Go.Proofs.YtecalafjfbgbcaaDoor
open Go Go.RowKit Sm
attribute [local go_sem] Oper.semAt_some

/-- Where counts are written into. -/
def WrS (w : World) (B : Nat) (p : Option Addr) (n : Nat) : Prop := n = 0 ∨ ∃ b o, p = some ⟨b, o, none⟩ ∧ B ≤ b ∧ ∀ j, j < n → (∃ v, w.cell? ⟨b, o + j * 2 + 1, none⟩ = some v) ∧ w.frozen? ⟨b, o + j * 2 + 1, none⟩ = false
def inS (p : Option Addr) : Nat → Prop := fun j => ∃ a, p = some a ∧ a.block = j
theorem FreshE.wr {B : Nat} {w : World} {L : List St} {p : Option Addr} {c : Nat} (h : FreshE elS B w (.slice p L.length c) L) : WrS w B p L.length := by
  obtain ⟨p', c', hv, hE, -, hb, hf⟩ := h
  simp only [Value.slice.injEq, true_and] at hv
  obtain ⟨rfl, -⟩ := hv
  by_cases hne : L = []
  · subst hne; exact .inl rfl
  · obtain ⟨b, o, rfl, hc⟩ := hE hne
    refine .inr ⟨b, o, rfl, (hb hne _ rfl).1, fun j hj => ⟨?_, ?_⟩⟩
    · exact ⟨_, hc j 1 hj (by decide)⟩
    · rw [Nat.add_assoc]
      exact hf b o rfl (j * 2 + 1) (by show j * 2 + 1 < L.length * 2; omega)
theorem WrS.set {w : World} {B n : Nat} {p : Option Addr} (h : WrS w B p n) (q : Addr) (v : Value) : WrS (w.setCell q v) B p n := by
  rcases h with h | ⟨b, o, hp, hB, hc⟩
  · exact .inl h
  · refine .inr ⟨b, o, hp, hB, fun j hj => ⟨?_, ?_⟩⟩
    · obtain ⟨x, hx⟩ := (hc j hj).1
      exact cell?_setCell_some hx
    · rw [World.frozen?_setCell]; exact (hc j hj).2
theorem Els.past {α : Type} {E : El α} {F : Nat → Prop} {w0 w w' : World} {p : Option Addr} {L : List α} (h0 : Els E w0 p L) (h : Els E w p L) (ht : Turned F w w') (hF : ∀ k, F k → w0.heap.size ≤ k) : Els E w' p L := fun hne => by
  refine (h.turned ht fun x hx hf => ?_) hne
  obtain ⟨b, o, rfl, hc⟩ := h0 hne
  cases hx
  have hz := E.pos
  have hlt : 0 < L.length := List.length_pos_iff.2 hne
  have := hc 0 0 hlt hz
  have h2 : 0 < (E.enc (L.getD 0 E.d)).length := by rw [E.len]; exact hz
  rw [List.getElem?_eq_getElem h2] at this
  have hb := World.block_lt_of_cell? w0 ⟨b, o + 0 * E.z + 0, none⟩ this
  have := hF _ hf
  dsimp only at this hb
  omega
theorem InL.past {α : Type} {E : El α} {F : Nat → Prop} {w0 w w' : World} {p : Option Addr} {L : List α} {c : Nat} (h0 : InL E w0 p L c) (h : InL E w p L c) (ht : Turned F w w') (hF : ∀ k, F k → w0.heap.size ≤ k) : InL E w' p L c := ⟨h0.els.past h.els ht hF, h.spot, h.nil0, h.le, h.cap⟩
theorem StBox.past {F : Nat → Prop} {w w' : World} {b : Nat} {i n : Int} (h : StBox w b i n) (ht : Turned F w w') (hF : ¬ F b) : StBox w' b i n :=
  ⟨ht.cell h.i hF, ht.cell h.n hF⟩

set_option maxRecDepth 20000 in
set_option maxHeartbeats 4000000 in
theorem goodsOwn_any {w : World} {p : Option Addr} (l : List St) (lc : Nat) (s : St) (hin : InL elS w p l lc) (hgd : GdW l) (hS : MSent w) (hsi : s.item < 65536) (hsn : I64 s.n) :
    Calls Tryd.prog 6 #[.slice p l.length lc, s.v] w fun e w' => e = .returned (.bool true) ∧ Below w.heap.size w w' := by
  have hcut : Veil (∀ W, Below w.heap.size w W → Calls Tryd.prog 10 #[.slice p l.length lc] W fun e w' => ∃ g, e = .returned (.slice (some ⟨g, 0, none⟩) (l.take 30).length 30) ∧ FreshE elS W.heap.size w' (.slice (some ⟨g, 0, none⟩) (l.take 30).length 30) (l.take 30) ∧ Below W.heap.size W w') := ⟨fun W hW => cutG12_own l lc ⟨hin.els.below hW, hin.spot, hin.nil0, hin.le, hin.cap⟩⟩
  have ht := take30 l
  have hg := hgd.take 30
  have HSm : Veil (∀ W, Below w.heap.size w W → MSent W) := ⟨fun W hb => hS.below hb⟩
  generalize l.take 30 = T at hcut ht hg
  have hcut2 : Veil (∀ (g : Nat) (W : World), InL elS W (some ⟨g, 0, none⟩) T 30 → Calls Tryd.prog 10 #[.slice (some ⟨g, 0, none⟩) T.length 30] W (FreshPost elS W T)) := ⟨fun g W h => by
    have := cutG12_any T 30 h
    rwa [List.take_of_length_le ht] at this⟩
  have PG : Veil (GiveAt w 11 T s (giveG T s).1 (giveG T s).2) := ⟨fun p cp W h hb => gdgive_any T cp s h (by omega) hsi hsn hg (hS.below hb)⟩
  have PT : Veil (GiveAt w 13 T s (takeG T s).1 (takeG T s).2) := ⟨fun p cp W h hb => gdtake_any T cp s h (by omega) hsi hsn hg (hS.below hb)⟩
  have hG := (sizes_ok T s).1
  have hTk := (sizes_ok T s).2
  generalize giveG T s = x1 at PG hG
  generalize takeG T s = x2 at PT hTk
  obtain ⟨G, e1⟩ := x1
  obtain ⟨K, e2⟩ := x2
  clear hin hsi hsn hS hg hgd
  obtain ⟨si, sn⟩ := s
  unfold GiveAt at *
  unfold St.v at *
  dsimp only at *
  have HTL : Veil _ := ⟨ht⟩
  have HS : Veil (StBox (w.alloc (.cells #[.int .u16 si, .int .i64 sn] 25)) w.heap.size si sn) := ⟨StBox.new _ _ _ _⟩
  have hT : Below w.heap.size w (w.alloc (.cells #[.int .u16 si, .int .i64 sn] 25)) := below_al (Below.refl _ _) _
  clear ht
  go_enter Tryd.func6, Tryd.ntmps6
  go_wp2_with (first
    | (go_at_call 11; (with_reducible refine (PG.out _ _ _ HA.out hT).mono ?_); rintro e w4 ⟨v4, rfl, hF, hb4⟩; have hT4 := bc_then hT hb4; have HA4 : Veil _ := ⟨HA.out.below hb4⟩; have HW4 : Veil _ := ⟨HWs.out.below hb4⟩; have HS4 : Veil _ := ⟨HS.out.below hb4⟩; obtain ⟨d0, d1⟩ := HS4.out; obtain ⟨p4, c4, rfl, -⟩ := hF.formI; have HF4 : Veil _ := ⟨hF.wr⟩)
    | (go_at_call 10; (with_reducible refine (hcut2.out _ _ HA.out).mono ?_); rintro e w3 ⟨v3, rfl, hF, hb3⟩; have hT := bc_then hT hb3; have HA : Veil _ := ⟨HA.out.below hb3⟩; have HS : Veil _ := ⟨HS.out.below hb3⟩; obtain ⟨d0, d1⟩ := HS.out; obtain ⟨p3, c3, rfl, hE3, -⟩ := hF.formI; have HWs : Veil _ := ⟨hE3⟩; have hT3 := hT; clear hE3)
    | (go_at_call 10; (with_reducible refine (hcut.out _ hT).mono ?_); rintro e w2 ⟨g2, rfl, hF, hb2⟩; have hT := bc_then hT hb2; have HS : Veil _ := ⟨HS.out.below hb2⟩; obtain ⟨d0, d1⟩ := HS.out; have hE2 : InL elS w2 (some ⟨g2, 0, none⟩) T 30 := (by obtain ⟨q, c, hv, hE, -⟩ := hF.formI; simp only [Value.slice.injEq, true_and] at hv; obtain ⟨rfl, rfl⟩ := hv; exact hE); have HA : Veil _ := ⟨hE2⟩; clear hE2)
    | (go_at_call 9; refine (shown12_any _ (HSm.out _ hT)).mono ?_; rintro e w1 ⟨rfl, hb1⟩; have hT := bc_then hT hb1; have HS : Veil _ := ⟨HS.out.below hb1⟩; obtain ⟨d0, d1⟩ := HS.out))
  have H4 : Veil (Below w.heap.size w w4 ∧ w.heap.size < w3.heap.size ∧ w3.heap.size ≤ w4.heap.size) := ⟨hT4, World.block_lt_of_cell? _ _ HS.out.i, hb4.size⟩
  clear hT hT3 hT4 hF hb1 hb2 hb3 hb4 d0 d1
  go_loopw [9] (fun i wr => ∃ k : Nat, k ≤ G.length ∧ i = .int .i64 k ∧ Veil (WrS wr w3.heap.size p4 G.length ∧ Turned (fun j => w3.heap.size ≤ j) w4 wr)) (fun i _ => G.length - (intOf i).toNat)
  case atStart => exact ⟨0, Nat.zero_le _, rfl, ⟨HF4.out, Turned.refl _ _⟩⟩
  case round =>
    obtain ⟨k, hk, rfl, hJ⟩ := hrel
    by_cases hlt : k < G.length
    · obtain ⟨hW, hTu⟩ := hJ.out
      have HW' : Veil _ := ⟨hW⟩
      have HTu : Veil _ := ⟨hTu⟩
      rcases hW with h0 | ⟨b, o, rfl, hB, hc⟩
      · omega
      · obtain ⟨⟨x, hx⟩, hfz⟩ := hc k hlt
        have HB : Veil _ := ⟨hB⟩
        clear hB hc hTu hJ
        go_wp2
        refine ⟨⟨k + 1, by omega, by go_num, ⟨HW'.out.set _ _, HTu.out.setCell (p := ⟨b, o + k * 2 + 1, none⟩) HB.out _⟩⟩, ?_⟩
        simp only [intOf]; omega
    · obtain rfl : k = G.length := by omega
      obtain ⟨-, hTu⟩ := hJ.out
      have HA5 : Veil _ := ⟨HA.out.past HA4.out hTu (fun _ h => h)⟩
      have HW5 : Veil _ := ⟨HWs.out.past HW4.out hTu (fun _ h => h)⟩
      have HS5 : Veil _ := ⟨HS4.out.past hTu (by have := H4.out; omega)⟩
      have H5 : Veil (Below w.heap.size w wr) := ⟨H4.out.1.trans (hTu.toBelow H4.out.1.size (fun k hk h => by have := H4.out; omega))⟩
      obtain ⟨d0, d1⟩ := HS5.out
      clear hJ hTu
      go_wp2_with (go_at_call 13; (with_reducible refine (PT.out _ _ _ HA5.out H5.out).mono ?_); rintro e w6 ⟨v6, rfl, hF, hb6⟩; have HA6 : Veil _ := ⟨HA5.out.below hb6⟩; have HW6 : Veil _ := ⟨HW5.out.below hb6⟩; obtain ⟨p6, c6, rfl, -⟩ := hF.formI; have HF6 : Veil _ := ⟨hF.wr⟩; have H6 : Veil (Below w.heap.size w w6 ∧ w.heap.size ≤ wr.heap.size) := ⟨bc_then H5.out hb6, H5.out.size⟩)
      clear hF hb6 d0 d1
      go_loopw [12] (fun i wq => ∃ k : Nat, k ≤ K.length ∧ i = .int .i64 k ∧ Veil (WrS wq wr.heap.size p6 K.length ∧ Turned (fun j => wr.heap.size ≤ j) w6 wq)) (fun i _ => K.length - (intOf i).toNat)
      case atStart => exact ⟨0, Nat.zero_le _, rfl, ⟨HF6.out, Turned.refl _ _⟩⟩
      case round =>
        obtain ⟨k, hk, rfl, hJ⟩ := hrel
        by_cases hlt : k < K.length
        · obtain ⟨hW, hTu⟩ := hJ.out
          have HW' : Veil _ := ⟨hW⟩
          have HTu : Veil _ := ⟨hTu⟩
          rcases hW with h0 | ⟨b, o, rfl, hB, hc⟩
          · omega
          · obtain ⟨⟨x, hx⟩, hfz⟩ := hc k hlt
            have HB : Veil _ := ⟨hB⟩
            clear hB hc hTu hJ
            go_wp2
            refine ⟨⟨k + 1, by omega, by go_num, ⟨HW'.out.set _ _, HTu.out.setCell (p := ⟨b, o + k * 2 + 1, none⟩) HB.out _⟩⟩, ?_⟩
            simp only [intOf]; omega
        · obtain rfl : k = K.length := by omega
          obtain ⟨-, hTu⟩ := hJ.out
          have HA7 : Veil _ := ⟨HA5.out.past HA6.out hTu (fun _ h => h)⟩
          have HW7 : Veil _ := ⟨HW5.out.past HW6.out hTu (fun _ h => h)⟩
          have H7 : Veil _ := ⟨H6.out.1.trans (hTu.toBelow H6.out.1.size (fun k hk h => by have := H6.out.2; omega))⟩
          clear hJ hTu
          go_wp2_with (go_at_call 21; (with_reducible refine (sameG_els T T rfl _ _ HA7.out HW7.out (by have := HTL.out; omega)).mono ?_); rintro e w8 ⟨rfl, hb8⟩)
          go_ret
          exact ⟨rfl, bc_then H7.out hb8⟩
end Go.Proofs.YtecalafjfbgbcaaDoor
