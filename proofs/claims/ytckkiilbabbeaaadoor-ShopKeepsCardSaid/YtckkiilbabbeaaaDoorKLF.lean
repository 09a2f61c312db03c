/- The laws on the shop: ShopKeeps. -/
import Derived.Test.YtckkiilbabbeaaaDoorKLD
import Derived.Test.YtckkiilbabbeaaaDoorKI81
namespace Go.Proofs.YtckkiilbabbeaaaDoor
open Go Go.RowKit Sm
attribute [local go_sem] Oper.semAt_some

abbrev CountL (f : FuncId) (L : List St) (i : Nat) (c : Int) : Prop := ∀ (p : Option Addr) (cp : Nat) (W : World), Els elS W p L → Calls Tryd.prog f #[.slice p L.length cp, .int .u16 i] W fun e w' => e = .returned (.int .i64 c) ∧ Below W.heap.size W w'
theorem buy_keeps (a b : Ac) (L : List St) (x : Li) (h : (buyS a b L x).2.2.2 = 0) :
    buyS a b L x = (⟨a.w - x.price, a.b⟩, ⟨b.w + x.price, b.b⟩, (giveG L x.st).1, 0) ∧ countG (giveG L x.st).1 x.item = countG L x.item + x.n ∧ (0 ≤ a.w ∧ a.w ≤ 1152921504606846976) ∧ (0 ≤ b.w ∧ b.w ≤ 1152921504606846976) ∧ (0 ≤ x.price ∧ x.price ≤ 1152921504606846976) ∧ (0 ≤ countG L x.item ∧ countG L x.item ≤ 1152921504606846976) ∧ (0 ≤ x.n ∧ x.n ≤ 1152921504606846976) := by
  obtain ⟨h1, h2, h3, h4⟩ := buyS_ok a b L x h
  obtain ⟨-, hn, hp, -⟩ := (rightLi_iff x).1 h1
  obtain ⟨k1, k2, -⟩ := payA_ok a b x.price h3
  obtain ⟨r1, -⟩ := spendA_ok a x.price k1
  obtain ⟨r2, -⟩ := earnA_ok b x.price k2
  have ra := (amt_iff _).1 ((rightA_iff _).1 r1).1
  have rb := (amt_iff _).1 ((rightA_iff _).1 r2).1
  obtain ⟨g1, -, -, -, g5⟩ := giveG_ok L x.st h2
  have hc := count_nn L x.item ((rightG_iff L).1 g1)
  have hk := give_keeps L x.st h2
  exact ⟨h4, hk.cnt, ra, rb, hp, hc, hn⟩
set_option maxRecDepth 20000 in
set_option maxHeartbeats 8000000 in
theorem shopKeeps_any {w : World} {p : Option Addr} (a b : Ac) (ha : a.Ok) (hb : b.Ok) (l : List St) (lc : Nat) (hin : InL elS w p l lc) (x : Li) (hx : x.Ok) (hgd : GdW l) (hS : MSent w) :
    Calls Tryd.prog 6 #[a.v, b.v, .slice p l.length lc, x.v] w fun e w' => e = .returned (.bool true) ∧ Below w.heap.size w w' := by
  have hcut : Veil (∀ W, Below w.heap.size w W → Calls Tryd.prog 16 #[.slice p l.length lc] W (FreshPost elS W (l.take 30))) := ⟨fun W hW => cutG15_any l lc ⟨hin.els.below hW, hin.spot, hin.nil0, hin.le, hin.cap⟩⟩
  have hl30 := take30 l
  have hgL := hgd.take 30
  generalize l.take 30 = L at hcut hl30 hgL
  have HSm : Veil (∀ W, Below w.heap.size w W → MSent W) := ⟨fun W hb => hS.below hb⟩
  have PB : Veil (BuyAtP w 21 a b L x (buyS a b L x).1 (buyS a b L x).2.1 (buyS a b L x).2.2.1 (buyS a b L x).2.2.2) := ⟨fun p lc W hb' h => shbuy_any a b ha hb L lc x hx h (by omega) hgL (hS.below hb')⟩
  have F : (buyS a b L x).2.2.2 ≠ 0 ∧ buyS a b L x = (Ac.zero, Ac.zero, [], (buyS a b L x).2.2.2) ∨ (buyS a b L x).2.2.2 = 0 := by
    by_cases h : (buyS a b L x).2.2.2 = 0
    · exact .inr h
    · exact .inl ⟨h, buyS_fails a b L x h⟩
  have HBy : Veil _ := ⟨fun h => buy_keeps a b L x h⟩
  have HLN := buyS_len a b L x
  have CL : Veil (CountL 24 L x.item (countG L x.item)) := ⟨fun p cp W h => refcountG_any L cp x.item h (by omega)⟩
  have CX : Veil (CountL 24 (buyS a b L x).2.2.1 x.item (countG (buyS a b L x).2.2.1 x.item)) := ⟨fun p cp W h => refcountG_any _ cp x.item h (by omega)⟩
  clear hin ha hb hx hgd hgL hS HLN
  rcases F with ⟨h0, h1⟩ | h0
  · clear HBy CL CX
    rw [h1] at PB
    generalize (buyS a b L x).2.2.2 = c at PB h0
    dsimp only [Ac.zero] at PB
    clear h1
    obtain ⟨aw, ab⟩ := a
    obtain ⟨cw, cb⟩ := b
    obtain ⟨f, i, n, mo⟩ := x
    unfold BuyAtP at *
    unfold Li.v Ac.v at *
    dsimp only at *
    have HA : Veil (AcBox (((w.alloc (.cells #[.int .i64 aw, .int .i64 ab] 37)).alloc (.cells #[.int .i64 cw, .int .i64 cb] 37)).alloc (.cells #[.int .u32 f, .int .u16 i, .int .i64 n, .int .i64 mo] 27)) w.heap.size aw ab) := ⟨((AcBox.new _ _ _ _).below (below_al (Below.refl _ _) _)).below (below_al (Below.refl _ _) _)⟩
    have HB : Veil (AcBox (((w.alloc (.cells #[.int .i64 aw, .int .i64 ab] 37)).alloc (.cells #[.int .i64 cw, .int .i64 cb] 37)).alloc (.cells #[.int .u32 f, .int .u16 i, .int .i64 n, .int .i64 mo] 27)) (w.heap.size + 1) cw cb) := ⟨by
      have := (AcBox.new (w.alloc (.cells #[.int .i64 aw, .int .i64 ab] 37)) cw cb 37).below (below_al (Below.refl _ _) (.cells #[.int .u32 f, .int .u16 i, .int .i64 n, .int .i64 mo] 27))
      rwa [World.size_alloc] at this⟩
    have HM : Veil (LiBox (((w.alloc (.cells #[.int .i64 aw, .int .i64 ab] 37)).alloc (.cells #[.int .i64 cw, .int .i64 cb] 37)).alloc (.cells #[.int .u32 f, .int .u16 i, .int .i64 n, .int .i64 mo] 27)) (w.heap.size + 2) f i n mo) := ⟨by
      have := LiBox.new ((w.alloc (.cells #[.int .i64 aw, .int .i64 ab] 37)).alloc (.cells #[.int .i64 cw, .int .i64 cb] 37)) f i n mo 27
      rwa [World.size_alloc, World.size_alloc] at this⟩
    have hT : Below w.heap.size w (((w.alloc (.cells #[.int .i64 aw, .int .i64 ab] 37)).alloc (.cells #[.int .i64 cw, .int .i64 cb] 37)).alloc (.cells #[.int .u32 f, .int .u16 i, .int .i64 n, .int .i64 mo] 27)) := below_al (below_al (below_al (Below.refl _ _) _) _) _
    go_enter Tryd.func6, Tryd.ntmps6
    go_wp2_with (first
      | (go_at_call 21; (with_reducible refine (PB.out _ _ _ (hT) (HLI.out _ HL.out)).mono ?_); rintro e w3x ⟨v3, rfl, hF3, hb3⟩; have hT := bc_then (hT) hb3; have HA : Veil _ := ⟨HA.out.below hb3⟩; have HB : Veil _ := ⟨HB.out.below hb3⟩; have HM : Veil _ := ⟨HM.out.below hb3⟩; have HL : Veil _ := ⟨HL.out.below hb3⟩; obtain ⟨p3, c3, rfl, hI3, -⟩ := hF3.formI; have hE3 := hI3.els; have HXI : Veil _ := ⟨inl_of hI3⟩; clear hI3; have HX : Veil _ := ⟨hE3⟩; clear hE3 hF3; dsimp only [Ac.v]; obtain ⟨HA0, HA1⟩ := HA.out; have HAz := World.block_lt_of_cell? _ _ HA0; dsimp only at HAz; obtain ⟨HB0, HB1⟩ := HB.out; have HBz := World.block_lt_of_cell? _ _ HB0; dsimp only at HBz; obtain ⟨HM0, HM1, HM2, HM3⟩ := HM.out; have HMz := World.block_lt_of_cell? _ _ HM0; dsimp only at HMz)
      | (go_at_call 16; (with_reducible refine (hcut.out _ (hT)).mono ?_); rintro e w2x ⟨v2, rfl, hF2, hb2⟩; have hT := bc_then (hT) hb2; have HA : Veil _ := ⟨HA.out.below hb2⟩; have HB : Veil _ := ⟨HB.out.below hb2⟩; have HM : Veil _ := ⟨HM.out.below hb2⟩; obtain ⟨p2, c2, rfl, hI2, -⟩ := hF2.formI; have hE2 := hI2.els; have HLI : Veil _ := ⟨inl_of hI2⟩; clear hI2; have HL : Veil _ := ⟨hE2⟩; clear hE2 hF2; obtain ⟨HA0, HA1⟩ := HA.out; have HAz := World.block_lt_of_cell? _ _ HA0; dsimp only at HAz; obtain ⟨HB0, HB1⟩ := HB.out; have HBz := World.block_lt_of_cell? _ _ HB0; dsimp only at HBz; obtain ⟨HM0, HM1, HM2, HM3⟩ := HM.out; have HMz := World.block_lt_of_cell? _ _ HM0; dsimp only at HMz)
      | (go_at_call 9; (with_reducible refine (shown15_any _ (HSm.out _ (hT))).mono ?_); rintro e w1x ⟨rfl, hb1⟩; have hT := bc_then (hT) hb1; have HA : Veil _ := ⟨HA.out.below hb1⟩; have HB : Veil _ := ⟨HB.out.below hb1⟩; have HM : Veil _ := ⟨HM.out.below hb1⟩; obtain ⟨HA0, HA1⟩ := HA.out; have HAz := World.block_lt_of_cell? _ _ HA0; dsimp only at HAz; obtain ⟨HB0, HB1⟩ := HB.out; have HBz := World.block_lt_of_cell? _ _ HB0; dsimp only at HBz; obtain ⟨HM0, HM1, HM2, HM3⟩ := HM.out; have HMz := World.block_lt_of_cell? _ _ HM0; dsimp only at HMz))
    go_ret
    exact ⟨rfl, below_al (below_al hT _) _⟩
  obtain ⟨he, hc, h3, h4, h5, h6, h7⟩ := HBy.out h0
  rw [he] at PB CX
  dsimp only at CX
  rw [hc] at CX
  clear HBy he h0 hc
  generalize countG L x.item = cl at CL CX h6
  generalize (giveG L x.st).1 = X at PB CX
  obtain ⟨aw, ab⟩ := a
  obtain ⟨cw, cb⟩ := b
  obtain ⟨f, i, n, mo⟩ := x
  unfold BuyAtP CountL at *
  unfold Li.v Ac.v at *
  dsimp only at *
  obtain ⟨cx, hcx⟩ : ∃ cx : Int, cl + n = cx := ⟨_, rfl⟩
  have HW1 : Veil (wrap64 (aw - mo) = aw - mo) := ⟨by unfold wrap64; omega⟩
  have HW2 : Veil (wrap64 (cw + mo) = cw + mo) := ⟨by unfold wrap64; omega⟩
  have HW3 : Veil (wrap64 (cl + n) = cx) := ⟨by unfold wrap64; omega⟩
  rw [hcx] at CX
  clear hcx h3 h4 h5 h6 h7
  have HA : Veil (AcBox (((w.alloc (.cells #[.int .i64 aw, .int .i64 ab] 37)).alloc (.cells #[.int .i64 cw, .int .i64 cb] 37)).alloc (.cells #[.int .u32 f, .int .u16 i, .int .i64 n, .int .i64 mo] 27)) w.heap.size aw ab) := ⟨((AcBox.new _ _ _ _).below (below_al (Below.refl _ _) _)).below (below_al (Below.refl _ _) _)⟩
  have HB : Veil (AcBox (((w.alloc (.cells #[.int .i64 aw, .int .i64 ab] 37)).alloc (.cells #[.int .i64 cw, .int .i64 cb] 37)).alloc (.cells #[.int .u32 f, .int .u16 i, .int .i64 n, .int .i64 mo] 27)) (w.heap.size + 1) cw cb) := ⟨by
    have := (AcBox.new (w.alloc (.cells #[.int .i64 aw, .int .i64 ab] 37)) cw cb 37).below (below_al (Below.refl _ _) (.cells #[.int .u32 f, .int .u16 i, .int .i64 n, .int .i64 mo] 27))
    rwa [World.size_alloc] at this⟩
  have HM : Veil (LiBox (((w.alloc (.cells #[.int .i64 aw, .int .i64 ab] 37)).alloc (.cells #[.int .i64 cw, .int .i64 cb] 37)).alloc (.cells #[.int .u32 f, .int .u16 i, .int .i64 n, .int .i64 mo] 27)) (w.heap.size + 2) f i n mo) := ⟨by
    have := LiBox.new ((w.alloc (.cells #[.int .i64 aw, .int .i64 ab] 37)).alloc (.cells #[.int .i64 cw, .int .i64 cb] 37)) f i n mo 27
    rwa [World.size_alloc, World.size_alloc] at this⟩
  have hT : Below w.heap.size w (((w.alloc (.cells #[.int .i64 aw, .int .i64 ab] 37)).alloc (.cells #[.int .i64 cw, .int .i64 cb] 37)).alloc (.cells #[.int .u32 f, .int .u16 i, .int .i64 n, .int .i64 mo] 27)) := below_al (below_al (below_al (Below.refl _ _) _) _) _
  go_enter Tryd.func6, Tryd.ntmps6
  go_wp2_with (first
    | (go_at_call 21; (with_reducible refine (PB.out _ _ _ (hT) (HLI.out _ HL.out)).mono ?_); rintro e w3x ⟨v3, rfl, hF3, hb3⟩; have hT := bc_then (hT) hb3; have HA : Veil _ := ⟨HA.out.below hb3⟩; have HB : Veil _ := ⟨HB.out.below hb3⟩; have HM : Veil _ := ⟨HM.out.below hb3⟩; have HL : Veil _ := ⟨HL.out.below hb3⟩; obtain ⟨p3, c3, rfl, hI3, -⟩ := hF3.formI; have hE3 := hI3.els; have HXI : Veil _ := ⟨inl_of hI3⟩; clear hI3; have HX : Veil _ := ⟨hE3⟩; clear hE3 hF3; dsimp only [Ac.v]; obtain ⟨HA0, HA1⟩ := HA.out; have HAz := World.block_lt_of_cell? _ _ HA0; dsimp only at HAz; obtain ⟨HB0, HB1⟩ := HB.out; have HBz := World.block_lt_of_cell? _ _ HB0; dsimp only at HBz; obtain ⟨HM0, HM1, HM2, HM3⟩ := HM.out; have HMz := World.block_lt_of_cell? _ _ HM0; dsimp only at HMz)
    | (go_at_call 16; (with_reducible refine (hcut.out _ (hT)).mono ?_); rintro e w2x ⟨v2, rfl, hF2, hb2⟩; have hT := bc_then (hT) hb2; have HA : Veil _ := ⟨HA.out.below hb2⟩; have HB : Veil _ := ⟨HB.out.below hb2⟩; have HM : Veil _ := ⟨HM.out.below hb2⟩; obtain ⟨p2, c2, rfl, hI2, -⟩ := hF2.formI; have hE2 := hI2.els; have HLI : Veil _ := ⟨inl_of hI2⟩; clear hI2; have HL : Veil _ := ⟨hE2⟩; clear hE2 hF2; obtain ⟨HA0, HA1⟩ := HA.out; have HAz := World.block_lt_of_cell? _ _ HA0; dsimp only at HAz; obtain ⟨HB0, HB1⟩ := HB.out; have HBz := World.block_lt_of_cell? _ _ HB0; dsimp only at HBz; obtain ⟨HM0, HM1, HM2, HM3⟩ := HM.out; have HMz := World.block_lt_of_cell? _ _ HM0; dsimp only at HMz)
    | (go_at_call 9; (with_reducible refine (shown15_any _ (HSm.out _ (hT))).mono ?_); rintro e w1x ⟨rfl, hb1⟩; have hT := bc_then (hT) hb1; have HA : Veil _ := ⟨HA.out.below hb1⟩; have HB : Veil _ := ⟨HB.out.below hb1⟩; have HM : Veil _ := ⟨HM.out.below hb1⟩; obtain ⟨HA0, HA1⟩ := HA.out; have HAz := World.block_lt_of_cell? _ _ HA0; dsimp only at HAz; obtain ⟨HB0, HB1⟩ := HB.out; have HBz := World.block_lt_of_cell? _ _ HB0; dsimp only at HBz; obtain ⟨HM0, HM1, HM2, HM3⟩ := HM.out; have HMz := World.block_lt_of_cell? _ _ HM0; dsimp only at HMz))
  obtain ⟨WF, hWF⟩ : ∃ WF, (w3x.alloc (.cells #[.int .i64 (aw - mo), .int .i64 ab] 37)).alloc (.cells #[.int .i64 (cw + mo), .int .i64 cb] 37) = WF := ⟨_, rfl⟩
  have hup : Below w3x.heap.size w3x WF := by rw [← hWF]; exact below_al (below_al (Below.refl _ _) _) _
  have HAf : Veil _ := ⟨HA.out.below hup⟩
  have HBf : Veil _ := ⟨HB.out.below hup⟩
  have HMf : Veil _ := ⟨HM.out.below hup⟩
  have HXf : Veil _ := ⟨HX.out.below hup⟩
  have HLf : Veil _ := ⟨HL.out.below hup⟩
  have HPf : Veil (AcBox WF w3x.heap.size (aw - mo) ab) := ⟨by rw [← hWF]; exact (AcBox.new _ _ _ _).below (below_al (Below.refl _ _) _)⟩
  have HQf : Veil (AcBox WF (w3x.heap.size + 1) (cw + mo) cb) := ⟨by
    rw [← hWF]
    have := AcBox.new (w3x.alloc (.cells #[.int .i64 (aw - mo), .int .i64 ab] 37)) (cw + mo) cb 37
    rwa [World.size_alloc] at this⟩
  have HTf : Veil (Below w.heap.size w WF) := ⟨by rw [← hWF]; exact below_al (below_al hT _) _⟩
  rw [hWF]
  clear HA0 HA1 HAz HB0 HB1 HBz HM0 HM1 HM2 HM3 HMz HA HB HM HX HL HXI HLI hT hup hWF hb1 hb2 hb3
  refine region_new [.is (.bool true), .is (.bool true), .is (.pointer (some ⟨w3x.heap.size, 0, none⟩)), .is (.int .i64 (aw - mo)), .is (.pointer (some ⟨w.heap.size, 0, none⟩)), .is (.int .i64 aw), .is (.pointer (some ⟨(w.heap.size + 1 + 1), 3, none⟩)), .is (.int .i64 mo), .is (.int .i64 (aw - mo)), .is (.bool true), .is (.bool true), .is (.bool true), .is (.pointer (some ⟨(w3x.heap.size + 1), 0, none⟩)), .is (.int .i64 (cw + mo)), .is (.pointer (some ⟨(w.heap.size + 1), 0, none⟩)), .is (.int .i64 cw), .is (.pointer (some ⟨(w.heap.size + 1 + 1), 3, none⟩)), .is (.int .i64 mo), .is (.int .i64 (cw + mo)), .is (.bool true), .is (.bool true), .is (.bool true), .is (.pointer (some ⟨w3x.heap.size, 1, none⟩)), .is (.int .i64 ab), .is (.pointer (some ⟨w.heap.size, 1, none⟩)), .is (.int .i64 ab), .is (.bool true), .is (.bool true), .is (.bool true), .is (.pointer (some ⟨(w3x.heap.size + 1), 1, none⟩)), .is (.int .i64 cb), .is (.pointer (some ⟨(w.heap.size + 1), 1, none⟩)), .is (.int .i64 cb), .is (.bool true), .is (.bool true), .is (.bool true), .is (.slice p3 X.length c3), .is (.pointer (some ⟨(w.heap.size + 1 + 1), 1, none⟩)), .is (.pointer (some ⟨(w.heap.size + 1 + 1), 1, none⟩)), .is (.int .u16 i), .is (.int .i64 cx), .is (.slice p2 L.length c2), .is (.pointer (some ⟨(w.heap.size + 1 + 1), 1, none⟩)), .is (.pointer (some ⟨(w.heap.size + 1 + 1), 1, none⟩)), .is (.int .u16 i), .is (.int .i64 cl), .is (.pointer (some ⟨(w.heap.size + 1 + 1), 1, none⟩)), .is (.pointer (some ⟨(w.heap.size + 1 + 1), 2, none⟩)), .is (.int .i64 n), .is (.int .i64 cx), .is (.bool true), .is (.bool true), .is (.bool true)]
    [[], [(0, 45)], [(1, 46)], [(1, 46), (2, 47)], [(1, 46)], [(1, 46), (4, 49)], [(1, 46)], [(1, 46), (6, 51)], [(1, 46), (5, 50), (7, 52)], [(1, 46), (3, 48), (8, 53)], [(1, 46), (9, 54)], [(10, 55)], [(11, 56)], [(11, 56), (12, 57)], [(11, 56)], [(11, 56), (14, 59)], [(11, 56)], [(11, 56), (16, 61)], [(11, 56), (15, 60), (17, 62)], [(11, 56), (13, 58), (18, 63)], [(11, 56), (19, 64)], [(20, 65)], [(21, 66)], [(21, 66), (22, 67)], [(21, 66)], [(21, 66), (24, 69)], [(21, 66), (23, 68), (25, 70)], [(21, 66), (26, 71)], [(27, 72)], [(28, 73)], [(28, 73), (29, 74)], [(28, 73)], [(28, 73), (31, 76)], [(28, 73), (30, 75), (32, 77)], [(28, 73), (33, 78)], [(34, 79)], [(35, 80)], [(35, 80)], [(35, 80), (37, 82)], [(35, 80), (38, 83)], [(35, 80), (36, 81), (39, 84)], [(35, 80)], [(35, 80)], [(35, 80), (42, 87)], [(35, 80), (43, 88)], [(35, 80), (41, 86), (44, 89)], [(35, 80)], [(35, 80), (46, 91)], [(35, 80), (47, 92)], [(35, 80), (45, 90), (48, 93)], [(35, 80), (40, 85), (49, 94)], [(35, 80), (50, 95)], [(51, 96)]]
    [[], [0], [1], [1, 2], [1], [1, 4], [1], [1, 6], [1, 5, 7], [1, 3, 8], [1, 9], [1, 10], [11], [11, 12], [11], [11, 14], [11], [11, 16], [11, 15, 17], [11, 13, 18], [11, 19], [11, 20], [21], [21, 22], [21], [21, 24], [21, 23, 25], [21, 26], [21, 27], [28], [28, 29], [28], [28, 31], [28, 30, 32], [28, 33], [28, 34], [35], [35], [35, 37], [35, 38], [35, 36, 39], [35], [35], [35, 42], [35, 43], [35, 40, 41, 44], [35], [35, 46], [35, 47], [35, 45, 48], [35, 40, 49], [35, 50], [0, 1, 2, 3, 4, 5, 6, 7, 8, 9, 10, 11, 12, 13, 14, 15, 16, 17, 18, 19, 20, 21, 22, 23, 24, 25, 26, 27, 28, 29, 30, 31, 32, 33, 34, 35, 36, 37, 38, 39, 40, 41, 42, 43, 44, 45, 46, 47, 48, 49, 50, 51]]
    [(0, 45), (1, 46), (2, 47), (3, 48), (4, 49), (5, 50), (6, 51), (7, 52), (8, 53), (9, 54), (10, 55), (11, 56), (12, 57), (13, 58), (14, 59), (15, 60), (16, 61), (17, 62), (18, 63), (19, 64), (20, 65), (21, 66), (22, 67), (23, 68), (24, 69), (25, 70), (26, 71), (27, 72), (28, 73), (29, 74), (30, 75), (31, 76), (32, 77), (33, 78), (34, 79), (35, 80), (36, 81), (37, 82), (38, 83), (39, 84), (40, 85), (41, 86), (42, 87), (43, 88), (44, 89), (45, 90), (46, 91), (47, 92), (48, 93), (49, 94), (50, 95), (51, 96), (52, 8)] rfl (by kernel_rfl) ⟨?_, ?_, ?_, ?_, ?_, ?_, ?_, ?_, ?_, ?_, ?_, ?_, ?_, ?_, ?_, ?_, ?_, ?_, ?_, ?_, ?_, ?_, ?_, ?_, ?_, ?_, ?_, ?_, ?_, ?_, ?_, ?_, ?_, ?_, ?_, ?_, ?_, ?_, ?_, ?_, ?_, ?_, ?_, ?_, ?_, ?_, ?_, ?_, ?_, ?_, ?_, ?_, ?_, trivial⟩ ?_
  · intro vals W hB _
    dsimp only [putsL, slotOf]
    go_wp2
    exact ⟨rfl, Below.refl _ _, rfl⟩
  · intro vals W hB ⟨h0, _⟩
    have h0 : vals 0 = _ := h0
    dsimp only [putsL, slotOf]
    rw [h0]
    go_wp2
    exact ⟨rfl, Below.refl _ _, rfl⟩
  · intro vals W hB ⟨h1, _⟩
    have h1 : vals 1 = _ := h1
    dsimp only [putsL, slotOf]
    rw [h1]
    go_wp2
    exact ⟨rfl, Below.refl _ _, rfl⟩
  · intro vals W hB ⟨h1, h2, _⟩
    have h1 : vals 1 = _ := h1
    have h2 : vals 2 = _ := h2
    obtain ⟨HP0, HP1⟩ := HPf.out.below hB; have HPz := World.block_lt_of_cell? _ _ HP0; dsimp only at HPz
    dsimp only [putsL, slotOf]
    rw [h1, h2]
    go_wp2
    exact ⟨rfl, Below.refl _ _, rfl⟩
  · intro vals W hB ⟨h1, _⟩
    have h1 : vals 1 = _ := h1
    dsimp only [putsL, slotOf]
    rw [h1]
    go_wp2
    exact ⟨rfl, Below.refl _ _, rfl⟩
  · intro vals W hB ⟨h1, h4, _⟩
    have h1 : vals 1 = _ := h1
    have h4 : vals 4 = _ := h4
    obtain ⟨HA0, HA1⟩ := HAf.out.below hB; have HAz := World.block_lt_of_cell? _ _ HA0; dsimp only at HAz
    dsimp only [putsL, slotOf]
    rw [h1, h4]
    go_wp2
    exact ⟨rfl, Below.refl _ _, rfl⟩
  · intro vals W hB ⟨h1, _⟩
    have h1 : vals 1 = _ := h1
    dsimp only [putsL, slotOf]
    rw [h1]
    go_wp2
    exact ⟨rfl, Below.refl _ _, rfl⟩
  · intro vals W hB ⟨h1, h6, _⟩
    have h1 : vals 1 = _ := h1
    have h6 : vals 6 = _ := h6
    obtain ⟨HM0, HM1, HM2, HM3⟩ := HMf.out.below hB; have HMz := World.block_lt_of_cell? _ _ HM0; dsimp only at HMz
    dsimp only [putsL, slotOf]
    rw [h1, h6]
    go_wp2
    exact ⟨rfl, Below.refl _ _, rfl⟩
  · intro vals W hB ⟨h1, h5, h7, _⟩
    have h1 : vals 1 = _ := h1
    have h5 : vals 5 = _ := h5
    have h7 : vals 7 = _ := h7
    have hw1 := HW1.out
    dsimp only [putsL, slotOf]
    rw [h1, h5, h7]
    go_wp2
    exact ⟨rfl, Below.refl _ _, rfl⟩
  · intro vals W hB ⟨h1, h3, h8, _⟩
    have h1 : vals 1 = _ := h1
    have h3 : vals 3 = _ := h3
    have h8 : vals 8 = _ := h8
    dsimp only [putsL, slotOf]
    rw [h1, h3, h8]
    go_wp2
    exact ⟨rfl, Below.refl _ _, rfl⟩
  · intro vals W hB ⟨h1, h9, _⟩
    have h1 : vals 1 = _ := h1
    have h9 : vals 9 = _ := h9
    dsimp only [putsL, slotOf]
    rw [h1, h9]
    go_wp2
    exact ⟨rfl, Below.refl _ _, rfl⟩
  · intro vals W hB ⟨h1, h10, _⟩
    have h10 : vals 10 = _ := h10
    dsimp only [putsL, slotOf]
    rw [h10]
    go_wp2
    exact ⟨rfl, Below.refl _ _, rfl⟩
  · intro vals W hB ⟨h11, _⟩
    have h11 : vals 11 = _ := h11
    dsimp only [putsL, slotOf]
    rw [h11]
    go_wp2
    exact ⟨rfl, Below.refl _ _, rfl⟩
  · intro vals W hB ⟨h11, h12, _⟩
    have h11 : vals 11 = _ := h11
    have h12 : vals 12 = _ := h12
    obtain ⟨HQ0, HQ1⟩ := HQf.out.below hB; have HQz := World.block_lt_of_cell? _ _ HQ0; dsimp only at HQz
    dsimp only [putsL, slotOf]
    rw [h11, h12]
    go_wp2
    exact ⟨rfl, Below.refl _ _, rfl⟩
  · intro vals W hB ⟨h11, _⟩
    have h11 : vals 11 = _ := h11
    dsimp only [putsL, slotOf]
    rw [h11]
    go_wp2
    exact ⟨rfl, Below.refl _ _, rfl⟩
  · intro vals W hB ⟨h11, h14, _⟩
    have h11 : vals 11 = _ := h11
    have h14 : vals 14 = _ := h14
    obtain ⟨HB0, HB1⟩ := HBf.out.below hB; have HBz := World.block_lt_of_cell? _ _ HB0; dsimp only at HBz
    dsimp only [putsL, slotOf]
    rw [h11, h14]
    go_wp2
    exact ⟨rfl, Below.refl _ _, rfl⟩
  · intro vals W hB ⟨h11, _⟩
    have h11 : vals 11 = _ := h11
    dsimp only [putsL, slotOf]
    rw [h11]
    go_wp2
    exact ⟨rfl, Below.refl _ _, rfl⟩
  · intro vals W hB ⟨h11, h16, _⟩
    have h11 : vals 11 = _ := h11
    have h16 : vals 16 = _ := h16
    obtain ⟨HM0, HM1, HM2, HM3⟩ := HMf.out.below hB; have HMz := World.block_lt_of_cell? _ _ HM0; dsimp only at HMz
    dsimp only [putsL, slotOf]
    rw [h11, h16]
    go_wp2
    exact ⟨rfl, Below.refl _ _, rfl⟩
  · intro vals W hB ⟨h11, h15, h17, _⟩
    have h11 : vals 11 = _ := h11
    have h15 : vals 15 = _ := h15
    have h17 : vals 17 = _ := h17
    have hw2 := HW2.out
    dsimp only [putsL, slotOf]
    rw [h11, h15, h17]
    go_wp2
    exact ⟨rfl, Below.refl _ _, rfl⟩
  · intro vals W hB ⟨h11, h13, h18, _⟩
    have h11 : vals 11 = _ := h11
    have h13 : vals 13 = _ := h13
    have h18 : vals 18 = _ := h18
    dsimp only [putsL, slotOf]
    rw [h11, h13, h18]
    go_wp2
    exact ⟨rfl, Below.refl _ _, rfl⟩
  · intro vals W hB ⟨h11, h19, _⟩
    have h11 : vals 11 = _ := h11
    have h19 : vals 19 = _ := h19
    dsimp only [putsL, slotOf]
    rw [h11, h19]
    go_wp2
    exact ⟨rfl, Below.refl _ _, rfl⟩
  · intro vals W hB ⟨h11, h20, _⟩
    have h20 : vals 20 = _ := h20
    dsimp only [putsL, slotOf]
    rw [h20]
    go_wp2
    exact ⟨rfl, Below.refl _ _, rfl⟩
  · intro vals W hB ⟨h21, _⟩
    have h21 : vals 21 = _ := h21
    dsimp only [putsL, slotOf]
    rw [h21]
    go_wp2
    exact ⟨rfl, Below.refl _ _, rfl⟩
  · intro vals W hB ⟨h21, h22, _⟩
    have h21 : vals 21 = _ := h21
    have h22 : vals 22 = _ := h22
    obtain ⟨HP0, HP1⟩ := HPf.out.below hB; have HPz := World.block_lt_of_cell? _ _ HP0; dsimp only at HPz
    dsimp only [putsL, slotOf]
    rw [h21, h22]
    go_wp2
    exact ⟨rfl, Below.refl _ _, rfl⟩
  · intro vals W hB ⟨h21, _⟩
    have h21 : vals 21 = _ := h21
    dsimp only [putsL, slotOf]
    rw [h21]
    go_wp2
    exact ⟨rfl, Below.refl _ _, rfl⟩
  · intro vals W hB ⟨h21, h24, _⟩
    have h21 : vals 21 = _ := h21
    have h24 : vals 24 = _ := h24
    obtain ⟨HA0, HA1⟩ := HAf.out.below hB; have HAz := World.block_lt_of_cell? _ _ HA0; dsimp only at HAz
    dsimp only [putsL, slotOf]
    rw [h21, h24]
    go_wp2
    exact ⟨rfl, Below.refl _ _, rfl⟩
  · intro vals W hB ⟨h21, h23, h25, _⟩
    have h21 : vals 21 = _ := h21
    have h23 : vals 23 = _ := h23
    have h25 : vals 25 = _ := h25
    dsimp only [putsL, slotOf]
    rw [h21, h23, h25]
    go_wp2
    exact ⟨rfl, Below.refl _ _, rfl⟩
  · intro vals W hB ⟨h21, h26, _⟩
    have h21 : vals 21 = _ := h21
    have h26 : vals 26 = _ := h26
    dsimp only [putsL, slotOf]
    rw [h21, h26]
    go_wp2
    exact ⟨rfl, Below.refl _ _, rfl⟩
  · intro vals W hB ⟨h21, h27, _⟩
    have h27 : vals 27 = _ := h27
    dsimp only [putsL, slotOf]
    rw [h27]
    go_wp2
    exact ⟨rfl, Below.refl _ _, rfl⟩
  · intro vals W hB ⟨h28, _⟩
    have h28 : vals 28 = _ := h28
    dsimp only [putsL, slotOf]
    rw [h28]
    go_wp2
    exact ⟨rfl, Below.refl _ _, rfl⟩
  · intro vals W hB ⟨h28, h29, _⟩
    have h28 : vals 28 = _ := h28
    have h29 : vals 29 = _ := h29
    obtain ⟨HQ0, HQ1⟩ := HQf.out.below hB; have HQz := World.block_lt_of_cell? _ _ HQ0; dsimp only at HQz
    dsimp only [putsL, slotOf]
    rw [h28, h29]
    go_wp2
    exact ⟨rfl, Below.refl _ _, rfl⟩
  · intro vals W hB ⟨h28, _⟩
    have h28 : vals 28 = _ := h28
    dsimp only [putsL, slotOf]
    rw [h28]
    go_wp2
    exact ⟨rfl, Below.refl _ _, rfl⟩
  · intro vals W hB ⟨h28, h31, _⟩
    have h28 : vals 28 = _ := h28
    have h31 : vals 31 = _ := h31
    obtain ⟨HB0, HB1⟩ := HBf.out.below hB; have HBz := World.block_lt_of_cell? _ _ HB0; dsimp only at HBz
    dsimp only [putsL, slotOf]
    rw [h28, h31]
    go_wp2
    exact ⟨rfl, Below.refl _ _, rfl⟩
  · intro vals W hB ⟨h28, h30, h32, _⟩
    have h28 : vals 28 = _ := h28
    have h30 : vals 30 = _ := h30
    have h32 : vals 32 = _ := h32
    dsimp only [putsL, slotOf]
    rw [h28, h30, h32]
    go_wp2
    exact ⟨rfl, Below.refl _ _, rfl⟩
  · intro vals W hB ⟨h28, h33, _⟩
    have h28 : vals 28 = _ := h28
    have h33 : vals 33 = _ := h33
    dsimp only [putsL, slotOf]
    rw [h28, h33]
    go_wp2
    exact ⟨rfl, Below.refl _ _, rfl⟩
  · intro vals W hB ⟨h28, h34, _⟩
    have h34 : vals 34 = _ := h34
    dsimp only [putsL, slotOf]
    rw [h34]
    go_wp2
    exact ⟨rfl, Below.refl _ _, rfl⟩
  · intro vals W hB ⟨h35, _⟩
    have h35 : vals 35 = _ := h35
    dsimp only [putsL, slotOf]
    rw [h35]
    go_wp2
    exact ⟨rfl, Below.refl _ _, rfl⟩
  · intro vals W hB ⟨h35, _⟩
    have h35 : vals 35 = _ := h35
    dsimp only [putsL, slotOf]
    rw [h35]
    go_wp2
    exact ⟨rfl, Below.refl _ _, rfl⟩
  · intro vals W hB ⟨h35, h37, _⟩
    have h35 : vals 35 = _ := h35
    have h37 : vals 37 = _ := h37
    dsimp only [putsL, slotOf]
    rw [h35, h37]
    go_wp2
    exact ⟨rfl, Below.refl _ _, rfl⟩
  · intro vals W hB ⟨h35, h38, _⟩
    have h35 : vals 35 = _ := h35
    have h38 : vals 38 = _ := h38
    obtain ⟨HM0, HM1, HM2, HM3⟩ := HMf.out.below hB; have HMz := World.block_lt_of_cell? _ _ HM0; dsimp only at HMz
    dsimp only [putsL, slotOf]
    rw [h35, h38]
    go_wp2
    exact ⟨rfl, Below.refl _ _, rfl⟩
  · intro vals W hB ⟨h35, h36, h39, _⟩
    have h35 : vals 35 = _ := h35
    have h36 : vals 36 = _ := h36
    have h39 : vals 39 = _ := h39
    dsimp only [putsL, slotOf]
    rw [h35, h36, h39]
    go_wp2_with ((go_at_call 24; refine (CX.out _ _ _ (HXf.out.below hB)).mono ?_; rintro e w4 ⟨rfl, hb4⟩))
    exact ⟨rfl, hb4, rfl⟩
  · intro vals W hB ⟨h35, _⟩
    have h35 : vals 35 = _ := h35
    dsimp only [putsL, slotOf]
    rw [h35]
    go_wp2
    exact ⟨rfl, Below.refl _ _, rfl⟩
  · intro vals W hB ⟨h35, _⟩
    have h35 : vals 35 = _ := h35
    dsimp only [putsL, slotOf]
    rw [h35]
    go_wp2
    exact ⟨rfl, Below.refl _ _, rfl⟩
  · intro vals W hB ⟨h35, h42, _⟩
    have h35 : vals 35 = _ := h35
    have h42 : vals 42 = _ := h42
    dsimp only [putsL, slotOf]
    rw [h35, h42]
    go_wp2
    exact ⟨rfl, Below.refl _ _, rfl⟩
  · intro vals W hB ⟨h35, h43, _⟩
    have h35 : vals 35 = _ := h35
    have h43 : vals 43 = _ := h43
    obtain ⟨HM0, HM1, HM2, HM3⟩ := HMf.out.below hB; have HMz := World.block_lt_of_cell? _ _ HM0; dsimp only at HMz
    dsimp only [putsL, slotOf]
    rw [h35, h43]
    go_wp2
    exact ⟨rfl, Below.refl _ _, rfl⟩
  · intro vals W hB ⟨h35, h40, h41, h44, _⟩
    have h35 : vals 35 = _ := h35
    have h41 : vals 41 = _ := h41
    have h44 : vals 44 = _ := h44
    dsimp only [putsL, slotOf]
    rw [h35, h41, h44]
    go_wp2_with ((go_at_call 24; refine (CL.out _ _ _ (HLf.out.below hB)).mono ?_; rintro e w4 ⟨rfl, hb4⟩))
    exact ⟨rfl, hb4, rfl⟩
  · intro vals W hB ⟨h35, _⟩
    have h35 : vals 35 = _ := h35
    dsimp only [putsL, slotOf]
    rw [h35]
    go_wp2
    exact ⟨rfl, Below.refl _ _, rfl⟩
  · intro vals W hB ⟨h35, h46, _⟩
    have h35 : vals 35 = _ := h35
    have h46 : vals 46 = _ := h46
    dsimp only [putsL, slotOf]
    rw [h35, h46]
    go_wp2
    exact ⟨rfl, Below.refl _ _, rfl⟩
  · intro vals W hB ⟨h35, h47, _⟩
    have h35 : vals 35 = _ := h35
    have h47 : vals 47 = _ := h47
    obtain ⟨HM0, HM1, HM2, HM3⟩ := HMf.out.below hB; have HMz := World.block_lt_of_cell? _ _ HM0; dsimp only at HMz
    dsimp only [putsL, slotOf]
    rw [h35, h47]
    go_wp2
    exact ⟨rfl, Below.refl _ _, rfl⟩
  · intro vals W hB ⟨h35, h45, h48, _⟩
    have h35 : vals 35 = _ := h35
    have h45 : vals 45 = _ := h45
    have h48 : vals 48 = _ := h48
    have hw3 := HW3.out
    dsimp only [putsL, slotOf]
    rw [h35, h45, h48]
    go_wp2
    exact ⟨rfl, Below.refl _ _, rfl⟩
  · intro vals W hB ⟨h35, h40, h49, _⟩
    have h35 : vals 35 = _ := h35
    have h40 : vals 40 = _ := h40
    have h49 : vals 49 = _ := h49
    dsimp only [putsL, slotOf]
    rw [h35, h40, h49]
    go_wp2
    exact ⟨rfl, Below.refl _ _, rfl⟩
  · intro vals W hB ⟨h35, h50, _⟩
    have h35 : vals 35 = _ := h35
    have h50 : vals 50 = _ := h50
    dsimp only [putsL, slotOf]
    rw [h35, h50]
    go_wp2
    exact ⟨rfl, Below.refl _ _, rfl⟩
  · intro vals W hB ⟨h0, h1, h2, h3, h4, h5, h6, h7, h8, h9, h10, h11, h12, h13, h14, h15, h16, h17, h18, h19, h20, h21, h22, h23, h24, h25, h26, h27, h28, h29, h30, h31, h32, h33, h34, h35, h36, h37, h38, h39, h40, h41, h42, h43, h44, h45, h46, h47, h48, h49, h50, h51, _⟩
    have h51 : vals 51 = _ := h51
    dsimp only [putsL, slotOf]
    rw [h51]
    go_wp2
    exact ⟨rfl, Below.refl _ _, rfl⟩
  rintro vals W hB ⟨q0, q1, q2, q3, q4, q5, q6, q7, q8, q9, q10, q11, q12, q13, q14, q15, q16, q17, q18, q19, q20, q21, q22, q23, q24, q25, q26, q27, q28, q29, q30, q31, q32, q33, q34, q35, q36, q37, q38, q39, q40, q41, q42, q43, q44, q45, q46, q47, q48, q49, q50, q51, q52, -⟩
  have h0 : vals 0 = _ := q0
  have h1 : vals 1 = _ := q1
  have h2 : vals 2 = _ := q2
  have h3 : vals 3 = _ := q3
  have h4 : vals 4 = _ := q4
  have h5 : vals 5 = _ := q5
  have h6 : vals 6 = _ := q6
  have h7 : vals 7 = _ := q7
  have h8 : vals 8 = _ := q8
  have h9 : vals 9 = _ := q9
  have h10 : vals 10 = _ := q10
  have h11 : vals 11 = _ := q11
  have h12 : vals 12 = _ := q12
  have h13 : vals 13 = _ := q13
  have h14 : vals 14 = _ := q14
  have h15 : vals 15 = _ := q15
  have h16 : vals 16 = _ := q16
  have h17 : vals 17 = _ := q17
  have h18 : vals 18 = _ := q18
  have h19 : vals 19 = _ := q19
  have h20 : vals 20 = _ := q20
  have h21 : vals 21 = _ := q21
  have h22 : vals 22 = _ := q22
  have h23 : vals 23 = _ := q23
  have h24 : vals 24 = _ := q24
  have h25 : vals 25 = _ := q25
  have h26 : vals 26 = _ := q26
  have h27 : vals 27 = _ := q27
  have h28 : vals 28 = _ := q28
  have h29 : vals 29 = _ := q29
  have h30 : vals 30 = _ := q30
  have h31 : vals 31 = _ := q31
  have h32 : vals 32 = _ := q32
  have h33 : vals 33 = _ := q33
  have h34 : vals 34 = _ := q34
  have h35 : vals 35 = _ := q35
  have h36 : vals 36 = _ := q36
  have h37 : vals 37 = _ := q37
  have h38 : vals 38 = _ := q38
  have h39 : vals 39 = _ := q39
  have h40 : vals 40 = _ := q40
  have h41 : vals 41 = _ := q41
  have h42 : vals 42 = _ := q42
  have h43 : vals 43 = _ := q43
  have h44 : vals 44 = _ := q44
  have h45 : vals 45 = _ := q45
  have h46 : vals 46 = _ := q46
  have h47 : vals 47 = _ := q47
  have h48 : vals 48 = _ := q48
  have h49 : vals 49 = _ := q49
  have h50 : vals 50 = _ := q50
  have h51 : vals 51 = _ := q51
  have h52 : vals 52 = _ := q52
  dsimp only [putsL]
  rw [h0, h1, h2, h3, h4, h5, h6, h7, h8, h9, h10, h11, h12, h13, h14, h15, h16, h17, h18, h19, h20, h21, h22, h23, h24, h25, h26, h27, h28, h29, h30, h31, h32, h33, h34, h35, h36, h37, h38, h39, h40, h41, h42, h43, h44, h45, h46, h47, h48, h49, h50, h51, h52]
  clear h0 q0 h1 q1 h2 q2 h3 q3 h4 q4 h5 q5 h6 q6 h7 q7 h8 q8 h9 q9 h10 q10 h11 q11 h12 q12 h13 q13 h14 q14 h15 q15 h16 q16 h17 q17 h18 q18 h19 q19 h20 q20 h21 q21 h22 q22 h23 q23 h24 q24 h25 q25 h26 q26 h27 q27 h28 q28 h29 q29 h30 q30 h31 q31 h32 q32 h33 q33 h34 q34 h35 q35 h36 q36 h37 q37 h38 q38 h39 q39 h40 q40 h41 q41 h42 q42 h43 q43 h44 q44 h45 q45 h46 q46 h47 q47 h48 q48 h49 q49 h50 q50 h51 q51 h52 q52
  simp only [List.length_cons, List.length_nil, Nat.reduceAdd, List.drop_succ_cons, List.drop_zero, List.setIfInBounds_toArray, List.set_cons_succ, List.set_cons_zero]
  have HTF : Veil _ := ⟨bc_then HTf.out hB⟩
  clear hB
  go_wp2
  go_ret
  exact ⟨rfl, HTF.out⟩
end Go.Proofs.YtckkiilbabbeaaaDoor
