/- The laws on the shop: shown, ShopBytes, ShopSizes. -/
import Derived.Test.YtckkiilbabbeaaaDoorKL9
import Derived.Test.YtckkiilbabbeaaaDoorKI7
import Derived.Test.YtckkiilbabbeaaaDoorKCZ
import Derived.Test.YtckkiilbabbeaaaDoorKF1
import Derived.Test.YtckkiilbabbeaaaDoorKG
namespace Go.Proofs.YtckkiilbabbeaaaDoor
open Go Go.RowKit Sm
attribute [local go_sem] Oper.semAt_some

theorem sameL_els {w : World} {p q : Option Addr} (a b : List St) (h : a = b) (ca cb : Nat) (ha : Els elS w p a) (hb : Els elS w q b) (hl : a.length ≤ 1000) :
    Calls Tryd.prog 23 #[.slice p a.length ca, .slice q b.length cb] w fun e w' => e = .returned (.bool true) ∧ Below w.heap.size w w' := by
  subst h
  exact sameG_here a _ ca _ cb ha hb rfl rfl hl
theorem els_second (w : World) (o : Obj) (i n : Int) (I : Nat) (h : (I : Int) = i) (T : TypeId) : Els elS ((w.alloc o).alloc (.cells #[.int .u16 i, .int .i64 n] T)) (some ⟨w.heap.size + 1, 0, none⟩) [⟨I, n⟩] := by
  subst h
  have h1 := heap_alloc_new (w.alloc o) (.cells #[.int .u16 (I : Int), .int .i64 n] T)
  rw [World.size_alloc] at h1
  exact els_of_block (E := elS) (L := [⟨I, n⟩]) h1 rfl
set_option maxRecDepth 20000 in
set_option maxHeartbeats 4000000 in
theorem shown15_any (w : World) (hS : MSent w) : Calls Tryd.prog 9 #[] w fun e w' => e = .returned (.bool true) ∧ Below w.heap.size w w' := by
  have HS : Veil (∀ W, Below w.heap.size w W → Calls Tryd.prog 21 #[.agg #[.int .i64 9, .int .i64 0], .agg #[.int .i64 0, .int .i64 0], .slice none 0 0, .agg #[.int .u32 1, .int .u16 3, .int .i64 2, .int .i64 4]] W (BuyPost W ⟨5, 0⟩ ⟨4, 0⟩ [⟨3, 2⟩] 0)) := ⟨fun W hb => by
    have h0 : InL elS W none [] 0 := ⟨fun h => absurd rfl h, fun a ha => (by cases ha), fun _ => rfl, by decide, by decide⟩
    have := shbuy_any ⟨9, 0⟩ ⟨0, 0⟩ ⟨i64_few (by decide), i64_few (by decide)⟩ ⟨i64_few (by decide), i64_few (by decide)⟩ [] 0 ⟨1, 3, 2, 4⟩ ⟨by decide, by decide, i64_few (by decide), i64_few (by decide)⟩ h0 (by decide) (fun s hs => by cases hs) (hS.below hb)
    rwa [show buyS ⟨9, 0⟩ ⟨0, 0⟩ [] ⟨1, 3, 2, 4⟩ = (⟨5, 0⟩, ⟨4, 0⟩, [⟨3, 2⟩], 0) from rfl] at this⟩
  have HP : Veil (∀ W, Calls Tryd.prog 12 #[.string ⟨#[]⟩] W fun e w' => e = .returned (.tuple #[.agg #[.int .u32 0, .int .u16 0, .int .i64 0, .int .i64 0], .int .i64 150]) ∧ Below W.heap.size W w') := ⟨fun W => shparse_any [] (by decide) W⟩
  clear hS
  go_enter Tryd.func9, Tryd.ntmps9
  go_wp2_with (first
    | (go_at_call 23; refine (sameL_els [⟨3, 2⟩] [⟨3, 2⟩] rfl _ _ (HE.out.below (below_al (below_al (Below.refl _ _) _) _)) (els_second _ _ 3 2 3 rfl _) (by decide)).mono ?_; rintro e w3 ⟨rfl, hb3⟩; have hT := bc_then (below_al (below_al hT _) _) hb3)
    | (go_at_call 12; refine (HP.out _).mono ?_; rintro e w2 ⟨rfl, hb2⟩; have hA1 := (hb2.block _ (by simp only [World.size_alloc]; omega)).trans hA.1; have hA2 := (hb2.block _ (by simp only [World.size_alloc]; omega)).trans hA.2; have HE : Veil _ := ⟨(HE.out.below (below_al (below_al (Below.refl _ _) _) _)).below hb2⟩; have hT := bc_then hT hb2; obtain ⟨⟨d0, d1⟩, -⟩ := pk2 hA1; obtain ⟨⟨d2, d3⟩, -⟩ := pk2 hA2; have hl1 := lt_of_heap hA1; have hl2 := lt_of_heap hA2; clear hb2 hA1 hA2)
    | (go_at_call 21; refine (HS.out _ (Below.refl _ _)).mono ?_; rintro e w1 ⟨v, rfl, hF, hb1⟩; obtain ⟨p1, c1, ev, hE, -⟩ := hF.form; subst ev; dsimp only [Ac.v, List.length_nil, List.length_cons]; have HE : Veil _ := ⟨hE⟩; have hA := two_boxes w1 5 0 4 0; have hT := below_al (below_al hb1 (.cells #[.int .i64 5, .int .i64 0] 37)) (.cells #[.int .i64 4, .int .i64 0] 37); clear hb1 hF hE))
  go_ret
  exact ⟨rfl, hT⟩

set_option maxRecDepth 20000 in
set_option maxHeartbeats 4000000 in
theorem shopBytes_any (m : Li) (hm : m.Ok) (s : List UInt8) (hs : s.length ≤ 9223372036854775807) (w : World) (hS : MSent w) : Calls Tryd.prog 3 #[m.v, .string ⟨s.toArray⟩] w fun e w' => e = .returned (.bool true) ∧ Below w.heap.size w w' := by
  have hmin : ∀ W, (Builtin.min_ #[3, 3] 3 #[.int .i64 (s.length : Int), .int .i64 40]).run Tryd.prog W = .ok (.int .i64 ((min s.length 40 : Nat) : Int)) W := min_two s.length 40
  have hX := take_extM s 40
  have hk2 : min s.length 40 ≤ s.length := Nat.min_le_left _ _
  have ht : (s.take 40).length ≤ 40 := by rw [List.length_take]; omega
  generalize s.take 40 = t at hX ht
  generalize min s.length 40 = k at hmin hX hk2
  have P1 : Veil (∀ W, Below w.heap.size w W → _) := ⟨fun W hb => shbytes_any m hm W (hS.below hb)⟩
  have R1 : Veil _ := ⟨fun w => refbytesLi_any m hm w⟩
  have P2 : Veil _ := ⟨fun w => shparse_any t (by omega) w⟩
  have R2 : Veil _ := ⟨fun w => refparseLi_any t (by omega) w⟩
  have PR : Veil _ := ⟨fun w => shright_any m hm w⟩
  have RR : Veil _ := ⟨fun w => refrightLi_any m w⟩
  generalize bytesLi m = x1 at P1 R1
  generalize parseLi t = x2 at P2 R2
  generalize rightLi m = rr at PR RR
  obtain ⟨S, c1⟩ := x1
  obtain ⟨⟨qf, qi, qn, qm⟩, c2⟩ := x2
  obtain ⟨f, i, n, mo⟩ := m
  have HSm : Veil (∀ W, Below w.heap.size w W → MSent W) := ⟨fun W hb => hS.below hb⟩
  clear hm hS
  unfold Li.v at *
  dsimp only at *
  generalize (⟨S.toArray⟩ : ByteArray) = S1 at P1 R1
  have HA : Veil _ := ⟨LiBox.new w f i n mo 27⟩
  have hT : Below w.heap.size w (w.alloc (.cells #[.int .u32 f, .int .u16 i, .int .i64 n, .int .i64 mo] 27)) := below_al (Below.refl _ _) _
  go_enter Tryd.func3, Tryd.ntmps3
  go_wp2_with (first
    | (go_at_call 13; (with_reducible refine (R2.out _).mono ?_); rintro e w5x ⟨rfl, hb5⟩; have hT := bc_then (below_al (hT) _) hb5; have HA : Veil _ := ⟨(HA.out.below (below_al (Below.refl _ _) _)).below hb5⟩; have HB : Veil _ := ⟨(LiBox.new _ _ _ _ _ _).below hb5⟩; obtain ⟨HA0, HA1, HA2, HA3⟩ := HA.out; have HAz := World.block_lt_of_cell? _ _ HA0; dsimp only at HAz; obtain ⟨HB0, HB1, HB2, HB3⟩ := HB.out; have HBz := World.block_lt_of_cell? _ _ HB0; dsimp only at HBz)
    | (go_at_call 12; (with_reducible refine (P2.out _).mono ?_); rintro e w4x ⟨rfl, hb4⟩; have hT := bc_then (hT) hb4; have HA : Veil _ := ⟨HA.out.below hb4⟩; obtain ⟨HA0, HA1, HA2, HA3⟩ := HA.out; have HAz := World.block_lt_of_cell? _ _ HA0; dsimp only at HAz)
    | (go_at_call 11; (with_reducible refine (R1.out _).mono ?_); rintro e w3x ⟨rfl, hb3⟩; have hT := bc_then (hT) hb3; have HA : Veil _ := ⟨HA.out.below hb3⟩; obtain ⟨HA0, HA1, HA2, HA3⟩ := HA.out; have HAz := World.block_lt_of_cell? _ _ HA0; dsimp only at HAz)
    | (go_at_call 10; (with_reducible refine (P1.out _ hT).mono ?_); rintro e w2x ⟨rfl, hb2⟩; have hT := bc_then (hT) hb2; have HA : Veil _ := ⟨HA.out.below hb2⟩; obtain ⟨HA0, HA1, HA2, HA3⟩ := HA.out; have HAz := World.block_lt_of_cell? _ _ HA0; dsimp only at HAz)
    | (go_at_call 9; (with_reducible refine (shown15_any _ (HSm.out _ hT)).mono ?_); rintro e w1x ⟨rfl, hb1⟩; have hT := bc_then (hT) hb1; have HA : Veil _ := ⟨HA.out.below hb1⟩; obtain ⟨HA0, HA1, HA2, HA3⟩ := HA.out; have HAz := World.block_lt_of_cell? _ _ HA0; dsimp only at HAz))
  obtain ⟨WF, hWF⟩ : ∃ WF, w5x.alloc (.cells #[.int .u32 qf, .int .u16 qi, .int .i64 qn, .int .i64 qm] 27) = WF := ⟨_, rfl⟩
  have hup : Below w5x.heap.size w5x WF := by rw [← hWF]; exact below_al (Below.refl _ _) _
  have HAf : Veil _ := ⟨HA.out.below hup⟩
  have HBf : Veil _ := ⟨HB.out.below hup⟩
  have HCf : Veil (LiBox WF w5x.heap.size qf qi qn qm) := ⟨by
    rw [← hWF]
    exact LiBox.new _ _ _ _ _ _⟩
  have HTf : Veil (Below w.heap.size w WF) := ⟨by rw [← hWF]; exact below_al (hT) _⟩
  rw [hWF]
  clear HA0 HA1 HA2 HA3 HAz HB0 HB1 HB2 HB3 HBz
  clear HA HB hT hup hWF hb1 hb2 hb3 hb4 hb5
  refine region_new [.is (.bool true), .is (.bool true), .is (.agg #[.int .u32 f, .int .u16 i, .int .i64 n, .int .i64 mo]), .is (.bool rr), .is (.agg #[.int .u32 f, .int .u16 i, .int .i64 n, .int .i64 mo]), .is (.bool rr), .is (.bool true), .is (.bool true), .is (.bool true), .is (.string S1), .is (.string S1), .is (.bool true), .is (.bool true), .is (.bool true), .is (.int .i64 c1), .is (.int .i64 c1), .is (.bool true), .is (.bool true), .is (.bool true), .is (.agg #[.int .u32 qf, .int .u16 qi, .int .i64 qn, .int .i64 qm]), .is (.agg #[.int .u32 qf, .int .u16 qi, .int .i64 qn, .int .i64 qm]), .is (.bool true), .is (.bool true), .is (.bool true), .is (.int .i64 c2), .is (.int .i64 c2), .is (.bool true), .is (.bool true), .is (.bool true)]
    [[], [(0, 40)], [(1, 41)], [(1, 41), (2, 42)], [(1, 41)], [(1, 41), (4, 44)], [(1, 41), (3, 43), (5, 45)], [(1, 41), (6, 46)], [(7, 47)], [(8, 48)], [(8, 48)], [(8, 48), (9, 49), (10, 50)], [(8, 48), (11, 51)], [(12, 52)], [(13, 53)], [(13, 53)], [(13, 53), (14, 54), (15, 55)], [(13, 53), (16, 56)], [(17, 57)], [(18, 58)], [(18, 58)], [(18, 58), (19, 59), (20, 60)], [(18, 58), (21, 61)], [(22, 62)], [(23, 63)], [(23, 63)], [(23, 63), (24, 64), (25, 65)], [(23, 63), (26, 66)], [(27, 67)]]
    [[], [0], [1], [1, 2], [1], [1, 3, 4], [1, 3, 5], [1, 6], [5, 7], [8], [8], [8, 9, 10], [8, 11], [8, 12], [13], [13], [13, 14, 15], [13, 16], [13, 17], [18], [18], [18, 19, 20], [18, 21], [18, 22], [23], [23], [23, 24, 25], [23, 26], [0, 1, 2, 3, 4, 5, 6, 7, 8, 9, 10, 11, 12, 13, 14, 15, 16, 17, 18, 19, 20, 21, 22, 23, 24, 25, 26, 27]]
    [(0, 40), (1, 41), (2, 42), (3, 43), (4, 44), (5, 45), (6, 46), (7, 47), (8, 48), (9, 49), (10, 50), (11, 51), (12, 52), (13, 53), (14, 54), (15, 55), (16, 56), (17, 57), (18, 58), (19, 59), (20, 60), (21, 61), (22, 62), (23, 63), (24, 64), (25, 65), (26, 66), (27, 67), (28, 4)] rfl (by kernel_rfl) ⟨?_, ?_, ?_, ?_, ?_, ?_, ?_, ?_, ?_, ?_, ?_, ?_, ?_, ?_, ?_, ?_, ?_, ?_, ?_, ?_, ?_, ?_, ?_, ?_, ?_, ?_, ?_, ?_, ?_, trivial⟩ ?_
  · intro vals W hB _
    dsimp only [putsL, slotOf]
    go_wp2
    exact ⟨rfl, Below.refl _ _, rfl⟩
  · intro vals W hB ⟨h0, _⟩
    have h0 : vals 0 = _ := h0
    dsimp only [putsL, slotOf]
    rw [h0]
    go_wp2
    exact ⟨rfl, Below.refl _ _, rfl⟩
  · intro vals W hB ⟨h1, _⟩
    have h1 : vals 1 = _ := h1
    obtain ⟨x0, x1, x2, x3⟩ := HAf.out.below hB
    dsimp only [putsL, slotOf]
    rw [h1]
    go_wp2
    exact ⟨rfl, Below.refl _ _, rfl⟩
  · intro vals W hB ⟨h1, h2, _⟩
    have h1 : vals 1 = _ := h1
    have h2 : vals 2 = _ := h2
    dsimp only [putsL, slotOf]
    rw [h1, h2]
    go_wp2_with ((go_at_call 14; refine (PR.out _).mono ?_; rintro e w4 ⟨rfl, hb4⟩))
    exact ⟨rfl, hb4, rfl⟩
  · intro vals W hB ⟨h1, _⟩
    have h1 : vals 1 = _ := h1
    obtain ⟨x0, x1, x2, x3⟩ := HAf.out.below hB
    dsimp only [putsL, slotOf]
    rw [h1]
    go_wp2
    exact ⟨rfl, Below.refl _ _, rfl⟩
  · intro vals W hB ⟨h1, h3, h4, _⟩
    have h1 : vals 1 = _ := h1
    have h4 : vals 4 = _ := h4
    dsimp only [putsL, slotOf]
    rw [h1, h4]
    go_wp2_with ((go_at_call 15; refine (RR.out _).mono ?_; rintro e w4 ⟨rfl, hb4⟩))
    exact ⟨rfl, hb4, rfl⟩
  · intro vals W hB ⟨h1, h3, h5, _⟩
    have h1 : vals 1 = _ := h1
    have h3 : vals 3 = _ := h3
    have h5 : vals 5 = _ := h5
    dsimp only [putsL, slotOf]
    rw [h1, h3, h5]
    go_wp2
    exact ⟨rfl, Below.refl _ _, rfl⟩
  · intro vals W hB ⟨h1, h6, _⟩
    have h1 : vals 1 = _ := h1
    have h6 : vals 6 = _ := h6
    dsimp only [putsL, slotOf]
    rw [h1, h6]
    go_wp2
    exact ⟨rfl, Below.refl _ _, rfl⟩
  · intro vals W hB ⟨h5, h7, _⟩
    have h7 : vals 7 = _ := h7
    dsimp only [putsL, slotOf]
    rw [h7]
    go_wp2
    exact ⟨rfl, Below.refl _ _, rfl⟩
  · intro vals W hB ⟨h8, _⟩
    have h8 : vals 8 = _ := h8
    dsimp only [putsL, slotOf]
    rw [h8]
    go_wp2
    exact ⟨rfl, Below.refl _ _, rfl⟩
  · intro vals W hB ⟨h8, _⟩
    have h8 : vals 8 = _ := h8
    dsimp only [putsL, slotOf]
    rw [h8]
    go_wp2
    exact ⟨rfl, Below.refl _ _, rfl⟩
  · intro vals W hB ⟨h8, h9, h10, _⟩
    have h8 : vals 8 = _ := h8
    have h9 : vals 9 = _ := h9
    have h10 : vals 10 = _ := h10
    dsimp only [putsL, slotOf]
    rw [h8, h9, h10]
    go_wp2
    exact ⟨rfl, Below.refl _ _, rfl⟩
  · intro vals W hB ⟨h8, h11, _⟩
    have h8 : vals 8 = _ := h8
    have h11 : vals 11 = _ := h11
    dsimp only [putsL, slotOf]
    rw [h8, h11]
    go_wp2
    exact ⟨rfl, Below.refl _ _, rfl⟩
  · intro vals W hB ⟨h8, h12, _⟩
    have h12 : vals 12 = _ := h12
    dsimp only [putsL, slotOf]
    rw [h12]
    go_wp2
    exact ⟨rfl, Below.refl _ _, rfl⟩
  · intro vals W hB ⟨h13, _⟩
    have h13 : vals 13 = _ := h13
    dsimp only [putsL, slotOf]
    rw [h13]
    go_wp2
    exact ⟨rfl, Below.refl _ _, rfl⟩
  · intro vals W hB ⟨h13, _⟩
    have h13 : vals 13 = _ := h13
    dsimp only [putsL, slotOf]
    rw [h13]
    go_wp2
    exact ⟨rfl, Below.refl _ _, rfl⟩
  · intro vals W hB ⟨h13, h14, h15, _⟩
    have h13 : vals 13 = _ := h13
    have h14 : vals 14 = _ := h14
    have h15 : vals 15 = _ := h15
    dsimp only [putsL, slotOf]
    rw [h13, h14, h15]
    go_wp2
    exact ⟨rfl, Below.refl _ _, rfl⟩
  · intro vals W hB ⟨h13, h16, _⟩
    have h13 : vals 13 = _ := h13
    have h16 : vals 16 = _ := h16
    dsimp only [putsL, slotOf]
    rw [h13, h16]
    go_wp2
    exact ⟨rfl, Below.refl _ _, rfl⟩
  · intro vals W hB ⟨h13, h17, _⟩
    have h17 : vals 17 = _ := h17
    dsimp only [putsL, slotOf]
    rw [h17]
    go_wp2
    exact ⟨rfl, Below.refl _ _, rfl⟩
  · intro vals W hB ⟨h18, _⟩
    have h18 : vals 18 = _ := h18
    obtain ⟨x0, x1, x2, x3⟩ := HBf.out.below hB
    dsimp only [putsL, slotOf]
    rw [h18]
    go_wp2
    exact ⟨rfl, Below.refl _ _, rfl⟩
  · intro vals W hB ⟨h18, _⟩
    have h18 : vals 18 = _ := h18
    obtain ⟨x0, x1, x2, x3⟩ := HCf.out.below hB
    dsimp only [putsL, slotOf]
    rw [h18]
    go_wp2
    exact ⟨rfl, Below.refl _ _, rfl⟩
  · intro vals W hB ⟨h18, h19, h20, _⟩
    have h18 : vals 18 = _ := h18
    have h19 : vals 19 = _ := h19
    have h20 : vals 20 = _ := h20
    dsimp only [putsL, slotOf]
    rw [h18, h19, h20]
    go_wp2
    exact ⟨rfl, Below.refl _ _, rfl⟩
  · intro vals W hB ⟨h18, h21, _⟩
    have h18 : vals 18 = _ := h18
    have h21 : vals 21 = _ := h21
    dsimp only [putsL, slotOf]
    rw [h18, h21]
    go_wp2
    exact ⟨rfl, Below.refl _ _, rfl⟩
  · intro vals W hB ⟨h18, h22, _⟩
    have h22 : vals 22 = _ := h22
    dsimp only [putsL, slotOf]
    rw [h22]
    go_wp2
    exact ⟨rfl, Below.refl _ _, rfl⟩
  · intro vals W hB ⟨h23, _⟩
    have h23 : vals 23 = _ := h23
    dsimp only [putsL, slotOf]
    rw [h23]
    go_wp2
    exact ⟨rfl, Below.refl _ _, rfl⟩
  · intro vals W hB ⟨h23, _⟩
    have h23 : vals 23 = _ := h23
    dsimp only [putsL, slotOf]
    rw [h23]
    go_wp2
    exact ⟨rfl, Below.refl _ _, rfl⟩
  · intro vals W hB ⟨h23, h24, h25, _⟩
    have h23 : vals 23 = _ := h23
    have h24 : vals 24 = _ := h24
    have h25 : vals 25 = _ := h25
    dsimp only [putsL, slotOf]
    rw [h23, h24, h25]
    go_wp2
    exact ⟨rfl, Below.refl _ _, rfl⟩
  · intro vals W hB ⟨h23, h26, _⟩
    have h23 : vals 23 = _ := h23
    have h26 : vals 26 = _ := h26
    dsimp only [putsL, slotOf]
    rw [h23, h26]
    go_wp2
    exact ⟨rfl, Below.refl _ _, rfl⟩
  · intro vals W hB ⟨h0, h1, h2, h3, h4, h5, h6, h7, h8, h9, h10, h11, h12, h13, h14, h15, h16, h17, h18, h19, h20, h21, h22, h23, h24, h25, h26, h27, _⟩
    have h27 : vals 27 = _ := h27
    dsimp only [putsL, slotOf]
    rw [h27]
    go_wp2
    exact ⟨rfl, Below.refl _ _, rfl⟩
  rintro vals W hB ⟨q0, q1, q2, q3, q4, q5, q6, q7, q8, q9, q10, q11, q12, q13, q14, q15, q16, q17, q18, q19, q20, q21, q22, q23, q24, q25, q26, q27, q28, -⟩
  have h0 : vals 0 = _ := q0
  have h1 : vals 1 = _ := q1
  have h2 : vals 2 = _ := q2
  have h3 : vals 3 = _ := q3
  have h4 : vals 4 = _ := q4
  have h5 : vals 5 = _ := q5
  have h6 : vals 6 = _ := q6
  have h7 : vals 7 = _ := q7
  have h8 : vals 8 = _ := q8
  have h9 : vals 9 = _ := q9
  have h10 : vals 10 = _ := q10
  have h11 : vals 11 = _ := q11
  have h12 : vals 12 = _ := q12
  have h13 : vals 13 = _ := q13
  have h14 : vals 14 = _ := q14
  have h15 : vals 15 = _ := q15
  have h16 : vals 16 = _ := q16
  have h17 : vals 17 = _ := q17
  have h18 : vals 18 = _ := q18
  have h19 : vals 19 = _ := q19
  have h20 : vals 20 = _ := q20
  have h21 : vals 21 = _ := q21
  have h22 : vals 22 = _ := q22
  have h23 : vals 23 = _ := q23
  have h24 : vals 24 = _ := q24
  have h25 : vals 25 = _ := q25
  have h26 : vals 26 = _ := q26
  have h27 : vals 27 = _ := q27
  have h28 : vals 28 = _ := q28
  dsimp only [putsL]
  rw [h0, h1, h2, h3, h4, h5, h6, h7, h8, h9, h10, h11, h12, h13, h14, h15, h16, h17, h18, h19, h20, h21, h22, h23, h24, h25, h26, h27, h28]
  clear h0 q0 h1 q1 h2 q2 h3 q3 h4 q4 h5 q5 h6 q6 h7 q7 h8 q8 h9 q9 h10 q10 h11 q11 h12 q12 h13 q13 h14 q14 h15 q15 h16 q16 h17 q17 h18 q18 h19 q19 h20 q20 h21 q21 h22 q22 h23 q23 h24 q24 h25 q25 h26 q26 h27 q27 h28 q28
  simp only [List.length_cons, List.length_nil, Nat.reduceAdd, List.drop_succ_cons, List.drop_zero, List.setIfInBounds_toArray, List.set_cons_succ, List.set_cons_zero]
  have HTF : Veil _ := ⟨bc_then HTf.out hB⟩
  clear hB
  go_wp2
  go_ret
  exact ⟨rfl, HTF.out⟩
end Go.Proofs.YtckkiilbabbeaaaDoor

/- The laws on the shop: ShopSizes. -/
namespace Go.Proofs.YtckkiilbabbeaaaDoor
open Go Go.RowKit Sm
attribute [local go_sem] Oper.semAt_some

theorem or_add (A B k : Nat) (hB : B < 2 ^ k) (h1 : A * 2 ^ k < 4294967296) (h2 : B < 4294967296) : bits BinOp.or IntKind.u32 ((A * 2 ^ k : Nat) : Int) (B : Int) = ((A * 2 ^ k + B : Nat) : Int) := by
  rw [u32_or_nat _ _ h1 h2, Nat.mul_comm, Nat.two_pow_add_eq_or_of_lt (i := k) hB]
/-- A number's bytes, shifted and joined. -/
theorem or_four (x : Nat) (hx : x < 4294967296) :
    bits BinOp.or IntKind.u32 ((x / 16777216 * 16777216 : Nat) : Int) ((x / 65536 % 256 * 65536 : Nat) : Int) = ((x / 65536 * 65536 : Nat) : Int) ∧
    bits BinOp.or IntKind.u32 ((x / 65536 * 65536 : Nat) : Int) ((x / 256 % 256 * 256 : Nat) : Int) = ((x / 256 * 256 : Nat) : Int) ∧
    bits BinOp.or IntKind.u32 ((x / 256 * 256 : Nat) : Int) ((x % 256 : Nat) : Int) = ((x : Nat) : Int) := by
  have e24 : (2 : Nat) ^ 24 = 16777216 := rfl
  have e16 : (2 : Nat) ^ 16 = 65536 := rfl
  have e8 : (2 : Nat) ^ 8 = 256 := rfl
  have h1 := or_add (x / 16777216) (x / 65536 % 256 * 65536) 24 (by omega) (by omega) (by omega)
  have h2 := or_add (x / 65536) (x / 256 % 256 * 256) 16 (by omega) (by omega) (by omega)
  have h3 := or_add (x / 256) (x % 256) 8 (by omega) (by omega) (by omega)
  rw [e24] at h1
  rw [e16] at h2
  rw [e8] at h3
  refine ⟨h1.trans ?_, h2.trans ?_, h3.trans ?_⟩ <;> exact congrArg _ (by omega)
theorem index_run (s : List UInt8) (i : Nat) (h : i < s.length) (W : World) : (Instr.index 9 (.string ⟨s.toArray⟩) (.int .i64 (i : Int))).run Tryd.prog W = .ok (.int .u8 (s.getD i 0).toNat) W := by
  rw [run_index_string _ _ _ _ _ Tryd.underlying9]
  have h' : (0 : Int) ≤ (i : Int) ∧ (i : Int) < ((⟨s.toArray⟩ : ByteArray).size : Int) := by simp only [ByteArray.size, List.size_toArray]; omega
  rw [dif_pos h']
  have e : (⟨s.toArray⟩ : ByteArray)[(i : Int).toNat]'(by simpa [ByteArray.size] using h) = s.getD i 0 := by
    simp [List.getD, h]
    rfl
  rw [e]
theorem keyLi_get (m : Li) (i : Nat) (hi : i < 4) : ((keyLi m).getD i 0).toNat = m.src / 256 ^ (3 - i) % 256 := by
  have e : (keyLi m).getD i 0 = byteAt m.src (3 - i) := by
    unfold keyLi
    rw [List.getD_eq_getElem?_getD, List.getElem?_append_left (by simpa using hi)]
    simp [putB, hi]
  rw [e]
  unfold byteAt
  simp [Nat.toUInt8]

theorem key_bytes (m : Li) (hx : m.src < 4294967296) : ∃ B0 B1 B2 B3 X0 X1 X2 Y1 Y2 : Int,
    ((((keyLi m).getD 0 0).toNat : Nat) : Int) = B0 ∧ ((((keyLi m).getD 1 0).toNat : Nat) : Int) = B1 ∧ ((((keyLi m).getD 2 0).toNat : Nat) : Int) = B2 ∧ ((((keyLi m).getD 3 0).toNat : Nat) : Int) = B3 ∧
    B0 * 16777216 = X0 ∧ B1 * 65536 = X1 ∧ B2 * 256 = X2 ∧
    bits BinOp.or IntKind.u32 X0 X1 = Y1 ∧ bits BinOp.or IntKind.u32 Y1 X2 = Y2 ∧ bits BinOp.or IntKind.u32 Y2 B3 = (m.src : Int) ∧
    0 ≤ B0 ∧ B0 < 256 ∧ 0 ≤ B1 ∧ B1 < 256 ∧ 0 ≤ B2 ∧ B2 < 256 ∧ 0 ≤ B3 ∧ B3 < 256 := by
  obtain ⟨o1, o2, o3⟩ := or_four m.src hx
  have g0 := keyLi_get m 0 (by decide)
  have g1 := keyLi_get m 1 (by decide)
  have g2 := keyLi_get m 2 (by decide)
  have g3 := keyLi_get m 3 (by decide)
  rw [show (256 : Nat) ^ (3 - 0) = 16777216 from rfl] at g0
  rw [show (256 : Nat) ^ (3 - 1) = 65536 from rfl] at g1
  rw [show (256 : Nat) ^ (3 - 2) = 256 from rfl] at g2
  rw [show (256 : Nat) ^ (3 - 3) = 1 from rfl, Nat.div_one] at g3
  rw [g0, g1, g2, g3]
  have a0 : ((m.src / 16777216 % 256 : Nat) : Int) * 16777216 = ((m.src / 16777216 * 16777216 : Nat) : Int) := by omega
  have a1 : ((m.src / 65536 % 256 : Nat) : Int) * 65536 = ((m.src / 65536 % 256 * 65536 : Nat) : Int) := by omega
  have a2 : ((m.src / 256 % 256 : Nat) : Int) * 256 = ((m.src / 256 % 256 * 256 : Nat) : Int) := by omega
  exact ⟨_, _, _, _, _, _, _, _, _, rfl, rfl, rfl, rfl, a0, a1, a2, o1, o2, o3, by omega, by omega, by omega, by omega, by omega, by omega, by omega, by omega⟩
set_option maxRecDepth 20000 in
set_option maxHeartbeats 4000000 in
theorem shopSizes_any (m : Li) (hm : m.Ok) (w : World) (hS : MSent w) : Calls Tryd.prog 8 #[m.v] w fun e w' => e = .returned (.bool true) ∧ Below w.heap.size w w' := by
  have P1 : Veil (∀ W, Below w.heap.size w W → _) := ⟨fun W hb => shbytes_any m hm W (hS.below hb)⟩
  have HSm : Veil (∀ W, Below w.heap.size w W → MSent W) := ⟨fun W hb => hS.below hb⟩
  have PR : Veil _ := ⟨fun w => shright_any m hm w⟩
  by_cases hr : rightLi m = true
  · have e : bytesLi m = (keyLi m, 0) := by unfold bytesLi; rw [if_pos hr]
    rw [e] at P1
    dsimp only at P1
    have hx := hm.src
    have hlen : ((⟨(keyLi m).toArray⟩ : ByteArray).size : Int) = 22 := by simp [ByteArray.size, keyLi_len]
    obtain ⟨B0, B1, B2, B3, X0, X1, X2, Y1, Y2, e0, e1, e2, e3, s0, s1, s2, o1, o2, o3, b0, b0', b1, b1', b2, b2', b3, b3'⟩ := key_bytes m hx
    have S0 : Veil _ := ⟨s0⟩
    have S1 : Veil _ := ⟨s1⟩
    have S2 : Veil _ := ⟨s2⟩
    have gg : ∀ i : Nat, i < 22 → ∀ h : i < (⟨(keyLi m).toArray⟩ : ByteArray).size, (⟨(keyLi m).toArray⟩ : ByteArray)[i]'h = (keyLi m).getD i 0 := fun i hi h => by
      have hl : i < (keyLi m).length := by rw [keyLi_len]; exact hi
      simp [List.getD, hl]
      rfl
    have g0 : ∀ h, ((((⟨(keyLi m).toArray⟩ : ByteArray)[0]'h).toNat : Nat) : Int) = B0 := fun h => by rw [gg 0 (by decide) h]; exact e0
    have g1 : ∀ h, ((((⟨(keyLi m).toArray⟩ : ByteArray)[1]'h).toNat : Nat) : Int) = B1 := fun h => by rw [gg 1 (by decide) h]; exact e1
    have g2 : ∀ h, ((((⟨(keyLi m).toArray⟩ : ByteArray)[2]'h).toNat : Nat) : Int) = B2 := fun h => by rw [gg 2 (by decide) h]; exact e2
    have g3 : ∀ h, ((((⟨(keyLi m).toArray⟩ : ByteArray)[3]'h).toNat : Nat) : Int) = B3 := fun h => by rw [gg 3 (by decide) h]; exact e3
    clear gg s0 s1 s2
    generalize (⟨(keyLi m).toArray⟩ : ByteArray) = S at *
    clear e0 e1 e2 e3 hx e hr hm PR
    obtain ⟨f, i, n, mo⟩ := m
    unfold Li.v at *
    dsimp only at *
    generalize (f : Int) = F at *
    have HA0 : Veil _ := ⟨LiBox.new w F i n mo 27⟩
    have hT : Below w.heap.size w (w.alloc (.cells #[.int .u32 F, .int .u16 i, .int .i64 n, .int .i64 mo] 27)) := below_al (Below.refl _ _) _
    go_enter Tryd.func8, Tryd.ntmps8
    go_wp2_with (first
      | (go_at_call 10; refine (P1.out _ hT).mono ?_; rintro e w2 ⟨rfl, hb2⟩; have HT : Veil _ := ⟨bc_then hT hb2⟩; have HA : Veil _ := ⟨HA.out.below hb2⟩; clear hb2)
      | (go_at_call 9; refine (shown15_any _ (HSm.out _ hT)).mono ?_; rintro e w1 ⟨rfl, hb1⟩; have hT := bc_then hT hb1; have HA : Veil _ := ⟨HA0.out.below hb1⟩; obtain ⟨x0, x1, x2, x3⟩ := HA.out))
    clear x0 x1 x2 x3
    refine region_new [.is (.bool true), .is (.bool true), .is (.string S), .is (.int .i64 22), .is (.bool true), .is (.bool true), .is (.bool true), .is (.string S), .is (.int .u8 B0), .is (.int .u32 B0), .is (.int .u32 X0), .is (.string S), .is (.int .u8 B1), .is (.int .u32 B1), .is (.int .u32 X1), .is (.int .u32 Y1), .is (.string S), .is (.int .u8 B2), .is (.int .u32 B2), .is (.int .u32 X2), .is (.int .u32 Y2), .is (.string S), .is (.int .u8 B3), .is (.int .u32 B3), .is (.int .u32 F), .is (.pointer (some ⟨w.heap.size, 0, none⟩)), .is (.int .u32 F), .is (.bool true), .is (.bool true), .is (.bool true)]
      [[], [(0, 24)], [(1, 25)], [(1, 25), (2, 26)], [(1, 25), (3, 27)], [(1, 25), (4, 28)], [(5, 29)], [(6, 30)], [(6, 30), (7, 31)], [(6, 30), (8, 32)], [(6, 30), (9, 33)], [(6, 30)], [(6, 30), (11, 35)], [(6, 30), (12, 36)], [(6, 30), (13, 37)], [(6, 30), (10, 34), (14, 38)], [(6, 30)], [(6, 30), (16, 40)], [(6, 30), (17, 41)], [(6, 30), (18, 42)], [(6, 30), (15, 39), (19, 43)], [(6, 30)], [(6, 30), (21, 45)], [(6, 30), (22, 46)], [(6, 30), (20, 44), (23, 47)], [(6, 30)], [(6, 30), (25, 49)], [(6, 30), (24, 48), (26, 50)], [(6, 30), (27, 51)], [(28, 52)]]
      [[], [0], [1], [1, 2], [1, 3], [1, 4], [1, 5], [6], [6, 7], [6, 8], [6, 9], [6], [6, 11], [6, 12], [6, 13], [6, 10, 14], [6], [6, 16], [6, 17], [6, 18], [6, 15, 19], [6], [6, 21], [6, 22], [6, 20, 23], [6], [6, 25], [6, 24, 26], [6, 27], [0, 1, 2, 3, 4, 5, 6, 7, 8, 9, 10, 11, 12, 13, 14, 15, 16, 17, 18, 19, 20, 21, 22, 23, 24, 25, 26, 27, 28]]
      [(0, 24), (1, 25), (2, 26), (3, 27), (4, 28), (5, 29), (6, 30), (7, 31), (8, 32), (9, 33), (10, 34), (11, 35), (12, 36), (13, 37), (14, 38), (15, 39), (16, 40), (17, 41), (18, 42), (19, 43), (20, 44), (21, 45), (22, 46), (23, 47), (24, 48), (25, 49), (26, 50), (27, 51), (28, 52), (29, 2)] rfl (by kernel_rfl) ⟨?_, ?_, ?_, ?_, ?_, ?_, ?_, ?_, ?_, ?_, ?_, ?_, ?_, ?_, ?_, ?_, ?_, ?_, ?_, ?_, ?_, ?_, ?_, ?_, ?_, ?_, ?_, ?_, ?_, ?_, trivial⟩ ?_
    · intro vals W hB _
      dsimp only [putsL, slotOf]
      go_wp2
      exact ⟨rfl, Below.refl _ _, rfl⟩
    · intro vals W hB ⟨h0, _⟩
      have h0 : vals 0 = _ := h0
      dsimp only [putsL, slotOf]
      rw [h0]
      go_wp2
      exact ⟨rfl, Below.refl _ _, rfl⟩
    · intro vals W hB ⟨h1, _⟩
      have h1 : vals 1 = _ := h1
      dsimp only [putsL, slotOf]
      rw [h1]
      go_wp2
      exact ⟨rfl, Below.refl _ _, rfl⟩
    · intro vals W hB ⟨h1, h2, _⟩
      have h1 : vals 1 = _ := h1
      have h2 : vals 2 = _ := h2
      dsimp only [putsL, slotOf]
      rw [h1, h2]
      go_wp2
      exact ⟨rfl, Below.refl _ _, rfl⟩
    · intro vals W hB ⟨h1, h3, _⟩
      have h1 : vals 1 = _ := h1
      have h3 : vals 3 = _ := h3
      dsimp only [putsL, slotOf]
      rw [h1, h3]
      go_wp2
      exact ⟨rfl, Below.refl _ _, rfl⟩
    · intro vals W hB ⟨h1, h4, _⟩
      have h1 : vals 1 = _ := h1
      have h4 : vals 4 = _ := h4
      dsimp only [putsL, slotOf]
      rw [h1, h4]
      go_wp2
      exact ⟨rfl, Below.refl _ _, rfl⟩
    · intro vals W hB ⟨h1, h5, _⟩
      have h5 : vals 5 = _ := h5
      dsimp only [putsL, slotOf]
      rw [h5]
      go_wp2
      exact ⟨rfl, Below.refl _ _, rfl⟩
    · intro vals W hB ⟨h6, _⟩
      have h6 : vals 6 = _ := h6
      dsimp only [putsL, slotOf]
      rw [h6]
      go_wp2
      exact ⟨rfl, Below.refl _ _, rfl⟩
    · intro vals W hB ⟨h6, h7, _⟩
      have h6 : vals 6 = _ := h6
      have h7 : vals 7 = _ := h7
      dsimp only [putsL, slotOf]
      rw [h6, h7]
      go_wp2
      exact ⟨rfl, Below.refl _ _, rfl⟩
    · intro vals W hB ⟨h6, h8, _⟩
      have h6 : vals 6 = _ := h6
      have h8 : vals 8 = _ := h8
      dsimp only [putsL, slotOf]
      rw [h6, h8]
      go_wp2
      exact ⟨rfl, Below.refl _ _, rfl⟩
    · intro vals W hB ⟨h6, h9, _⟩
      have h6 : vals 6 = _ := h6
      have h9 : vals 9 = _ := h9
      dsimp only [putsL, slotOf]
      rw [h6, h9]
      go_wp2
      exact ⟨rfl, Below.refl _ _, congrArg (fun x => Value.int .u32 x) S0.out⟩
    · intro vals W hB ⟨h6, _⟩
      have h6 : vals 6 = _ := h6
      dsimp only [putsL, slotOf]
      rw [h6]
      go_wp2
      exact ⟨rfl, Below.refl _ _, rfl⟩
    · intro vals W hB ⟨h6, h11, _⟩
      have h6 : vals 6 = _ := h6
      have h11 : vals 11 = _ := h11
      dsimp only [putsL, slotOf]
      rw [h6, h11]
      go_wp2
      exact ⟨rfl, Below.refl _ _, rfl⟩
    · intro vals W hB ⟨h6, h12, _⟩
      have h6 : vals 6 = _ := h6
      have h12 : vals 12 = _ := h12
      dsimp only [putsL, slotOf]
      rw [h6, h12]
      go_wp2
      exact ⟨rfl, Below.refl _ _, rfl⟩
    · intro vals W hB ⟨h6, h13, _⟩
      have h6 : vals 6 = _ := h6
      have h13 : vals 13 = _ := h13
      dsimp only [putsL, slotOf]
      rw [h6, h13]
      go_wp2
      exact ⟨rfl, Below.refl _ _, congrArg (fun x => Value.int .u32 x) S1.out⟩
    · intro vals W hB ⟨h6, h10, h14, _⟩
      have h6 : vals 6 = _ := h6
      have h10 : vals 10 = _ := h10
      have h14 : vals 14 = _ := h14
      dsimp only [putsL, slotOf]
      rw [h6, h10, h14]
      go_wp2
      exact ⟨rfl, Below.refl _ _, rfl⟩
    · intro vals W hB ⟨h6, _⟩
      have h6 : vals 6 = _ := h6
      dsimp only [putsL, slotOf]
      rw [h6]
      go_wp2
      exact ⟨rfl, Below.refl _ _, rfl⟩
    · intro vals W hB ⟨h6, h16, _⟩
      have h6 : vals 6 = _ := h6
      have h16 : vals 16 = _ := h16
      dsimp only [putsL, slotOf]
      rw [h6, h16]
      go_wp2
      exact ⟨rfl, Below.refl _ _, rfl⟩
    · intro vals W hB ⟨h6, h17, _⟩
      have h6 : vals 6 = _ := h6
      have h17 : vals 17 = _ := h17
      dsimp only [putsL, slotOf]
      rw [h6, h17]
      go_wp2
      exact ⟨rfl, Below.refl _ _, rfl⟩
    · intro vals W hB ⟨h6, h18, _⟩
      have h6 : vals 6 = _ := h6
      have h18 : vals 18 = _ := h18
      dsimp only [putsL, slotOf]
      rw [h6, h18]
      go_wp2
      exact ⟨rfl, Below.refl _ _, congrArg (fun x => Value.int .u32 x) S2.out⟩
    · intro vals W hB ⟨h6, h15, h19, _⟩
      have h6 : vals 6 = _ := h6
      have h15 : vals 15 = _ := h15
      have h19 : vals 19 = _ := h19
      dsimp only [putsL, slotOf]
      rw [h6, h15, h19]
      go_wp2
      exact ⟨rfl, Below.refl _ _, rfl⟩
    · intro vals W hB ⟨h6, _⟩
      have h6 : vals 6 = _ := h6
      dsimp only [putsL, slotOf]
      rw [h6]
      go_wp2
      exact ⟨rfl, Below.refl _ _, rfl⟩
    · intro vals W hB ⟨h6, h21, _⟩
      have h6 : vals 6 = _ := h6
      have h21 : vals 21 = _ := h21
      dsimp only [putsL, slotOf]
      rw [h6, h21]
      go_wp2
      exact ⟨rfl, Below.refl _ _, rfl⟩
    · intro vals W hB ⟨h6, h22, _⟩
      have h6 : vals 6 = _ := h6
      have h22 : vals 22 = _ := h22
      dsimp only [putsL, slotOf]
      rw [h6, h22]
      go_wp2
      exact ⟨rfl, Below.refl _ _, rfl⟩
    · intro vals W hB ⟨h6, h20, h23, _⟩
      have h6 : vals 6 = _ := h6
      have h20 : vals 20 = _ := h20
      have h23 : vals 23 = _ := h23
      dsimp only [putsL, slotOf]
      rw [h6, h20, h23]
      go_wp2
      exact ⟨rfl, Below.refl _ _, rfl⟩
    · intro vals W hB ⟨h6, _⟩
      have h6 : vals 6 = _ := h6
      dsimp only [putsL, slotOf]
      rw [h6]
      go_wp2
      exact ⟨rfl, Below.refl _ _, rfl⟩
    · intro vals W hB ⟨h6, h25, _⟩
      have h6 : vals 6 = _ := h6
      have h25 : vals 25 = _ := h25
      obtain ⟨x0, x1, x2, x3⟩ := HA.out.below hB
      dsimp only [putsL, slotOf]
      rw [h6, h25]
      go_wp2
      exact ⟨rfl, Below.refl _ _, rfl⟩
    · intro vals W hB ⟨h6, h24, h26, _⟩
      have h6 : vals 6 = _ := h6
      have h24 : vals 24 = _ := h24
      have h26 : vals 26 = _ := h26
      dsimp only [putsL, slotOf]
      rw [h6, h24, h26]
      go_wp2
      exact ⟨rfl, Below.refl _ _, rfl⟩
    · intro vals W hB ⟨h6, h27, _⟩
      have h6 : vals 6 = _ := h6
      have h27 : vals 27 = _ := h27
      dsimp only [putsL, slotOf]
      rw [h6, h27]
      go_wp2
      exact ⟨rfl, Below.refl _ _, rfl⟩
    · intro vals W hB ⟨h0, h1, h2, h3, h4, h5, h6, h7, h8, h9, h10, h11, h12, h13, h14, h15, h16, h17, h18, h19, h20, h21, h22, h23, h24, h25, h26, h27, h28, _⟩
      have h28 : vals 28 = _ := h28
      dsimp only [putsL, slotOf]
      rw [h28]
      go_wp2
      exact ⟨rfl, Below.refl _ _, rfl⟩
    rintro vals W hB ⟨q0, q1, q2, q3, q4, q5, q6, q7, q8, q9, q10, q11, q12, q13, q14, q15, q16, q17, q18, q19, q20, q21, q22, q23, q24, q25, q26, q27, q28, q29, -⟩
    have h0 : vals 0 = _ := q0
    have h1 : vals 1 = _ := q1
    have h2 : vals 2 = _ := q2
    have h3 : vals 3 = _ := q3
    have h4 : vals 4 = _ := q4
    have h5 : vals 5 = _ := q5
    have h6 : vals 6 = _ := q6
    have h7 : vals 7 = _ := q7
    have h8 : vals 8 = _ := q8
    have h9 : vals 9 = _ := q9
    have h10 : vals 10 = _ := q10
    have h11 : vals 11 = _ := q11
    have h12 : vals 12 = _ := q12
    have h13 : vals 13 = _ := q13
    have h14 : vals 14 = _ := q14
    have h15 : vals 15 = _ := q15
    have h16 : vals 16 = _ := q16
    have h17 : vals 17 = _ := q17
    have h18 : vals 18 = _ := q18
    have h19 : vals 19 = _ := q19
    have h20 : vals 20 = _ := q20
    have h21 : vals 21 = _ := q21
    have h22 : vals 22 = _ := q22
    have h23 : vals 23 = _ := q23
    have h24 : vals 24 = _ := q24
    have h25 : vals 25 = _ := q25
    have h26 : vals 26 = _ := q26
    have h27 : vals 27 = _ := q27
    have h28 : vals 28 = _ := q28
    have h29 : vals 29 = _ := q29
    dsimp only [putsL]
    rw [h0, h1, h2, h3, h4, h5, h6, h7, h8, h9, h10, h11, h12, h13, h14, h15, h16, h17, h18, h19, h20, h21, h22, h23, h24, h25, h26, h27, h28, h29]
    clear h0 q0 h1 q1 h2 q2 h3 q3 h4 q4 h5 q5 h6 q6 h7 q7 h8 q8 h9 q9 h10 q10 h11 q11 h12 q12 h13 q13 h14 q14 h15 q15 h16 q16 h17 q17 h18 q18 h19 q19 h20 q20 h21 q21 h22 q22 h23 q23 h24 q24 h25 q25 h26 q26 h27 q27 h28 q28 h29 q29
    simp only [List.length_cons, List.length_nil, Nat.reduceAdd, List.drop_succ_cons, List.drop_zero, List.setIfInBounds_toArray, List.set_cons_succ, List.set_cons_zero]
    have HTF : Veil _ := ⟨bc_then HT.out hB⟩
    clear hB
    go_wp2
    go_ret
    exact ⟨rfl, HTF.out⟩
  · have e : bytesLi m = ([], 150) := by unfold bytesLi; rw [if_neg hr]
    have hf : rightLi m = false := by simpa using hr
    rw [e] at P1
    rw [hf] at PR
    clear e hf hr hm
    obtain ⟨f, i, n, mo⟩ := m
    unfold Li.v at *
    dsimp only at *
    have HA0 : Veil _ := ⟨LiBox.new w f i n mo 27⟩
    have hT : Below w.heap.size w (w.alloc (.cells #[.int .u32 f, .int .u16 i, .int .i64 n, .int .i64 mo] 27)) := below_al (Below.refl _ _) _
    go_enter Tryd.func8, Tryd.ntmps8
    go_wp2_with (first
      | (go_at_call 14; refine (PR.out _).mono ?_; rintro e w3 ⟨rfl, hb3⟩; have HT : Veil _ := ⟨bc_then HT.out hb3⟩; clear hb3)
      | (go_at_call 10; refine (P1.out _ hT).mono ?_; rintro e w2 ⟨rfl, hb2⟩; have HT : Veil _ := ⟨bc_then hT hb2⟩; have HA : Veil _ := ⟨HA.out.below hb2⟩; clear hb2; obtain ⟨x0, x1, x2, x3⟩ := HA.out)
      | (go_at_call 9; refine (shown15_any _ (HSm.out _ hT)).mono ?_; rintro e w1 ⟨rfl, hb1⟩; have hT := bc_then hT hb1; have HA : Veil _ := ⟨HA0.out.below hb1⟩; obtain ⟨x0, x1, x2, x3⟩ := HA.out))
    go_ret
    exact ⟨rfl, HT.out⟩
end Go.Proofs.YtckkiilbabbeaaaDoor

/- The law's cut of goods: the first thirty stacks, in new memory. -/
namespace Go.Proofs.YtckkiilbabbeaaaDoor
open Go Go.RowKit Sm
attribute [local go_sem] Oper.semAt_some

set_option maxRecDepth 20000 in
set_option maxHeartbeats 2000000 in
theorem cutG15_own {w : World} {p : Option Addr} (l : List St) (lc : Nat) (hin : InL elS w p l lc) :
    Calls Tryd.prog 16 #[.slice p l.length lc] w fun e w' => ∃ g, e = .returned (.slice (some ⟨g, 0, none⟩) (l.take 30).length 30) ∧ FreshE elS w.heap.size w' (.slice (some ⟨g, 0, none⟩) (l.take 30).length 30) (l.take 30) ∧ Below w.heap.size w w' := by
  obtain ⟨m, hm⟩ : ∃ m, min l.length 30 = m := ⟨_, rfl⟩
  have hmin : ∀ W, (Builtin.min_ #[3, 3] 3 #[.int .i64 (l.length : Int), .int .i64 30]).run Tryd.prog W = .ok (.int .i64 (m : Int)) W := by rw [← hm]; exact min_two l.length 30
  have hml : m ≤ l.length := by omega
  have hm4 : Veil (m ≤ 30) := ⟨by omega⟩
  have hlt : Veil ((l.take 30).length = m) := ⟨by rw [List.length_take, ← hm, Nat.min_comm]⟩
  have HS : Veil _ := ⟨hin.els.take 30⟩
  have hle := hin.le
  have hcap := hin.cap
  have hform := hin.form
  generalize l.take 30 = T at HS hlt ⊢
  clear hm hin
  obtain ⟨i0, hi0, hz0, hz1, hz2⟩ := info_parts elS.info
  have HI : Veil (Tryd.prog.info? 25 = some i0 ∧ i0.zero = some (.agg #[.int .u16 0, .int .i64 0]) ∧ i0.size = 2 ∧ i0.bytes = 16) := ⟨hi0, hz0, hz1, hz2⟩
  clear hi0 hz0 hz1 hz2
  have hsl : ∀ W, (Instr.slice 38 (.slice p l.length lc) none (some (.int .i64 (m : Int))) none).run Tryd.prog W = .ok (.slice p m lc) W := by
    intro W
    rcases hform with ⟨rfl, rfl, rfl⟩ | ⟨b, o, rfl⟩
    · obtain rfl : m = 0 := by simpa using hml
      go_simp
    · have hmc : m ≤ lc := by omega
      go_simp
  have hnone : p = none → lc = 0 := by
    intro h
    rcases hform with ⟨_, _, h3⟩ | ⟨b, o, h1⟩
    · exact h3
    · rw [h] at h1; cases h1
  clear hform
  go_enter Tryd.func16, Tryd.ntmps16
  go_wp2
  obtain ⟨W5, hW5⟩ : ∃ W5, w.drew = W5 := ⟨_, rfl⟩
  have HX5 : Veil (Below w.heap.size w W5) := ⟨by rw [← hW5]; exact (Below.refl _ _).drew⟩
  refine region_plan 6 [(true, 1), (true, 2), (true, 3), (true, 4), (true, 5), (false, 0)] (by kernel_rfl) (by kernel_rfl) (fun _ => True) W5 hW5 trivial ?_
  clear hW5
  simp only [planOps, List.filterMap_cons, List.filterMap_nil, List.getElem?_toArray, List.getElem?_cons_zero, List.getElem?_cons_succ, Option.map_some]
  iterate 4 (refine plan_quiet rfl ?_ ?_ (fun K hK => ?_); rotate_left; (rintro w' s0; go_simp; rfl); (go_simp; refine hK _ ?_; clear hK K))
  refine plan_quiet rfl (.slice p m lc) (fun w' _ => ?_) (fun K hK => ?_)
  · go_simp
  go_simp
  refine hK _ ?_
  clear hK K
  refine plan_change (fun K hK => ?_)
  refine wpList_make_own W5 rfl (.const (.int .i64 0)) (.const (.int .i64 30)) 38 rfl W5.heap.size 25 i0 _ 2 Tryd.underlying38 HI.out.1 HI.out.2.1 HI.out.2.2.1 .i64 .i64 30 30 rfl rfl rfl (by rw [HI.out.2.2.2]; decide) (by unfold maxLen; decide) (Nat.le_refl _) ?_
  intro w6 hown6 hgrow6
  have hT6 : Turned (fun _ => False) W5 w6 := Turned.grown hgrow6 (fun k hk => by cases hk)
  refine wpList_nil ?_
  refine hK _ _ trivial ?_
  clear hK K
  refine wpPlan_nil ?_
  simp only [List.drop_succ_cons, List.drop_zero]
  have HX6 : Veil (Below w.heap.size w w6) := ⟨HX5.out.trans (hT6.toBelow HX5.out.size (fun _ _ h => h.elim))⟩
  have HS6 : Veil _ := ⟨((HS.out.below HX6.out).news)⟩
  have HO6 : Veil _ := ⟨hown6⟩
  have HZ : Veil (w.heap.size ≤ W5.heap.size) := ⟨HX5.out.size⟩
  clear hown6 hgrow6 hT6 hmin hsl
  obtain ⟨G, hG⟩ : ∃ G, W5.heap.size = G := ⟨_, rfl⟩
  rw [hG] at HO6 HZ ⊢
  clear hG HX5
  go_wp2_with (refine wpList_append_fits_any w6 rfl (.tmp 3) (.tmp 8) 38 rfl G 25 i0 2 Tryd.underlying38 HI.out.1 HI.out.2.2.1 G 0 30 [] rfl HO6.out p m lc (elCells elS T) rfl (by rw [elCells_len, hlt.out]; rfl) (fun e => ⟨by have := hnone e; omega, hnone e⟩) HS6.out (elCells_one elS T) (by have := hm4.out; omega) ?_; intro w7 hown7 hgrow7)
  refine only_normal ?_
  have HX7 : Veil (Below w.heap.size w w7) := ⟨HX6.out.trans ((Turned.grown (F := (· = G)) hgrow7 (fun k hk _ => (Option.some.inj hk).symm)).toBelow HX6.out.size (fun j _ e => by have := HZ.out; omega))⟩
  have HO7 : Veil (OwnE elS w7 G (.slice (some ⟨G, 0, none⟩) m 30) T) := ⟨by unfold OwnE; rw [hlt.out]; have h7 := hown7; simp only [Nat.zero_add, List.nil_append] at h7; exact h7⟩
  clear hown7 hgrow7
  go_wp2
  go_ret
  exact ⟨G, by rw [hlt.out]; rfl, by rw [hlt.out]; exact HO7.out.fresh HZ.out, HX7.out⟩
theorem cutG15_any {w : World} {p : Option Addr} (l : List St) (lc : Nat) (hin : InL elS w p l lc) :
    Calls Tryd.prog 16 #[.slice p l.length lc] w (FreshPost elS w (l.take 30)) :=
  (cutG15_own l lc hin).mono fun _ _ ⟨_, h1, h2, h3⟩ => ⟨_, h1, h2, h3⟩
end Go.Proofs.YtckkiilbabbeaaaDoor
