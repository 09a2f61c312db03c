/- The laws on mail: MailSends. -/
import Derived.Test.YtfjjodkapofgjaaDoorKK9
import Derived.Test.YtfjjodkapofgjaaDoorKJ9
import Derived.Test.YtfjjodkapofgjaaDoorKI7
namespace Go.Proofs.YtfjjodkapofgjaaDoor
open Go Go.RowKit Sm
attribute [local go_sem] Oper.semAt_some

theorem sameK_els {w : World} {p q : Option Addr} (a b : List St) (h : a = b) (ca cb : Nat) (ha : Els elS w p a) (hb : Els elS w q b) (hl : a.length ≤ 1000) :
    Calls Tryd.prog 18 #[.slice p a.length ca, .slice q b.length cb] w fun e w' => e = .returned (.bool true) ∧ Below w.heap.size w w' := by
  subst h
  exact sameG_here a _ ca _ cb ha hb rfl rfl hl
abbrev SendAtP (w0 : World) (f : FuncId) (a : Ac) (l : List St) (m : Ml) (B : Ac) (T : List St) (c : Int) : Prop := ∀ (p : Option Addr) (lc : Nat) (W : World), Below w0.heap.size w0 W → InL elS W p l lc → Calls Tryd.prog f #[a.v, .slice p l.length lc, m.v] W (MailPost W B T c)
abbrev SendAt (f : FuncId) (a : Ac) (l : List St) (m : Ml) (B : Ac) (T : List St) (c : Int) : Prop := ∀ (p : Option Addr) (lc : Nat) (W : World), Els elS W p l → Calls Tryd.prog f #[a.v, .slice p l.length lc, m.v] W (MailPost W B T c)
end Go.Proofs.YtfjjodkapofgjaaDoor

/- The laws on mail: MailBack. -/
namespace Go.Proofs.YtfjjodkapofgjaaDoor
open Go Go.RowKit Sm
attribute [local go_sem] Oper.semAt_some

theorem spend_ok64 (a : Ac) (n : Int) : (spendA a n).1.Ok := by
  by_cases h : (spendA a n).2 = 0
  · obtain ⟨-, -, -, h4, h5⟩ := spendA_ok a n h
    rw [h4]; exact am_ok h5
  · unfold spendA at h ⊢
    by_cases hr : rightA a = true
    · rw [if_pos hr] at h ⊢
      by_cases h1 : (subA a.w n).2 = 0
      · rw [if_pos h1] at h; exact absurd rfl h
      · rw [if_neg h1]; exact zero_ok
    · rw [if_neg hr]; exact zero_ok
theorem send_w (a : Ac) (l : List St) (m : Ml) (hi : m.item < 65536) (h : GdW l) : GdW (sendM a l m).2.1 := by
  unfold sendM
  split
  · split
    · split
      · split
        · exact h
        · split
          · exact takeG_w h hi
          · exact GdW.nil
      · exact GdW.nil
    · exact GdW.nil
  · exact GdW.nil
theorem send_ok64 (a : Ac) (l : List St) (m : Ml) : (sendM a l m).1.Ok := by
  unfold sendM
  split
  · split
    · split
      · split
        · exact spend_ok64 _ _
        · split
          · exact spend_ok64 _ _
          · exact zero_ok
      · exact zero_ok
    · exact zero_ok
  · exact zero_ok
set_option maxRecDepth 20000 in
set_option maxHeartbeats 8000000 in
theorem mailBack_any {w : World} {p : Option Addr} (a : Ac) (ha : a.Ok) (l : List St) (lc : Nat) (hin : InL elS w p l lc) (m : Ml) (hm : m.Ok) (s : List UInt8) (hs : s.length ≤ 9223372036854775807) (hgd : GdW l) (hS : MSent w) :
    Calls Tryd.prog 4 #[a.v, .slice p l.length lc, m.v, .string ⟨s.toArray⟩] w fun e w' => e = .returned (.bool true) ∧ Below w.heap.size w w' := by
  have hcut : Veil (∀ W, Below w.heap.size w W → Calls Tryd.prog 15 #[.slice p l.length lc] W (FreshPost elS W (l.take 30))) := ⟨fun W hW => cutG14_any l lc ⟨hin.els.below hW, hin.spot, hin.nil0, hin.le, hin.cap⟩⟩
  have hl30 := take30 l
  have hgL := hgd.take 30
  generalize l.take 30 = L at hcut hl30 hgL
  have HSm : Veil (∀ W, Below w.heap.size w W → MSent W) := ⟨fun W hb => hS.below hb⟩
  have hmin : ∀ W, (Builtin.min_ #[3, 3] 3 #[.int .i64 (s.length : Int), .int .i64 40]).run Tryd.prog W = .ok (.int .i64 ((min s.length 40 : Nat) : Int)) W := min_two s.length 40
  have hX := take_extM s 40
  have hk2 : min s.length 40 ≤ s.length := Nat.min_le_left _ _
  have ht : (s.take 40).length ≤ 40 := by rw [List.length_take]; omega
  generalize s.take 40 = t at hX ht
  generalize min s.length 40 = k at hmin hX hk2
  have P1 : Veil (∀ W, Below w.heap.size w W → _) := ⟨fun W hb => mlbytes_any m hm W (hS.below hb)⟩
  have P2 : Veil _ := ⟨fun w => mlparse_any (bytesMl m).1 (by have := bytesMl_len m; omega) w⟩
  have P3 : Veil _ := ⟨fun w => mlparse_any t (by omega) w⟩
  have P4 : Veil (∀ W, Below w.heap.size w W → _) := ⟨fun W hb => mlbytes_any (parseM t).1 (parseM_ok t) W (hS.below hb)⟩
  have P5 : Veil (SendAtP w 16 a L m (sendM a L m).1 (sendM a L m).2.1 (sendM a L m).2.2) := ⟨fun p lc W hb h => mlsend_any a ha L lc m hm h (by omega) hgL (hS.below hb)⟩
  have hXl := sendM_len a L m hl30
  have P6 : Veil (SendAtP w 17 (sendM a L m).1 (sendM a L m).2.1 m (claimM (sendM a L m).1 (sendM a L m).2.1 m).1 (claimM (sendM a L m).1 (sendM a L m).2.1 m).2.1 (claimM (sendM a L m).1 (sendM a L m).2.1 m).2.2) := ⟨fun p lc W hb h => mlclaim_any _ (send_ok64 a L m) _ lc m hm h (by omega) (send_w a L m hm.item hgL) (hS.below hb)⟩
  have F1 : (bytesMl m).2 ≠ 0 ∨ (bytesMl m).2 = 0 ∧ parseM (bytesMl m).1 = (m, 0) := by
    by_cases h : (bytesMl m).2 = 0
    · exact .inr ⟨h, bytesMl_back m hm h⟩
    · exact .inl h
  have F2 : (parseM t).2 ≠ 0 ∨ (parseM t).2 = 0 ∧ bytesMl (parseM t).1 = (t, 0) := by
    by_cases h : (parseM t).2 = 0
    · exact .inr ⟨h, parseM_back t h⟩
    · exact .inl h
  have F3 : (sendM a L m).2.2 ≠ 0 ∨ (sendM a L m).2.2 = 0 ∧ claimM (sendM a L m).1 (sendM a L m).2.1 m = (a, L, 0) := by
    by_cases h : (sendM a L m).2.2 = 0
    · exact .inr ⟨h, send_claim a L m h⟩
    · exact .inl h
  have HLN : Veil (L.length ≤ 30) := ⟨hl30⟩
  generalize bytesMl m = x1 at P1 P2 F1
  obtain ⟨S, e1⟩ := x1
  dsimp only at P1 P2 F1
  generalize parseM S = x2 at P2 F1
  generalize parseM t = x3 at P3 P4 F2
  obtain ⟨K, e3⟩ := x3
  dsimp only at P3 P4 F2
  generalize bytesMl K = x4 at P4 F2
  generalize sendM a L m = x5 at P5 P6 F3 hXl
  obtain ⟨C, X, e5⟩ := x5
  dsimp only at P5 P6 F3 hXl
  generalize claimM C X m = x6 at P6 F3
  clear hin ha hm hl30 hXl hgd hgL hS
  have HA : Veil (AcBox ((w.alloc (.cells #[.int .i64 a.w, .int .i64 a.b] 37)).alloc (.cells #[.int .u32 m.src, .int .i64 m.money, .int .u16 m.item, .int .i64 m.n] 27)) w.heap.size a.w a.b) := ⟨(AcBox.new _ _ _ _).below (below_al (Below.refl _ _) _)⟩
  have HM : Veil (MlBox ((w.alloc (.cells #[.int .i64 a.w, .int .i64 a.b] 37)).alloc (.cells #[.int .u32 m.src, .int .i64 m.money, .int .u16 m.item, .int .i64 m.n] 27)) (w.heap.size + 1) m.src m.money m.item m.n) := ⟨by
    have := MlBox.new (w.alloc (.cells #[.int .i64 a.w, .int .i64 a.b] 37)) m.src m.money m.item m.n 27
    rwa [World.size_alloc] at this⟩
  have hT : Below w.heap.size w ((w.alloc (.cells #[.int .i64 a.w, .int .i64 a.b] 37)).alloc (.cells #[.int .u32 m.src, .int .i64 m.money, .int .u16 m.item, .int .i64 m.n] 27)) := below_al (below_al (Below.refl _ _) _) _
  rcases F1 with F1 | ⟨rfl, rfl⟩ <;> rcases F2 with F2 | ⟨rfl, rfl⟩ <;> rcases F3 with F3 | ⟨rfl, rfl⟩
  all_goals
    try (have F1' : ¬ e1 = 0 := F1)
    try (have F2' : ¬ e3 = 0 := F2)
    try (have F3' : ¬ e5 = 0 := F3)
    try clear F1
    try clear F2
    try clear F3
    try obtain ⟨⟨qf, qm, qi, qn⟩, e2⟩ := x2
    try obtain ⟨T', e4⟩ := x4
    try obtain ⟨⟨dw, db⟩, Y, e6⟩ := x6
    obtain ⟨kf, km, ki, kn⟩ := K
    obtain ⟨cw, cb⟩ := C
    obtain ⟨aw, ab⟩ := a
    obtain ⟨f, mo, i, n⟩ := m
    unfold SendAtP at *
    try unfold SendAt at *
    unfold Ml.v Ac.v at *
    dsimp only at *
    go_enter Tryd.func4, Tryd.ntmps4
    go_wp2_with (first
      | (go_at_call 18; (with_reducible refine (sameK_els L L rfl _ _ (HY.out.below (below_al (Below.refl _ _) _)) (HL.out.below (below_al (Below.refl _ _) _)) (by have := HLN.out; omega)).mono ?_); rintro e w9x ⟨rfl, hb9⟩; have hT := bc_then (below_al (hT) _) hb9; have HA : Veil _ := ⟨(HA.out.below (below_al (Below.refl _ _) _)).below hb9⟩; have HM : Veil _ := ⟨(HM.out.below (below_al (Below.refl _ _) _)).below hb9⟩; have HQ : Veil _ := ⟨(HQ.out.below (below_al (Below.refl _ _) _)).below hb9⟩; have HK : Veil _ := ⟨(HK.out.below (below_al (Below.refl _ _) _)).below hb9⟩; have HC : Veil _ := ⟨(HC.out.below (below_al (Below.refl _ _) _)).below hb9⟩; have HL : Veil _ := ⟨(HL.out.below (below_al (Below.refl _ _) _)).below hb9⟩; have HX : Veil _ := ⟨(HX.out.below (below_al (Below.refl _ _) _)).below hb9⟩; have HY : Veil _ := ⟨(HY.out.below (below_al (Below.refl _ _) _)).below hb9⟩; have HD : Veil _ := ⟨(AcBox.new _ _ _ _).below hb9⟩; obtain ⟨HA0, HA1⟩ := HA.out; have HAz := World.block_lt_of_cell? _ _ HA0; dsimp only at HAz; obtain ⟨HM0, HM1, HM2, HM3⟩ := HM.out; have HMz := World.block_lt_of_cell? _ _ HM0; dsimp only at HMz; obtain ⟨HQ0, HQ1, HQ2, HQ3⟩ := HQ.out; have HQz := World.block_lt_of_cell? _ _ HQ0; dsimp only at HQz; obtain ⟨HK0, HK1, HK2, HK3⟩ := HK.out; have HKz := World.block_lt_of_cell? _ _ HK0; dsimp only at HKz; obtain ⟨HC0, HC1⟩ := HC.out; have HCz := World.block_lt_of_cell? _ _ HC0; dsimp only at HCz; obtain ⟨HD0, HD1⟩ := HD.out; have HDz := World.block_lt_of_cell? _ _ HD0; dsimp only at HDz)
      | (go_at_call 17; (with_reducible refine (P6.out _ _ _ (below_al (hT) _) (HXI.out _ (HX.out.below (below_al (Below.refl _ _) _)))).mono ?_); rintro e w8x ⟨v8, rfl, hF8, hb8⟩; have hT := bc_then (below_al (hT) _) hb8; have HA : Veil _ := ⟨(HA.out.below (below_al (Below.refl _ _) _)).below hb8⟩; have HM : Veil _ := ⟨(HM.out.below (below_al (Below.refl _ _) _)).below hb8⟩; have HQ : Veil _ := ⟨(HQ.out.below (below_al (Below.refl _ _) _)).below hb8⟩; have HK : Veil _ := ⟨(HK.out.below (below_al (Below.refl _ _) _)).below hb8⟩; have HL : Veil _ := ⟨(HL.out.below (below_al (Below.refl _ _) _)).below hb8⟩; have HX : Veil _ := ⟨(HX.out.below (below_al (Below.refl _ _) _)).below hb8⟩; have HC : Veil _ := ⟨(AcBox.new _ _ _ _).below hb8⟩; obtain ⟨p8, c8, rfl, hE8, -⟩ := hF8.form; have HY : Veil _ := ⟨hE8⟩; clear hE8 hF8; dsimp only [Ac.v]; obtain ⟨HA0, HA1⟩ := HA.out; have HAz := World.block_lt_of_cell? _ _ HA0; dsimp only at HAz; obtain ⟨HM0, HM1, HM2, HM3⟩ := HM.out; have HMz := World.block_lt_of_cell? _ _ HM0; dsimp only at HMz; obtain ⟨HQ0, HQ1, HQ2, HQ3⟩ := HQ.out; have HQz := World.block_lt_of_cell? _ _ HQ0; dsimp only at HQz; obtain ⟨HK0, HK1, HK2, HK3⟩ := HK.out; have HKz := World.block_lt_of_cell? _ _ HK0; dsimp only at HKz; obtain ⟨HC0, HC1⟩ := HC.out; have HCz := World.block_lt_of_cell? _ _ HC0; dsimp only at HCz)
      | (go_at_call 16; (with_reducible refine (P5.out _ _ _ hT (HLI.out _ HL.out)).mono ?_); rintro e w7x ⟨v7, rfl, hF7, hb7⟩; have hT := bc_then (hT) hb7; have HA : Veil _ := ⟨HA.out.below hb7⟩; have HM : Veil _ := ⟨HM.out.below hb7⟩; have HQ : Veil _ := ⟨HQ.out.below hb7⟩; have HK : Veil _ := ⟨HK.out.below hb7⟩; have HL : Veil _ := ⟨HL.out.below hb7⟩; obtain ⟨p7, c7, rfl, hI7, -⟩ := hF7.formI; have hE7 := hI7.els; have HXI : Veil _ := ⟨inl_of hI7⟩; clear hI7; have HX : Veil _ := ⟨hE7⟩; clear hE7 hF7; dsimp only [Ac.v]; obtain ⟨HA0, HA1⟩ := HA.out; have HAz := World.block_lt_of_cell? _ _ HA0; dsimp only at HAz; obtain ⟨HM0, HM1, HM2, HM3⟩ := HM.out; have HMz := World.block_lt_of_cell? _ _ HM0; dsimp only at HMz; obtain ⟨HQ0, HQ1, HQ2, HQ3⟩ := HQ.out; have HQz := World.block_lt_of_cell? _ _ HQ0; dsimp only at HQz; obtain ⟨HK0, HK1, HK2, HK3⟩ := HK.out; have HKz := World.block_lt_of_cell? _ _ HK0; dsimp only at HKz)
      | (go_at_call 9; (with_reducible refine (P4.out _ (below_al (hT) _)).mono ?_); rintro e w6x ⟨rfl, hb6⟩; have hT := bc_then (below_al (hT) _) hb6; have HA : Veil _ := ⟨(HA.out.below (below_al (Below.refl _ _) _)).below hb6⟩; have HM : Veil _ := ⟨(HM.out.below (below_al (Below.refl _ _) _)).below hb6⟩; have HQ : Veil _ := ⟨(HQ.out.below (below_al (Below.refl _ _) _)).below hb6⟩; have HL : Veil _ := ⟨(HL.out.below (below_al (Below.refl _ _) _)).below hb6⟩; have HK : Veil _ := ⟨(MlBox.new _ _ _ _ _ _).below hb6⟩; obtain ⟨HA0, HA1⟩ := HA.out; have HAz := World.block_lt_of_cell? _ _ HA0; dsimp only at HAz; obtain ⟨HM0, HM1, HM2, HM3⟩ := HM.out; have HMz := World.block_lt_of_cell? _ _ HM0; dsimp only at HMz; obtain ⟨HQ0, HQ1, HQ2, HQ3⟩ := HQ.out; have HQz := World.block_lt_of_cell? _ _ HQ0; dsimp only at HQz; obtain ⟨HK0, HK1, HK2, HK3⟩ := HK.out; have HKz := World.block_lt_of_cell? _ _ HK0; dsimp only at HKz)
      | (go_at_call 11; (with_reducible refine (P3.out _).mono ?_); rintro e w5x ⟨rfl, hb5⟩; have hT := bc_then (below_al (hT) _) hb5; have HA : Veil _ := ⟨(HA.out.below (below_al (Below.refl _ _) _)).below hb5⟩; have HM : Veil _ := ⟨(HM.out.below (below_al (Below.refl _ _) _)).below hb5⟩; have HL : Veil _ := ⟨(HL.out.below (below_al (Below.refl _ _) _)).below hb5⟩; have HQ : Veil _ := ⟨(MlBox.new _ _ _ _ _ _).below hb5⟩; obtain ⟨HA0, HA1⟩ := HA.out; have HAz := World.block_lt_of_cell? _ _ HA0; dsimp only at HAz; obtain ⟨HM0, HM1, HM2, HM3⟩ := HM.out; have HMz := World.block_lt_of_cell? _ _ HM0; dsimp only at HMz; obtain ⟨HQ0, HQ1, HQ2, HQ3⟩ := HQ.out; have HQz := World.block_lt_of_cell? _ _ HQ0; dsimp only at HQz)
      | (go_at_call 11; (with_reducible refine (P2.out _).mono ?_); rintro e w4x ⟨rfl, hb4⟩; have hT := bc_then (hT) hb4; have HA : Veil _ := ⟨HA.out.below hb4⟩; have HM : Veil _ := ⟨HM.out.below hb4⟩; have HL : Veil _ := ⟨HL.out.below hb4⟩; obtain ⟨HA0, HA1⟩ := HA.out; have HAz := World.block_lt_of_cell? _ _ HA0; dsimp only at HAz; obtain ⟨HM0, HM1, HM2, HM3⟩ := HM.out; have HMz := World.block_lt_of_cell? _ _ HM0; dsimp only at HMz)
      | (go_at_call 9; (with_reducible refine (P1.out _ hT).mono ?_); rintro e w3x ⟨rfl, hb3⟩; have hT := bc_then (hT) hb3; have HA : Veil _ := ⟨HA.out.below hb3⟩; have HM : Veil _ := ⟨HM.out.below hb3⟩; have HL : Veil _ := ⟨HL.out.below hb3⟩; obtain ⟨HA0, HA1⟩ := HA.out; have HAz := World.block_lt_of_cell? _ _ HA0; dsimp only at HAz; obtain ⟨HM0, HM1, HM2, HM3⟩ := HM.out; have HMz := World.block_lt_of_cell? _ _ HM0; dsimp only at HMz)
      | (go_at_call 15; (with_reducible refine (hcut.out _ (hT)).mono ?_); rintro e w2x ⟨v2, rfl, hF2, hb2⟩; have hT := bc_then (hT) hb2; have HA : Veil _ := ⟨HA.out.below hb2⟩; have HM : Veil _ := ⟨HM.out.below hb2⟩; obtain ⟨p2, c2, rfl, hI2, -⟩ := hF2.formI; have hE2 := hI2.els; have HLI : Veil _ := ⟨inl_of hI2⟩; clear hI2; have HL : Veil _ := ⟨hE2⟩; clear hE2 hF2; obtain ⟨HA0, HA1⟩ := HA.out; have HAz := World.block_lt_of_cell? _ _ HA0; dsimp only at HAz; obtain ⟨HM0, HM1, HM2, HM3⟩ := HM.out; have HMz := World.block_lt_of_cell? _ _ HM0; dsimp only at HMz)
      | (go_at_call 8; (with_reducible refine (shown14_any _ (HSm.out _ hT)).mono ?_); rintro e w1x ⟨rfl, hb1⟩; have hT := bc_then (hT) hb1; have HA : Veil _ := ⟨HA.out.below hb1⟩; have HM : Veil _ := ⟨HM.out.below hb1⟩; obtain ⟨HA0, HA1⟩ := HA.out; have HAz := World.block_lt_of_cell? _ _ HA0; dsimp only at HAz; obtain ⟨HM0, HM1, HM2, HM3⟩ := HM.out; have HMz := World.block_lt_of_cell? _ _ HM0; dsimp only at HMz))
    go_ret
    exact ⟨rfl, by first | exact hT | exact below_al hT _⟩
end Go.Proofs.YtfjjodkapofgjaaDoor
