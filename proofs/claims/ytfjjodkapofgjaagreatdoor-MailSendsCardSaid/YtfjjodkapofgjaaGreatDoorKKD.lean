/- The laws on mail: MailSends. -/
import Derived.Test.YtfjjodkapofgjaaGreatDoorKK9
import Derived.Test.YtfjjodkapofgjaaGreatDoorKJ9
import Derived.Test.YtfjjodkapofgjaaGreatDoorKI7
namespace Go.Proofs.YtfjjodkapofgjaaGreatDoor
open Go Go.RowKit Sm
attribute [local go_sem] Oper.semAt_some

theorem sameK_els {w : World} {p q : Option Addr} (a b : List St) (h : a = b) (ca cb : Nat) (ha : Els elS w p a) (hb : Els elS w q b) (hl : a.length ≤ 1000) :
    Calls Tryz.prog 10 #[.slice p a.length ca, .slice q b.length cb] w fun e w' => e = .returned (.bool true) ∧ Below w.heap.size w w' := by
  subst h
  exact sameG_here a _ ca _ cb ha hb rfl rfl hl
abbrev SendAtP (w0 : World) (f : FuncId) (a : Ac) (l : List St) (m : Ml) (B : Ac) (T : List St) (c : Int) : Prop := ∀ (p : Option Addr) (lc : Nat) (W : World), Below w0.heap.size w0 W → InL elS W p l lc → Calls Tryz.prog f #[a.v, .slice p l.length lc, m.v] W (MailPost W B T c)
abbrev SendAt (f : FuncId) (a : Ac) (l : List St) (m : Ml) (B : Ac) (T : List St) (c : Int) : Prop := ∀ (p : Option Addr) (lc : Nat) (W : World), Els elS W p l → Calls Tryz.prog f #[a.v, .slice p l.length lc, m.v] W (MailPost W B T c)
set_option maxRecDepth 20000 in
set_option maxHeartbeats 4000000 in
theorem mailSends_any {w : World} {p : Option Addr} (a : Ac) (ha : a.Ok) (l : List St) (lc : Nat) (hin : InL elS w p l lc) (m : Ml) (hm : m.Ok) (hgd : GdW l) (hS : MSent w) :
    Calls Tryz.prog 3 #[a.v, .slice p l.length lc, m.v] w fun e w' => e = .returned (.bool true) ∧ Below w.heap.size w w' := by
  have hcut : Veil (∀ W, Below w.heap.size w W → Calls Tryz.prog 5 #[.slice p l.length lc] W (FreshPost elS W (l.take 30))) := ⟨fun W hW => cutG14_any l lc ⟨hin.els.below hW, hin.spot, hin.nil0, hin.le, hin.cap⟩⟩
  have ht := take30 l
  have hgL := hgd.take 30
  generalize l.take 30 = L at hcut ht hgL
  have HSm : Veil (∀ W, Below w.heap.size w W → MSent W) := ⟨fun W hb => hS.below hb⟩
  have PS : Veil (SendAtP w 6 a L m (sendM a L m).1 (sendM a L m).2.1 (sendM a L m).2.2) := ⟨fun p lc W hb h => mlsend_any a ha L lc m hm h (by omega) hgL (hS.below hb)⟩
  have RS : Veil (SendAt 7 a L m (sendM a L m).1 (sendM a L m).2.1 (sendM a L m).2.2) := ⟨fun p lc W h => refsend_any a ha L lc m hm h (by omega)⟩
  have PC : Veil (SendAtP w 8 a L m (claimM a L m).1 (claimM a L m).2.1 (claimM a L m).2.2) := ⟨fun p lc W hb h => mlclaim_any a ha L lc m hm h (by omega) hgL (hS.below hb)⟩
  have RC : Veil (SendAt 9 a L m (claimM a L m).1 (claimM a L m).2.1 (claimM a L m).2.2) := ⟨fun p lc W h => refclaim_any a ha L lc m hm h (by omega)⟩
  have HLN : Veil ((sendM a L m).2.1.length ≤ 30 ∧ (claimM a L m).2.1.length ≤ 30) := ⟨sendM_len a L m ht, claimM_len a L m ht⟩
  generalize sendM a L m = x1 at PS RS HLN
  generalize claimM a L m = x2 at PC RC HLN
  obtain ⟨⟨sw, sb⟩, X, e1⟩ := x1
  obtain ⟨⟨cw, cb⟩, Z, e2⟩ := x2
  clear hin ha hm hgd hgL hS
  obtain ⟨aw, ab⟩ := a
  obtain ⟨f, mo, i, n⟩ := m
  unfold SendAtP at *
  try unfold SendAt at *
  unfold Ml.v Ac.v at *
  dsimp only at *
  have HA : Veil (AcBox ((w.alloc (.cells #[.int .i64 aw, .int .i64 ab] 23)).alloc (.cells #[.int .u32 f, .int .i64 mo, .int .u16 i, .int .i64 n] 30)) w.heap.size aw ab) := ⟨(AcBox.new _ _ _ _).below (below_al (Below.refl _ _) _)⟩
  have HM : Veil (MlBox ((w.alloc (.cells #[.int .i64 aw, .int .i64 ab] 23)).alloc (.cells #[.int .u32 f, .int .i64 mo, .int .u16 i, .int .i64 n] 30)) (w.heap.size + 1) f mo i n) := ⟨by
    have := MlBox.new (w.alloc (.cells #[.int .i64 aw, .int .i64 ab] 23)) f mo i n 30
    rwa [World.size_alloc] at this⟩
  have hT : Below w.heap.size w ((w.alloc (.cells #[.int .i64 aw, .int .i64 ab] 23)).alloc (.cells #[.int .u32 f, .int .i64 mo, .int .u16 i, .int .i64 n] 30)) := below_al (below_al (Below.refl _ _) _) _
  go_enter Tryz.func3, Tryz.ntmps3
  go_wp2_with (first
    | (go_at_call 10; (with_reducible refine (sameK_els Z Z rfl _ _ HTz.out HTz2.out (by have := HLN.out; omega)).mono ?_); rintro e w8x ⟨rfl, hb8⟩; have hT := bc_then hT hb8)
    | (go_at_call 10; (with_reducible refine (sameK_els X X rfl _ _ (HTx.out.below (below_al (Below.refl _ _) _)) (HTx2.out.below (below_al (Below.refl _ _) _)) (by have := HLN.out; omega)).mono ?_); rintro e w7x ⟨rfl, hb7⟩; have hT := bc_then (below_al hT _) hb7; have HA : Veil _ := ⟨(HA.out.below (below_al (Below.refl _ _) _)).below hb7⟩; have HM : Veil _ := ⟨(HM.out.below (below_al (Below.refl _ _) _)).below hb7⟩; have HX : Veil _ := ⟨(HX.out.below (below_al (Below.refl _ _) _)).below hb7⟩; have HX2 : Veil _ := ⟨(HX2.out.below (below_al (Below.refl _ _) _)).below hb7⟩; have HZ : Veil _ := ⟨(HZ.out.below (below_al (Below.refl _ _) _)).below hb7⟩; have HL : Veil _ := ⟨(HL.out.below (below_al (Below.refl _ _) _)).below hb7⟩; have HTx : Veil _ := ⟨(HTx.out.below (below_al (Below.refl _ _) _)).below hb7⟩; have HTx2 : Veil _ := ⟨(HTx2.out.below (below_al (Below.refl _ _) _)).below hb7⟩; have HTz : Veil _ := ⟨(HTz.out.below (below_al (Below.refl _ _) _)).below hb7⟩; have HTz2 : Veil _ := ⟨(HTz2.out.below (below_al (Below.refl _ _) _)).below hb7⟩; have HZ2 : Veil _ := ⟨(AcBox.new _ _ _ _).below hb7⟩; obtain ⟨HA0, HA1⟩ := HA.out; have HAz := World.block_lt_of_cell? _ _ HA0; dsimp only at HAz; obtain ⟨HM0, HM1, HM2, HM3⟩ := HM.out; have HMz := World.block_lt_of_cell? _ _ HM0; dsimp only at HMz; obtain ⟨HX0, HX1⟩ := HX.out; have HXz := World.block_lt_of_cell? _ _ HX0; dsimp only at HXz; obtain ⟨HX20, HX21⟩ := HX2.out; have HX2z := World.block_lt_of_cell? _ _ HX20; dsimp only at HX2z; obtain ⟨HZ0, HZ1⟩ := HZ.out; have HZz := World.block_lt_of_cell? _ _ HZ0; dsimp only at HZz; obtain ⟨HZ20, HZ21⟩ := HZ2.out; have HZ2z := World.block_lt_of_cell? _ _ HZ20; dsimp only at HZ2z)
    | (go_at_call 9; (with_reducible refine (RC.out _ _ _ (HL.out.below (below_al (Below.refl _ _) _))).mono ?_); rintro e w6x ⟨v6, rfl, hF6, hb6⟩; have hT := bc_then (below_al hT _) hb6; have HA : Veil _ := ⟨(HA.out.below (below_al (Below.refl _ _) _)).below hb6⟩; have HM : Veil _ := ⟨(HM.out.below (below_al (Below.refl _ _) _)).below hb6⟩; have HX : Veil _ := ⟨(HX.out.below (below_al (Below.refl _ _) _)).below hb6⟩; have HX2 : Veil _ := ⟨(HX2.out.below (below_al (Below.refl _ _) _)).below hb6⟩; have HL : Veil _ := ⟨(HL.out.below (below_al (Below.refl _ _) _)).below hb6⟩; have HTx : Veil _ := ⟨(HTx.out.below (below_al (Below.refl _ _) _)).below hb6⟩; have HTx2 : Veil _ := ⟨(HTx2.out.below (below_al (Below.refl _ _) _)).below hb6⟩; have HTz : Veil _ := ⟨(HTz.out.below (below_al (Below.refl _ _) _)).below hb6⟩; have HZ : Veil _ := ⟨(AcBox.new _ _ _ _).below hb6⟩; obtain ⟨p6, c6, rfl, hE6, -⟩ := hF6.form; have HTz2 : Veil _ := ⟨hE6⟩; clear hE6 hF6; dsimp only [Ac.v]; obtain ⟨HA0, HA1⟩ := HA.out; have HAz := World.block_lt_of_cell? _ _ HA0; dsimp only at HAz; obtain ⟨HM0, HM1, HM2, HM3⟩ := HM.out; have HMz := World.block_lt_of_cell? _ _ HM0; dsimp only at HMz; obtain ⟨HX0, HX1⟩ := HX.out; have HXz := World.block_lt_of_cell? _ _ HX0; dsimp only at HXz; obtain ⟨HX20, HX21⟩ := HX2.out; have HX2z := World.block_lt_of_cell? _ _ HX20; dsimp only at HX2z; obtain ⟨HZ0, HZ1⟩ := HZ.out; have HZz := World.block_lt_of_cell? _ _ HZ0; dsimp only at HZz)
    | (go_at_call 8; (with_reducible refine (PC.out _ _ _ (below_al hT _) (HLI.out _ (HL.out.below (below_al (Below.refl _ _) _)))).mono ?_); rintro e w5x ⟨v5, rfl, hF5, hb5⟩; have hT := bc_then (below_al hT _) hb5; have HA : Veil _ := ⟨(HA.out.below (below_al (Below.refl _ _) _)).below hb5⟩; have HM : Veil _ := ⟨(HM.out.below (below_al (Below.refl _ _) _)).below hb5⟩; have HX : Veil _ := ⟨(HX.out.below (below_al (Below.refl _ _) _)).below hb5⟩; have HL : Veil _ := ⟨(HL.out.below (below_al (Below.refl _ _) _)).below hb5⟩; have HTx : Veil _ := ⟨(HTx.out.below (below_al (Below.refl _ _) _)).below hb5⟩; have HTx2 : Veil _ := ⟨(HTx2.out.below (below_al (Below.refl _ _) _)).below hb5⟩; have HX2 : Veil _ := ⟨(AcBox.new _ _ _ _).below hb5⟩; obtain ⟨p5, c5, rfl, hE5, -⟩ := hF5.form; have HTz : Veil _ := ⟨hE5⟩; clear hE5 hF5; dsimp only [Ac.v]; obtain ⟨HA0, HA1⟩ := HA.out; have HAz := World.block_lt_of_cell? _ _ HA0; dsimp only at HAz; obtain ⟨HM0, HM1, HM2, HM3⟩ := HM.out; have HMz := World.block_lt_of_cell? _ _ HM0; dsimp only at HMz; obtain ⟨HX0, HX1⟩ := HX.out; have HXz := World.block_lt_of_cell? _ _ HX0; dsimp only at HXz; obtain ⟨HX20, HX21⟩ := HX2.out; have HX2z := World.block_lt_of_cell? _ _ HX20; dsimp only at HX2z)
    | (go_at_call 7; (with_reducible refine (RS.out _ _ _ (HL.out.below (below_al (Below.refl _ _) _))).mono ?_); rintro e w4x ⟨v4, rfl, hF4, hb4⟩; have hT := bc_then (below_al hT _) hb4; have HA : Veil _ := ⟨(HA.out.below (below_al (Below.refl _ _) _)).below hb4⟩; have HM : Veil _ := ⟨(HM.out.below (below_al (Below.refl _ _) _)).below hb4⟩; have HL : Veil _ := ⟨(HL.out.below (below_al (Below.refl _ _) _)).below hb4⟩; have HTx : Veil _ := ⟨(HTx.out.below (below_al (Below.refl _ _) _)).below hb4⟩; have HX : Veil _ := ⟨(AcBox.new _ _ _ _).below hb4⟩; obtain ⟨p4, c4, rfl, hE4, -⟩ := hF4.form; have HTx2 : Veil _ := ⟨hE4⟩; clear hE4 hF4; dsimp only [Ac.v]; obtain ⟨HA0, HA1⟩ := HA.out; have HAz := World.block_lt_of_cell? _ _ HA0; dsimp only at HAz; obtain ⟨HM0, HM1, HM2, HM3⟩ := HM.out; have HMz := World.block_lt_of_cell? _ _ HM0; dsimp only at HMz; obtain ⟨HX0, HX1⟩ := HX.out; have HXz := World.block_lt_of_cell? _ _ HX0; dsimp only at HXz)
    | (go_at_call 6; (with_reducible refine (PS.out _ _ _ hT (HLI.out _ (HL.out))).mono ?_); rintro e w3x ⟨v3, rfl, hF3, hb3⟩; have hT := bc_then (hT) hb3; have HA : Veil _ := ⟨HA.out.below hb3⟩; have HM : Veil _ := ⟨HM.out.below hb3⟩; have HL : Veil _ := ⟨HL.out.below hb3⟩; obtain ⟨p3, c3, rfl, hE3, -⟩ := hF3.form; have HTx : Veil _ := ⟨hE3⟩; clear hE3 hF3; dsimp only [Ac.v]; obtain ⟨HA0, HA1⟩ := HA.out; have HAz := World.block_lt_of_cell? _ _ HA0; dsimp only at HAz; obtain ⟨HM0, HM1, HM2, HM3⟩ := HM.out; have HMz := World.block_lt_of_cell? _ _ HM0; dsimp only at HMz)
    | (go_at_call 5; (with_reducible refine (hcut.out _ hT).mono ?_); rintro e w2x ⟨v2, rfl, hF2, hb2⟩; have hT := bc_then hT hb2; have HA : Veil _ := ⟨HA.out.below hb2⟩; have HM : Veil _ := ⟨HM.out.below hb2⟩; obtain ⟨p2, c2, rfl, hI2, -⟩ := hF2.formI; have hE2 := hI2.els; have HLI : Veil _ := ⟨inl_of hI2⟩; clear hI2; have HL : Veil _ := ⟨hE2⟩; clear hE2 hF2; obtain ⟨HA0, HA1⟩ := HA.out; have HAz := World.block_lt_of_cell? _ _ HA0; dsimp only at HAz; obtain ⟨HM0, HM1, HM2, HM3⟩ := HM.out; have HMz := World.block_lt_of_cell? _ _ HM0; dsimp only at HMz)
    | (go_at_call 4; (with_reducible refine (shown14_any _ (HSm.out _ hT)).mono ?_); rintro e w1x ⟨rfl, hb1⟩; have hT := bc_then hT hb1; have HA : Veil _ := ⟨HA.out.below hb1⟩; have HM : Veil _ := ⟨HM.out.below hb1⟩; obtain ⟨HA0, HA1⟩ := HA.out; have HAz := World.block_lt_of_cell? _ _ HA0; dsimp only at HAz; obtain ⟨HM0, HM1, HM2, HM3⟩ := HM.out; have HMz := World.block_lt_of_cell? _ _ HM0; dsimp only at HMz))
  go_ret
  exact ⟨rfl, hT⟩
end Go.Proofs.YtfjjodkapofgjaaGreatDoor
