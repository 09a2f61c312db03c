/- The laws on mail: MailMoves. -/
import Derived.Test.YtfjjodkapofgjaaDoorKKD
import Derived.Test.YtfjjodkapofgjaaDoorKI81
namespace Go.Proofs.YtfjjodkapofgjaaDoor
open Go Go.RowKit Sm
attribute [local go_sem] Oper.semAt_some

def nOf (m : Ml) (it : Nat) : Int := if it = m.item then m.n else 0
abbrev CountE (f : FuncId) (L : List St) (i : Nat) (c : Int) : Prop := ∀ (p : Option Addr) (cp : Nat) (W : World), Els elS W p L → Calls Tryd.prog f #[.slice p L.length cp, .int .u16 i] W fun e w' => e = .returned (.int .i64 c) ∧ Below W.heap.size W w'
theorem send_moves (a : Ac) (L : List St) (m : Ml) (it : Nat) (h : (sendM a L m).2.2 = 0) :
    (sendM a L m).1.w + m.money = a.w ∧ (sendM a L m).1.b = a.b ∧ countG (sendM a L m).2.1 it + nOf m it = countG L it ∧ (0 ≤ a.w ∧ a.w ≤ 1152921504606846976) ∧ (0 ≤ countG L it ∧ countG L it ≤ 1152921504606846976) := by
  obtain ⟨h1, h2, h3, h4⟩ := sendM_ok a L m h
  obtain ⟨k1, k2, k3, k4, k5⟩ := spendA_ok a m.money h2
  have ra := (rightA_iff _).1 k1
  have aw := (amt_iff _).1 ra.1
  have hc := count_nn L it ((rightG_iff L).1 h3)
  rcases h4 with ⟨h5, h6⟩ | ⟨h5, h6, h7⟩
  · rw [h6, k4]
    dsimp only
    refine ⟨by omega, rfl, ?_, aw, hc⟩
    unfold nOf
    split
    · omega
    · omega
  · have hk := take_keeps L m.st h6
    rw [h7, k4]
    dsimp only
    refine ⟨by omega, rfl, ?_, aw, hc⟩
    unfold nOf
    split
    · rename_i hi
      subst hi
      have := hk.cnt
      unfold Ml.st at this
      dsimp only at this
      unfold Ml.st
      rw [this]; omega
    · rename_i hi
      have := hk.oth it hi
      rw [this]; omega
theorem claim_moves (a : Ac) (L : List St) (m : Ml) (it : Nat) (h : (claimM a L m).2.2 = 0) :
    (claimM a L m).1.w - m.money = a.w ∧ (claimM a L m).1.b = a.b ∧ countG (claimM a L m).2.1 it - nOf m it = countG L it ∧ (0 ≤ a.w ∧ a.w ≤ 1152921504606846976) ∧ (0 ≤ countG L it ∧ countG L it ≤ 1152921504606846976) := by
  obtain ⟨h1, h2, h3, h4⟩ := claimM_ok a L m h
  obtain ⟨k1, k2, k4, k5⟩ := earnA_ok a m.money h2
  have ra := (rightA_iff _).1 k1
  have aw := (amt_iff _).1 ra.1
  have hc := count_nn L it ((rightG_iff L).1 h3)
  rcases h4 with ⟨h5, h6⟩ | ⟨h5, h6, h7⟩
  · rw [h6, k4]
    dsimp only
    refine ⟨by omega, rfl, ?_, aw, hc⟩
    unfold nOf
    split
    · omega
    · omega
  · have hk := give_keeps L m.st h6
    rw [h7, k4]
    dsimp only
    refine ⟨by omega, rfl, ?_, aw, hc⟩
    unfold nOf
    split
    · rename_i hi
      subst hi
      have := hk.cnt
      unfold Ml.st at this
      dsimp only at this
      unfold Ml.st
      rw [this]; omega
    · rename_i hi
      have := hk.oth it hi
      rw [this]; omega
set_option maxRecDepth 20000 in
set_option maxHeartbeats 8000000 in
theorem mailMoves_any {w : World} {p : Option Addr} (a : Ac) (ha : a.Ok) (l : List St) (lc : Nat) (hin : InL elS w p l lc) (m : Ml) (hm : m.Ok) (it : Nat) (_ : it < 65536) (hgd : GdW l) (hS : MSent w) :
    Calls Tryd.prog 6 #[a.v, .slice p l.length lc, m.v, .int .u16 it] w fun e w' => e = .returned (.bool true) ∧ Below w.heap.size w w' := by
  have hcut : Veil (∀ W, Below w.heap.size w W → Calls Tryd.prog 15 #[.slice p l.length lc] W (FreshPost elS W (l.take 30))) := ⟨fun W hW => cutG14_any l lc ⟨hin.els.below hW, hin.spot, hin.nil0, hin.le, hin.cap⟩⟩
  have hl30 := take30 l
  have hgL := hgd.take 30
  generalize l.take 30 = L at hcut hl30 hgL
  have HSm : Veil (∀ W, Below w.heap.size w W → MSent W) := ⟨fun W hb => hS.below hb⟩
  have P5 : Veil (SendAtP w 16 a L m (sendM a L m).1 (sendM a L m).2.1 (sendM a L m).2.2) := ⟨fun p lc W hb h => mlsend_any a ha L lc m hm h (by omega) hgL (hS.below hb)⟩
  have P6 : Veil (SendAtP w 17 a L m (claimM a L m).1 (claimM a L m).2.1 (claimM a L m).2.2) := ⟨fun p lc W hb h => mlclaim_any a ha L lc m hm h (by omega) hgL (hS.below hb)⟩
  have hXl := sendM_len a L m hl30
  have hYl := claimM_len a L m hl30
  have CX : Veil (CountE 19 (sendM a L m).2.1 it (countG (sendM a L m).2.1 it)) := ⟨fun p cp W h => refcountG_any _ cp it h (by omega)⟩
  have CY : Veil (CountE 19 (claimM a L m).2.1 it (countG (claimM a L m).2.1 it)) := ⟨fun p cp W h => refcountG_any _ cp it h (by omega)⟩
  have CL : Veil (CountE 19 L it (countG L it)) := ⟨fun p cp W h => refcountG_any _ cp it h (by omega)⟩
  have F1 : (sendM a L m).2.2 ≠ 0 ∨ (sendM a L m).2.2 = 0 ∧ IntKind.i64.wrap ((sendM a L m).1.w + m.money) = a.w ∧ a.b = (sendM a L m).1.b ∧ IntKind.i64.wrap (countG (sendM a L m).2.1 it + nOf m it) = countG L it := by
    by_cases h : (sendM a L m).2.2 = 0
    · obtain ⟨h1, h2, h3, h4, h5⟩ := send_moves a L m it h
      refine .inr ⟨h, ?_, h2.symm, ?_⟩
      · rw [h1, IntKind.wrap_i64]; omega
      · rw [h3, IntKind.wrap_i64]; omega
    · exact .inl h
  have F2 : (claimM a L m).2.2 ≠ 0 ∨ (claimM a L m).2.2 = 0 ∧ IntKind.i64.wrap ((claimM a L m).1.w - m.money) = a.w ∧ a.b = (claimM a L m).1.b ∧ IntKind.i64.wrap (countG (claimM a L m).2.1 it - nOf m it) = countG L it := by
    by_cases h : (claimM a L m).2.2 = 0
    · obtain ⟨h1, h2, h3, h4, h5⟩ := claim_moves a L m it h
      refine .inr ⟨h, ?_, h2.symm, ?_⟩
      · rw [h1, IntKind.wrap_i64]; omega
      · rw [h3, IntKind.wrap_i64]; omega
    · exact .inl h
  generalize sendM a L m = x5 at P5 CX F1 hXl
  generalize claimM a L m = x6 at P6 CY F2 hYl
  obtain ⟨⟨sw, sb⟩, X, e5⟩ := x5
  obtain ⟨⟨cw, cb⟩, Y, e6⟩ := x6
  dsimp only at CX CY F1 F2
  unfold nOf at F1 F2
  generalize countG X it = cx at *
  generalize countG Y it = cy at *
  generalize countG L it = cl at *
  clear hin ha hm hl30 hXl hYl hgd hgL hS
  obtain ⟨aw, ab⟩ := a
  obtain ⟨f, mo, i, n⟩ := m
  unfold SendAtP CountE at *
  try unfold SendAt at *
  unfold Ml.v Ac.v at *
  dsimp only at *
  have HA : Veil (AcBox ((w.alloc (.cells #[.int .i64 aw, .int .i64 ab] 37)).alloc (.cells #[.int .u32 f, .int .i64 mo, .int .u16 i, .int .i64 n] 27)) w.heap.size aw ab) := ⟨(AcBox.new _ _ _ _).below (below_al (Below.refl _ _) _)⟩
  have HM : Veil (MlBox ((w.alloc (.cells #[.int .i64 aw, .int .i64 ab] 37)).alloc (.cells #[.int .u32 f, .int .i64 mo, .int .u16 i, .int .i64 n] 27)) (w.heap.size + 1) f mo i n) := ⟨by
    have := MlBox.new (w.alloc (.cells #[.int .i64 aw, .int .i64 ab] 37)) f mo i n 27
    rwa [World.size_alloc] at this⟩
  have hT : Below w.heap.size w ((w.alloc (.cells #[.int .i64 aw, .int .i64 ab] 37)).alloc (.cells #[.int .u32 f, .int .i64 mo, .int .u16 i, .int .i64 n] 27)) := below_al (below_al (Below.refl _ _) _) _
  have hii : (it : Int) = (i : Int) ∨ ((it : Int) == (i : Int)) = false ∧ ¬ it = i := by
    by_cases h : it = i
    · exact .inl (by rw [h])
    · exact .inr ⟨by simpa using (by omega : ¬ (it : Int) = i), h⟩
  rcases hii with hii | ⟨hii, hn⟩
  · have h0 : it = i := by omega
    subst h0
    rw [if_pos rfl] at F1 F2
    clear hii
    rcases F1 with F1 | ⟨rfl, hw1, rfl, hw2⟩ <;> rcases F2 with F2 | ⟨rfl, hw3, rfl, hw4⟩
    · have F1' : ¬ e5 = 0 := F1
      clear F1
      have F2' : ¬ e6 = 0 := F2
      clear F2
      go_enter Tryd.func6, Tryd.ntmps6
      go_wp2_with (first
        | (go_at_call 17; (with_reducible refine (P6.out _ _ _ (below_al (hT) _) (HLI.out _ (HL.out.below (below_al (Below.refl _ _) _)))).mono ?_); rintro e w4x ⟨v4, rfl, hF4, hb4⟩; have hT := bc_then (below_al (hT) _) hb4; have HA : Veil _ := ⟨(HA.out.below (below_al (Below.refl _ _) _)).below hb4⟩; have HM : Veil _ := ⟨(HM.out.below (below_al (Below.refl _ _) _)).below hb4⟩; have HL : Veil _ := ⟨(HL.out.below (below_al (Below.refl _ _) _)).below hb4⟩; have HX : Veil _ := ⟨(HX.out.below (below_al (Below.refl _ _) _)).below hb4⟩; have HC : Veil _ := ⟨(AcBox.new _ _ _ _).below hb4⟩; obtain ⟨p4, c4, rfl, hE4, -⟩ := hF4.form; have HY : Veil _ := ⟨hE4⟩; clear hE4 hF4; dsimp only [Ac.v]; obtain ⟨HA0, HA1⟩ := HA.out; have HAz := World.block_lt_of_cell? _ _ HA0; dsimp only at HAz; obtain ⟨HM0, HM1, HM2, HM3⟩ := HM.out; have HMz := World.block_lt_of_cell? _ _ HM0; dsimp only at HMz; obtain ⟨HC0, HC1⟩ := HC.out; have HCz := World.block_lt_of_cell? _ _ HC0; dsimp only at HCz)
        | (go_at_call 16; (with_reducible refine (P5.out _ _ _ hT (HLI.out _ HL.out)).mono ?_); rintro e w3x ⟨v3, rfl, hF3, hb3⟩; have hT := bc_then (hT) hb3; have HA : Veil _ := ⟨HA.out.below hb3⟩; have HM : Veil _ := ⟨HM.out.below hb3⟩; have HL : Veil _ := ⟨HL.out.below hb3⟩; obtain ⟨p3, c3, rfl, hE3, -⟩ := hF3.form; have HX : Veil _ := ⟨hE3⟩; clear hE3 hF3; dsimp only [Ac.v]; obtain ⟨HA0, HA1⟩ := HA.out; have HAz := World.block_lt_of_cell? _ _ HA0; dsimp only at HAz; obtain ⟨HM0, HM1, HM2, HM3⟩ := HM.out; have HMz := World.block_lt_of_cell? _ _ HM0; dsimp only at HMz)
        | (go_at_call 15; (with_reducible refine (hcut.out _ (hT)).mono ?_); rintro e w2x ⟨v2, rfl, hF2, hb2⟩; have hT := bc_then (hT) hb2; have HA : Veil _ := ⟨HA.out.below hb2⟩; have HM : Veil _ := ⟨HM.out.below hb2⟩; obtain ⟨p2, c2, rfl, hI2, -⟩ := hF2.formI; have hE2 := hI2.els; have HLI : Veil _ := ⟨inl_of hI2⟩; clear hI2; have HL : Veil _ := ⟨hE2⟩; clear hE2 hF2; obtain ⟨HA0, HA1⟩ := HA.out; have HAz := World.block_lt_of_cell? _ _ HA0; dsimp only at HAz; obtain ⟨HM0, HM1, HM2, HM3⟩ := HM.out; have HMz := World.block_lt_of_cell? _ _ HM0; dsimp only at HMz)
        | (go_at_call 8; (with_reducible refine (shown14_any _ (HSm.out _ hT)).mono ?_); rintro e w1x ⟨rfl, hb1⟩; have hT := bc_then (hT) hb1; have HA : Veil _ := ⟨HA.out.below hb1⟩; have HM : Veil _ := ⟨HM.out.below hb1⟩; obtain ⟨HA0, HA1⟩ := HA.out; have HAz := World.block_lt_of_cell? _ _ HA0; dsimp only at HAz; obtain ⟨HM0, HM1, HM2, HM3⟩ := HM.out; have HMz := World.block_lt_of_cell? _ _ HM0; dsimp only at HMz))
      go_ret
      exact ⟨rfl, by first | exact hT | exact below_al hT _⟩
    · have F1' : ¬ e5 = 0 := F1
      clear F1
      go_enter Tryd.func6, Tryd.ntmps6
      go_wp2_with (first
        | (go_at_call 19; (with_reducible refine (CL.out _ _ _ HL.out).mono ?_); rintro e w6x ⟨rfl, hb6⟩; have hT := bc_then (hT) hb6; have HA : Veil _ := ⟨HA.out.below hb6⟩; have HM : Veil _ := ⟨HM.out.below hb6⟩; have HC : Veil _ := ⟨HC.out.below hb6⟩; have HD : Veil _ := ⟨HD.out.below hb6⟩; have HL : Veil _ := ⟨HL.out.below hb6⟩; have HX : Veil _ := ⟨HX.out.below hb6⟩; have HY : Veil _ := ⟨HY.out.below hb6⟩; obtain ⟨HA0, HA1⟩ := HA.out; have HAz := World.block_lt_of_cell? _ _ HA0; dsimp only at HAz; obtain ⟨HM0, HM1, HM2, HM3⟩ := HM.out; have HMz := World.block_lt_of_cell? _ _ HM0; dsimp only at HMz; obtain ⟨HC0, HC1⟩ := HC.out; have HCz := World.block_lt_of_cell? _ _ HC0; dsimp only at HCz; obtain ⟨HD0, HD1⟩ := HD.out; have HDz := World.block_lt_of_cell? _ _ HD0; dsimp only at HDz)
        | (go_at_call 19; (with_reducible refine (CY.out _ _ _ (HY.out.below (below_al (Below.refl _ _) _))).mono ?_); rintro e w5x ⟨rfl, hb5⟩; have hT := bc_then (below_al (hT) _) hb5; have HA : Veil _ := ⟨(HA.out.below (below_al (Below.refl _ _) _)).below hb5⟩; have HM : Veil _ := ⟨(HM.out.below (below_al (Below.refl _ _) _)).below hb5⟩; have HC : Veil _ := ⟨(HC.out.below (below_al (Below.refl _ _) _)).below hb5⟩; have HL : Veil _ := ⟨(HL.out.below (below_al (Below.refl _ _) _)).below hb5⟩; have HX : Veil _ := ⟨(HX.out.below (below_al (Below.refl _ _) _)).below hb5⟩; have HY : Veil _ := ⟨(HY.out.below (below_al (Below.refl _ _) _)).below hb5⟩; have HD : Veil _ := ⟨(AcBox.new _ _ _ _).below hb5⟩; obtain ⟨HA0, HA1⟩ := HA.out; have HAz := World.block_lt_of_cell? _ _ HA0; dsimp only at HAz; obtain ⟨HM0, HM1, HM2, HM3⟩ := HM.out; have HMz := World.block_lt_of_cell? _ _ HM0; dsimp only at HMz; obtain ⟨HC0, HC1⟩ := HC.out; have HCz := World.block_lt_of_cell? _ _ HC0; dsimp only at HCz; obtain ⟨HD0, HD1⟩ := HD.out; have HDz := World.block_lt_of_cell? _ _ HD0; dsimp only at HDz)
        | (go_at_call 17; (with_reducible refine (P6.out _ _ _ (below_al (hT) _) (HLI.out _ (HL.out.below (below_al (Below.refl _ _) _)))).mono ?_); rintro e w4x ⟨v4, rfl, hF4, hb4⟩; have hT := bc_then (below_al (hT) _) hb4; have HA : Veil _ := ⟨(HA.out.below (below_al (Below.refl _ _) _)).below hb4⟩; have HM : Veil _ := ⟨(HM.out.below (below_al (Below.refl _ _) _)).below hb4⟩; have HL : Veil _ := ⟨(HL.out.below (below_al (Below.refl _ _) _)).below hb4⟩; have HX : Veil _ := ⟨(HX.out.below (below_al (Below.refl _ _) _)).below hb4⟩; have HC : Veil _ := ⟨(AcBox.new _ _ _ _).below hb4⟩; obtain ⟨p4, c4, rfl, hE4, -⟩ := hF4.form; have HY : Veil _ := ⟨hE4⟩; clear hE4 hF4; dsimp only [Ac.v]; obtain ⟨HA0, HA1⟩ := HA.out; have HAz := World.block_lt_of_cell? _ _ HA0; dsimp only at HAz; obtain ⟨HM0, HM1, HM2, HM3⟩ := HM.out; have HMz := World.block_lt_of_cell? _ _ HM0; dsimp only at HMz; obtain ⟨HC0, HC1⟩ := HC.out; have HCz := World.block_lt_of_cell? _ _ HC0; dsimp only at HCz)
        | (go_at_call 16; (with_reducible refine (P5.out _ _ _ hT (HLI.out _ HL.out)).mono ?_); rintro e w3x ⟨v3, rfl, hF3, hb3⟩; have hT := bc_then (hT) hb3; have HA : Veil _ := ⟨HA.out.below hb3⟩; have HM : Veil _ := ⟨HM.out.below hb3⟩; have HL : Veil _ := ⟨HL.out.below hb3⟩; obtain ⟨p3, c3, rfl, hE3, -⟩ := hF3.form; have HX : Veil _ := ⟨hE3⟩; clear hE3 hF3; dsimp only [Ac.v]; obtain ⟨HA0, HA1⟩ := HA.out; have HAz := World.block_lt_of_cell? _ _ HA0; dsimp only at HAz; obtain ⟨HM0, HM1, HM2, HM3⟩ := HM.out; have HMz := World.block_lt_of_cell? _ _ HM0; dsimp only at HMz)
        | (go_at_call 15; (with_reducible refine (hcut.out _ (hT)).mono ?_); rintro e w2x ⟨v2, rfl, hF2, hb2⟩; have hT := bc_then (hT) hb2; have HA : Veil _ := ⟨HA.out.below hb2⟩; have HM : Veil _ := ⟨HM.out.below hb2⟩; obtain ⟨p2, c2, rfl, hI2, -⟩ := hF2.formI; have hE2 := hI2.els; have HLI : Veil _ := ⟨inl_of hI2⟩; clear hI2; have HL : Veil _ := ⟨hE2⟩; clear hE2 hF2; obtain ⟨HA0, HA1⟩ := HA.out; have HAz := World.block_lt_of_cell? _ _ HA0; dsimp only at HAz; obtain ⟨HM0, HM1, HM2, HM3⟩ := HM.out; have HMz := World.block_lt_of_cell? _ _ HM0; dsimp only at HMz)
        | (go_at_call 8; (with_reducible refine (shown14_any _ (HSm.out _ hT)).mono ?_); rintro e w1x ⟨rfl, hb1⟩; have hT := bc_then (hT) hb1; have HA : Veil _ := ⟨HA.out.below hb1⟩; have HM : Veil _ := ⟨HM.out.below hb1⟩; obtain ⟨HA0, HA1⟩ := HA.out; have HAz := World.block_lt_of_cell? _ _ HA0; dsimp only at HAz; obtain ⟨HM0, HM1, HM2, HM3⟩ := HM.out; have HMz := World.block_lt_of_cell? _ _ HM0; dsimp only at HMz))
      go_ret
      exact ⟨rfl, by first | exact hT | exact below_al hT _⟩
    · have F2' : ¬ e6 = 0 := F2
      clear F2
      go_enter Tryd.func6, Tryd.ntmps6
      go_wp2_with (first
        | (go_at_call 19; (with_reducible refine (CL.out _ _ _ HL.out).mono ?_); rintro e w6x ⟨rfl, hb6⟩; have hT := bc_then (hT) hb6; have HA : Veil _ := ⟨HA.out.below hb6⟩; have HM : Veil _ := ⟨HM.out.below hb6⟩; have HC : Veil _ := ⟨HC.out.below hb6⟩; have HD : Veil _ := ⟨HD.out.below hb6⟩; have HL : Veil _ := ⟨HL.out.below hb6⟩; have HX : Veil _ := ⟨HX.out.below hb6⟩; have HY : Veil _ := ⟨HY.out.below hb6⟩; obtain ⟨HA0, HA1⟩ := HA.out; have HAz := World.block_lt_of_cell? _ _ HA0; dsimp only at HAz; obtain ⟨HM0, HM1, HM2, HM3⟩ := HM.out; have HMz := World.block_lt_of_cell? _ _ HM0; dsimp only at HMz; obtain ⟨HC0, HC1⟩ := HC.out; have HCz := World.block_lt_of_cell? _ _ HC0; dsimp only at HCz; obtain ⟨HD0, HD1⟩ := HD.out; have HDz := World.block_lt_of_cell? _ _ HD0; dsimp only at HDz)
        | (go_at_call 19; (with_reducible refine (CX.out _ _ _ (HX.out.below (below_al (Below.refl _ _) _))).mono ?_); rintro e w5x ⟨rfl, hb5⟩; have hT := bc_then (below_al (hT) _) hb5; have HA : Veil _ := ⟨(HA.out.below (below_al (Below.refl _ _) _)).below hb5⟩; have HM : Veil _ := ⟨(HM.out.below (below_al (Below.refl _ _) _)).below hb5⟩; have HC : Veil _ := ⟨(HC.out.below (below_al (Below.refl _ _) _)).below hb5⟩; have HL : Veil _ := ⟨(HL.out.below (below_al (Below.refl _ _) _)).below hb5⟩; have HX : Veil _ := ⟨(HX.out.below (below_al (Below.refl _ _) _)).below hb5⟩; have HY : Veil _ := ⟨(HY.out.below (below_al (Below.refl _ _) _)).below hb5⟩; have HD : Veil _ := ⟨(AcBox.new _ _ _ _).below hb5⟩; obtain ⟨HA0, HA1⟩ := HA.out; have HAz := World.block_lt_of_cell? _ _ HA0; dsimp only at HAz; obtain ⟨HM0, HM1, HM2, HM3⟩ := HM.out; have HMz := World.block_lt_of_cell? _ _ HM0; dsimp only at HMz; obtain ⟨HC0, HC1⟩ := HC.out; have HCz := World.block_lt_of_cell? _ _ HC0; dsimp only at HCz; obtain ⟨HD0, HD1⟩ := HD.out; have HDz := World.block_lt_of_cell? _ _ HD0; dsimp only at HDz)
        | (go_at_call 17; (with_reducible refine (P6.out _ _ _ (below_al (hT) _) (HLI.out _ (HL.out.below (below_al (Below.refl _ _) _)))).mono ?_); rintro e w4x ⟨v4, rfl, hF4, hb4⟩; have hT := bc_then (below_al (hT) _) hb4; have HA : Veil _ := ⟨(HA.out.below (below_al (Below.refl _ _) _)).below hb4⟩; have HM : Veil _ := ⟨(HM.out.below (below_al (Below.refl _ _) _)).below hb4⟩; have HL : Veil _ := ⟨(HL.out.below (below_al (Below.refl _ _) _)).below hb4⟩; have HX : Veil _ := ⟨(HX.out.below (below_al (Below.refl _ _) _)).below hb4⟩; have HC : Veil _ := ⟨(AcBox.new _ _ _ _).below hb4⟩; obtain ⟨p4, c4, rfl, hE4, -⟩ := hF4.form; have HY : Veil _ := ⟨hE4⟩; clear hE4 hF4; dsimp only [Ac.v]; obtain ⟨HA0, HA1⟩ := HA.out; have HAz := World.block_lt_of_cell? _ _ HA0; dsimp only at HAz; obtain ⟨HM0, HM1, HM2, HM3⟩ := HM.out; have HMz := World.block_lt_of_cell? _ _ HM0; dsimp only at HMz; obtain ⟨HC0, HC1⟩ := HC.out; have HCz := World.block_lt_of_cell? _ _ HC0; dsimp only at HCz)
        | (go_at_call 16; (with_reducible refine (P5.out _ _ _ hT (HLI.out _ HL.out)).mono ?_); rintro e w3x ⟨v3, rfl, hF3, hb3⟩; have hT := bc_then (hT) hb3; have HA : Veil _ := ⟨HA.out.below hb3⟩; have HM : Veil _ := ⟨HM.out.below hb3⟩; have HL : Veil _ := ⟨HL.out.below hb3⟩; obtain ⟨p3, c3, rfl, hE3, -⟩ := hF3.form; have HX : Veil _ := ⟨hE3⟩; clear hE3 hF3; dsimp only [Ac.v]; obtain ⟨HA0, HA1⟩ := HA.out; have HAz := World.block_lt_of_cell? _ _ HA0; dsimp only at HAz; obtain ⟨HM0, HM1, HM2, HM3⟩ := HM.out; have HMz := World.block_lt_of_cell? _ _ HM0; dsimp only at HMz)
        | (go_at_call 15; (with_reducible refine (hcut.out _ (hT)).mono ?_); rintro e w2x ⟨v2, rfl, hF2, hb2⟩; have hT := bc_then (hT) hb2; have HA : Veil _ := ⟨HA.out.below hb2⟩; have HM : Veil _ := ⟨HM.out.below hb2⟩; obtain ⟨p2, c2, rfl, hI2, -⟩ := hF2.formI; have hE2 := hI2.els; have HLI : Veil _ := ⟨inl_of hI2⟩; clear hI2; have HL : Veil _ := ⟨hE2⟩; clear hE2 hF2; obtain ⟨HA0, HA1⟩ := HA.out; have HAz := World.block_lt_of_cell? _ _ HA0; dsimp only at HAz; obtain ⟨HM0, HM1, HM2, HM3⟩ := HM.out; have HMz := World.block_lt_of_cell? _ _ HM0; dsimp only at HMz)
        | (go_at_call 8; (with_reducible refine (shown14_any _ (HSm.out _ hT)).mono ?_); rintro e w1x ⟨rfl, hb1⟩; have hT := bc_then (hT) hb1; have HA : Veil _ := ⟨HA.out.below hb1⟩; have HM : Veil _ := ⟨HM.out.below hb1⟩; obtain ⟨HA0, HA1⟩ := HA.out; have HAz := World.block_lt_of_cell? _ _ HA0; dsimp only at HAz; obtain ⟨HM0, HM1, HM2, HM3⟩ := HM.out; have HMz := World.block_lt_of_cell? _ _ HM0; dsimp only at HMz))
      go_ret
      exact ⟨rfl, by first | exact hT | exact below_al hT _⟩
    · go_enter Tryd.func6, Tryd.ntmps6
      go_wp2_with (first
        | (go_at_call 19; (with_reducible refine (CL.out _ _ _ HL.out).mono ?_); rintro e w8x ⟨rfl, hb8⟩; have hT := bc_then (hT) hb8; have HA : Veil _ := ⟨HA.out.below hb8⟩; have HM : Veil _ := ⟨HM.out.below hb8⟩; have HC : Veil _ := ⟨HC.out.below hb8⟩; have HD : Veil _ := ⟨HD.out.below hb8⟩; have HL : Veil _ := ⟨HL.out.below hb8⟩; have HX : Veil _ := ⟨HX.out.below hb8⟩; have HY : Veil _ := ⟨HY.out.below hb8⟩; obtain ⟨HA0, HA1⟩ := HA.out; have HAz := World.block_lt_of_cell? _ _ HA0; dsimp only at HAz; obtain ⟨HM0, HM1, HM2, HM3⟩ := HM.out; have HMz := World.block_lt_of_cell? _ _ HM0; dsimp only at HMz; obtain ⟨HC0, HC1⟩ := HC.out; have HCz := World.block_lt_of_cell? _ _ HC0; dsimp only at HCz; obtain ⟨HD0, HD1⟩ := HD.out; have HDz := World.block_lt_of_cell? _ _ HD0; dsimp only at HDz)
        | (go_at_call 19; (with_reducible refine (CY.out _ _ _ HY.out).mono ?_); rintro e w7x ⟨rfl, hb7⟩; have hT := bc_then (hT) hb7; have HA : Veil _ := ⟨HA.out.below hb7⟩; have HM : Veil _ := ⟨HM.out.below hb7⟩; have HC : Veil _ := ⟨HC.out.below hb7⟩; have HD : Veil _ := ⟨HD.out.below hb7⟩; have HL : Veil _ := ⟨HL.out.below hb7⟩; have HX : Veil _ := ⟨HX.out.below hb7⟩; have HY : Veil _ := ⟨HY.out.below hb7⟩; obtain ⟨HA0, HA1⟩ := HA.out; have HAz := World.block_lt_of_cell? _ _ HA0; dsimp only at HAz; obtain ⟨HM0, HM1, HM2, HM3⟩ := HM.out; have HMz := World.block_lt_of_cell? _ _ HM0; dsimp only at HMz; obtain ⟨HC0, HC1⟩ := HC.out; have HCz := World.block_lt_of_cell? _ _ HC0; dsimp only at HCz; obtain ⟨HD0, HD1⟩ := HD.out; have HDz := World.block_lt_of_cell? _ _ HD0; dsimp only at HDz)
        | (go_at_call 19; (with_reducible refine (CL.out _ _ _ HL.out).mono ?_); rintro e w6x ⟨rfl, hb6⟩; have hT := bc_then (hT) hb6; have HA : Veil _ := ⟨HA.out.below hb6⟩; have HM : Veil _ := ⟨HM.out.below hb6⟩; have HC : Veil _ := ⟨HC.out.below hb6⟩; have HD : Veil _ := ⟨HD.out.below hb6⟩; have HL : Veil _ := ⟨HL.out.below hb6⟩; have HX : Veil _ := ⟨HX.out.below hb6⟩; have HY : Veil _ := ⟨HY.out.below hb6⟩; obtain ⟨HA0, HA1⟩ := HA.out; have HAz := World.block_lt_of_cell? _ _ HA0; dsimp only at HAz; obtain ⟨HM0, HM1, HM2, HM3⟩ := HM.out; have HMz := World.block_lt_of_cell? _ _ HM0; dsimp only at HMz; obtain ⟨HC0, HC1⟩ := HC.out; have HCz := World.block_lt_of_cell? _ _ HC0; dsimp only at HCz; obtain ⟨HD0, HD1⟩ := HD.out; have HDz := World.block_lt_of_cell? _ _ HD0; dsimp only at HDz)
        | (go_at_call 19; (with_reducible refine (CX.out _ _ _ (HX.out.below (below_al (Below.refl _ _) _))).mono ?_); rintro e w5x ⟨rfl, hb5⟩; have hT := bc_then (below_al (hT) _) hb5; have HA : Veil _ := ⟨(HA.out.below (below_al (Below.refl _ _) _)).below hb5⟩; have HM : Veil _ := ⟨(HM.out.below (below_al (Below.refl _ _) _)).below hb5⟩; have HC : Veil _ := ⟨(HC.out.below (below_al (Below.refl _ _) _)).below hb5⟩; have HL : Veil _ := ⟨(HL.out.below (below_al (Below.refl _ _) _)).below hb5⟩; have HX : Veil _ := ⟨(HX.out.below (below_al (Below.refl _ _) _)).below hb5⟩; have HY : Veil _ := ⟨(HY.out.below (below_al (Below.refl _ _) _)).below hb5⟩; have HD : Veil _ := ⟨(AcBox.new _ _ _ _).below hb5⟩; obtain ⟨HA0, HA1⟩ := HA.out; have HAz := World.block_lt_of_cell? _ _ HA0; dsimp only at HAz; obtain ⟨HM0, HM1, HM2, HM3⟩ := HM.out; have HMz := World.block_lt_of_cell? _ _ HM0; dsimp only at HMz; obtain ⟨HC0, HC1⟩ := HC.out; have HCz := World.block_lt_of_cell? _ _ HC0; dsimp only at HCz; obtain ⟨HD0, HD1⟩ := HD.out; have HDz := World.block_lt_of_cell? _ _ HD0; dsimp only at HDz)
        | (go_at_call 17; (with_reducible refine (P6.out _ _ _ (below_al (hT) _) (HLI.out _ (HL.out.below (below_al (Below.refl _ _) _)))).mono ?_); rintro e w4x ⟨v4, rfl, hF4, hb4⟩; have hT := bc_then (below_al (hT) _) hb4; have HA : Veil _ := ⟨(HA.out.below (below_al (Below.refl _ _) _)).below hb4⟩; have HM : Veil _ := ⟨(HM.out.below (below_al (Below.refl _ _) _)).below hb4⟩; have HL : Veil _ := ⟨(HL.out.below (below_al (Below.refl _ _) _)).below hb4⟩; have HX : Veil _ := ⟨(HX.out.below (below_al (Below.refl _ _) _)).below hb4⟩; have HC : Veil _ := ⟨(AcBox.new _ _ _ _).below hb4⟩; obtain ⟨p4, c4, rfl, hE4, -⟩ := hF4.form; have HY : Veil _ := ⟨hE4⟩; clear hE4 hF4; dsimp only [Ac.v]; obtain ⟨HA0, HA1⟩ := HA.out; have HAz := World.block_lt_of_cell? _ _ HA0; dsimp only at HAz; obtain ⟨HM0, HM1, HM2, HM3⟩ := HM.out; have HMz := World.block_lt_of_cell? _ _ HM0; dsimp only at HMz; obtain ⟨HC0, HC1⟩ := HC.out; have HCz := World.block_lt_of_cell? _ _ HC0; dsimp only at HCz)
        | (go_at_call 16; (with_reducible refine (P5.out _ _ _ hT (HLI.out _ HL.out)).mono ?_); rintro e w3x ⟨v3, rfl, hF3, hb3⟩; have hT := bc_then (hT) hb3; have HA : Veil _ := ⟨HA.out.below hb3⟩; have HM : Veil _ := ⟨HM.out.below hb3⟩; have HL : Veil _ := ⟨HL.out.below hb3⟩; obtain ⟨p3, c3, rfl, hE3, -⟩ := hF3.form; have HX : Veil _ := ⟨hE3⟩; clear hE3 hF3; dsimp only [Ac.v]; obtain ⟨HA0, HA1⟩ := HA.out; have HAz := World.block_lt_of_cell? _ _ HA0; dsimp only at HAz; obtain ⟨HM0, HM1, HM2, HM3⟩ := HM.out; have HMz := World.block_lt_of_cell? _ _ HM0; dsimp only at HMz)
        | (go_at_call 15; (with_reducible refine (hcut.out _ (hT)).mono ?_); rintro e w2x ⟨v2, rfl, hF2, hb2⟩; have hT := bc_then (hT) hb2; have HA : Veil _ := ⟨HA.out.below hb2⟩; have HM : Veil _ := ⟨HM.out.below hb2⟩; obtain ⟨p2, c2, rfl, hI2, -⟩ := hF2.formI; have hE2 := hI2.els; have HLI : Veil _ := ⟨inl_of hI2⟩; clear hI2; have HL : Veil _ := ⟨hE2⟩; clear hE2 hF2; obtain ⟨HA0, HA1⟩ := HA.out; have HAz := World.block_lt_of_cell? _ _ HA0; dsimp only at HAz; obtain ⟨HM0, HM1, HM2, HM3⟩ := HM.out; have HMz := World.block_lt_of_cell? _ _ HM0; dsimp only at HMz)
        | (go_at_call 8; (with_reducible refine (shown14_any _ (HSm.out _ hT)).mono ?_); rintro e w1x ⟨rfl, hb1⟩; have hT := bc_then (hT) hb1; have HA : Veil _ := ⟨HA.out.below hb1⟩; have HM : Veil _ := ⟨HM.out.below hb1⟩; obtain ⟨HA0, HA1⟩ := HA.out; have HAz := World.block_lt_of_cell? _ _ HA0; dsimp only at HAz; obtain ⟨HM0, HM1, HM2, HM3⟩ := HM.out; have HMz := World.block_lt_of_cell? _ _ HM0; dsimp only at HMz))
      go_ret
      exact ⟨rfl, by first | exact hT | exact below_al hT _⟩
  · rw [if_neg hn] at F1 F2
    rw [Int.add_zero] at F1
    rw [Int.sub_zero] at F2
    clear hn
    rcases F1 with F1 | ⟨rfl, hw1, rfl, hw2⟩ <;> rcases F2 with F2 | ⟨rfl, hw3, rfl, hw4⟩
    · have F1' : ¬ e5 = 0 := F1
      clear F1
      have F2' : ¬ e6 = 0 := F2
      clear F2
      go_enter Tryd.func6, Tryd.ntmps6
      go_wp2_with (first
        | (go_at_call 17; (with_reducible refine (P6.out _ _ _ (below_al (hT) _) (HLI.out _ (HL.out.below (below_al (Below.refl _ _) _)))).mono ?_); rintro e w4x ⟨v4, rfl, hF4, hb4⟩; have hT := bc_then (below_al (hT) _) hb4; have HA : Veil _ := ⟨(HA.out.below (below_al (Below.refl _ _) _)).below hb4⟩; have HM : Veil _ := ⟨(HM.out.below (below_al (Below.refl _ _) _)).below hb4⟩; have HL : Veil _ := ⟨(HL.out.below (below_al (Below.refl _ _) _)).below hb4⟩; have HX : Veil _ := ⟨(HX.out.below (below_al (Below.refl _ _) _)).below hb4⟩; have HC : Veil _ := ⟨(AcBox.new _ _ _ _).below hb4⟩; obtain ⟨p4, c4, rfl, hE4, -⟩ := hF4.form; have HY : Veil _ := ⟨hE4⟩; clear hE4 hF4; dsimp only [Ac.v]; obtain ⟨HA0, HA1⟩ := HA.out; have HAz := World.block_lt_of_cell? _ _ HA0; dsimp only at HAz; obtain ⟨HM0, HM1, HM2, HM3⟩ := HM.out; have HMz := World.block_lt_of_cell? _ _ HM0; dsimp only at HMz; obtain ⟨HC0, HC1⟩ := HC.out; have HCz := World.block_lt_of_cell? _ _ HC0; dsimp only at HCz)
        | (go_at_call 16; (with_reducible refine (P5.out _ _ _ hT (HLI.out _ HL.out)).mono ?_); rintro e w3x ⟨v3, rfl, hF3, hb3⟩; have hT := bc_then (hT) hb3; have HA : Veil _ := ⟨HA.out.below hb3⟩; have HM : Veil _ := ⟨HM.out.below hb3⟩; have HL : Veil _ := ⟨HL.out.below hb3⟩; obtain ⟨p3, c3, rfl, hE3, -⟩ := hF3.form; have HX : Veil _ := ⟨hE3⟩; clear hE3 hF3; dsimp only [Ac.v]; obtain ⟨HA0, HA1⟩ := HA.out; have HAz := World.block_lt_of_cell? _ _ HA0; dsimp only at HAz; obtain ⟨HM0, HM1, HM2, HM3⟩ := HM.out; have HMz := World.block_lt_of_cell? _ _ HM0; dsimp only at HMz)
        | (go_at_call 15; (with_reducible refine (hcut.out _ (hT)).mono ?_); rintro e w2x ⟨v2, rfl, hF2, hb2⟩; have hT := bc_then (hT) hb2; have HA : Veil _ := ⟨HA.out.below hb2⟩; have HM : Veil _ := ⟨HM.out.below hb2⟩; obtain ⟨p2, c2, rfl, hI2, -⟩ := hF2.formI; have hE2 := hI2.els; have HLI : Veil _ := ⟨inl_of hI2⟩; clear hI2; have HL : Veil _ := ⟨hE2⟩; clear hE2 hF2; obtain ⟨HA0, HA1⟩ := HA.out; have HAz := World.block_lt_of_cell? _ _ HA0; dsimp only at HAz; obtain ⟨HM0, HM1, HM2, HM3⟩ := HM.out; have HMz := World.block_lt_of_cell? _ _ HM0; dsimp only at HMz)
        | (go_at_call 8; (with_reducible refine (shown14_any _ (HSm.out _ hT)).mono ?_); rintro e w1x ⟨rfl, hb1⟩; have hT := bc_then (hT) hb1; have HA : Veil _ := ⟨HA.out.below hb1⟩; have HM : Veil _ := ⟨HM.out.below hb1⟩; obtain ⟨HA0, HA1⟩ := HA.out; have HAz := World.block_lt_of_cell? _ _ HA0; dsimp only at HAz; obtain ⟨HM0, HM1, HM2, HM3⟩ := HM.out; have HMz := World.block_lt_of_cell? _ _ HM0; dsimp only at HMz))
      go_ret
      exact ⟨rfl, by first | exact hT | exact below_al hT _⟩
    · have F1' : ¬ e5 = 0 := F1
      clear F1
      go_enter Tryd.func6, Tryd.ntmps6
      go_wp2_with (first
        | (go_at_call 19; (with_reducible refine (CL.out _ _ _ HL.out).mono ?_); rintro e w6x ⟨rfl, hb6⟩; have hT := bc_then (hT) hb6; have HA : Veil _ := ⟨HA.out.below hb6⟩; have HM : Veil _ := ⟨HM.out.below hb6⟩; have HC : Veil _ := ⟨HC.out.below hb6⟩; have HD : Veil _ := ⟨HD.out.below hb6⟩; have HL : Veil _ := ⟨HL.out.below hb6⟩; have HX : Veil _ := ⟨HX.out.below hb6⟩; have HY : Veil _ := ⟨HY.out.below hb6⟩; obtain ⟨HA0, HA1⟩ := HA.out; have HAz := World.block_lt_of_cell? _ _ HA0; dsimp only at HAz; obtain ⟨HM0, HM1, HM2, HM3⟩ := HM.out; have HMz := World.block_lt_of_cell? _ _ HM0; dsimp only at HMz; obtain ⟨HC0, HC1⟩ := HC.out; have HCz := World.block_lt_of_cell? _ _ HC0; dsimp only at HCz; obtain ⟨HD0, HD1⟩ := HD.out; have HDz := World.block_lt_of_cell? _ _ HD0; dsimp only at HDz)
        | (go_at_call 19; (with_reducible refine (CY.out _ _ _ (HY.out.below (below_al (Below.refl _ _) _))).mono ?_); rintro e w5x ⟨rfl, hb5⟩; have hT := bc_then (below_al (hT) _) hb5; have HA : Veil _ := ⟨(HA.out.below (below_al (Below.refl _ _) _)).below hb5⟩; have HM : Veil _ := ⟨(HM.out.below (below_al (Below.refl _ _) _)).below hb5⟩; have HC : Veil _ := ⟨(HC.out.below (below_al (Below.refl _ _) _)).below hb5⟩; have HL : Veil _ := ⟨(HL.out.below (below_al (Below.refl _ _) _)).below hb5⟩; have HX : Veil _ := ⟨(HX.out.below (below_al (Below.refl _ _) _)).below hb5⟩; have HY : Veil _ := ⟨(HY.out.below (below_al (Below.refl _ _) _)).below hb5⟩; have HD : Veil _ := ⟨(AcBox.new _ _ _ _).below hb5⟩; obtain ⟨HA0, HA1⟩ := HA.out; have HAz := World.block_lt_of_cell? _ _ HA0; dsimp only at HAz; obtain ⟨HM0, HM1, HM2, HM3⟩ := HM.out; have HMz := World.block_lt_of_cell? _ _ HM0; dsimp only at HMz; obtain ⟨HC0, HC1⟩ := HC.out; have HCz := World.block_lt_of_cell? _ _ HC0; dsimp only at HCz; obtain ⟨HD0, HD1⟩ := HD.out; have HDz := World.block_lt_of_cell? _ _ HD0; dsimp only at HDz)
        | (go_at_call 17; (with_reducible refine (P6.out _ _ _ (below_al (hT) _) (HLI.out _ (HL.out.below (below_al (Below.refl _ _) _)))).mono ?_); rintro e w4x ⟨v4, rfl, hF4, hb4⟩; have hT := bc_then (below_al (hT) _) hb4; have HA : Veil _ := ⟨(HA.out.below (below_al (Below.refl _ _) _)).below hb4⟩; have HM : Veil _ := ⟨(HM.out.below (below_al (Below.refl _ _) _)).below hb4⟩; have HL : Veil _ := ⟨(HL.out.below (below_al (Below.refl _ _) _)).below hb4⟩; have HX : Veil _ := ⟨(HX.out.below (below_al (Below.refl _ _) _)).below hb4⟩; have HC : Veil _ := ⟨(AcBox.new _ _ _ _).below hb4⟩; obtain ⟨p4, c4, rfl, hE4, -⟩ := hF4.form; have HY : Veil _ := ⟨hE4⟩; clear hE4 hF4; dsimp only [Ac.v]; obtain ⟨HA0, HA1⟩ := HA.out; have HAz := World.block_lt_of_cell? _ _ HA0; dsimp only at HAz; obtain ⟨HM0, HM1, HM2, HM3⟩ := HM.out; have HMz := World.block_lt_of_cell? _ _ HM0; dsimp only at HMz; obtain ⟨HC0, HC1⟩ := HC.out; have HCz := World.block_lt_of_cell? _ _ HC0; dsimp only at HCz)
        | (go_at_call 16; (with_reducible refine (P5.out _ _ _ hT (HLI.out _ HL.out)).mono ?_); rintro e w3x ⟨v3, rfl, hF3, hb3⟩; have hT := bc_then (hT) hb3; have HA : Veil _ := ⟨HA.out.below hb3⟩; have HM : Veil _ := ⟨HM.out.below hb3⟩; have HL : Veil _ := ⟨HL.out.below hb3⟩; obtain ⟨p3, c3, rfl, hE3, -⟩ := hF3.form; have HX : Veil _ := ⟨hE3⟩; clear hE3 hF3; dsimp only [Ac.v]; obtain ⟨HA0, HA1⟩ := HA.out; have HAz := World.block_lt_of_cell? _ _ HA0; dsimp only at HAz; obtain ⟨HM0, HM1, HM2, HM3⟩ := HM.out; have HMz := World.block_lt_of_cell? _ _ HM0; dsimp only at HMz)
        | (go_at_call 15; (with_reducible refine (hcut.out _ (hT)).mono ?_); rintro e w2x ⟨v2, rfl, hF2, hb2⟩; have hT := bc_then (hT) hb2; have HA : Veil _ := ⟨HA.out.below hb2⟩; have HM : Veil _ := ⟨HM.out.below hb2⟩; obtain ⟨p2, c2, rfl, hI2, -⟩ := hF2.formI; have hE2 := hI2.els; have HLI : Veil _ := ⟨inl_of hI2⟩; clear hI2; have HL : Veil _ := ⟨hE2⟩; clear hE2 hF2; obtain ⟨HA0, HA1⟩ := HA.out; have HAz := World.block_lt_of_cell? _ _ HA0; dsimp only at HAz; obtain ⟨HM0, HM1, HM2, HM3⟩ := HM.out; have HMz := World.block_lt_of_cell? _ _ HM0; dsimp only at HMz)
        | (go_at_call 8; (with_reducible refine (shown14_any _ (HSm.out _ hT)).mono ?_); rintro e w1x ⟨rfl, hb1⟩; have hT := bc_then (hT) hb1; have HA : Veil _ := ⟨HA.out.below hb1⟩; have HM : Veil _ := ⟨HM.out.below hb1⟩; obtain ⟨HA0, HA1⟩ := HA.out; have HAz := World.block_lt_of_cell? _ _ HA0; dsimp only at HAz; obtain ⟨HM0, HM1, HM2, HM3⟩ := HM.out; have HMz := World.block_lt_of_cell? _ _ HM0; dsimp only at HMz))
      go_ret
      exact ⟨rfl, by first | exact hT | exact below_al hT _⟩
    · have F2' : ¬ e6 = 0 := F2
      clear F2
      go_enter Tryd.func6, Tryd.ntmps6
      go_wp2_with (first
        | (go_at_call 19; (with_reducible refine (CL.out _ _ _ HL.out).mono ?_); rintro e w6x ⟨rfl, hb6⟩; have hT := bc_then (hT) hb6; have HA : Veil _ := ⟨HA.out.below hb6⟩; have HM : Veil _ := ⟨HM.out.below hb6⟩; have HC : Veil _ := ⟨HC.out.below hb6⟩; have HD : Veil _ := ⟨HD.out.below hb6⟩; have HL : Veil _ := ⟨HL.out.below hb6⟩; have HX : Veil _ := ⟨HX.out.below hb6⟩; have HY : Veil _ := ⟨HY.out.below hb6⟩; obtain ⟨HA0, HA1⟩ := HA.out; have HAz := World.block_lt_of_cell? _ _ HA0; dsimp only at HAz; obtain ⟨HM0, HM1, HM2, HM3⟩ := HM.out; have HMz := World.block_lt_of_cell? _ _ HM0; dsimp only at HMz; obtain ⟨HC0, HC1⟩ := HC.out; have HCz := World.block_lt_of_cell? _ _ HC0; dsimp only at HCz; obtain ⟨HD0, HD1⟩ := HD.out; have HDz := World.block_lt_of_cell? _ _ HD0; dsimp only at HDz)
        | (go_at_call 19; (with_reducible refine (CX.out _ _ _ (HX.out.below (below_al (Below.refl _ _) _))).mono ?_); rintro e w5x ⟨rfl, hb5⟩; have hT := bc_then (below_al (hT) _) hb5; have HA : Veil _ := ⟨(HA.out.below (below_al (Below.refl _ _) _)).below hb5⟩; have HM : Veil _ := ⟨(HM.out.below (below_al (Below.refl _ _) _)).below hb5⟩; have HC : Veil _ := ⟨(HC.out.below (below_al (Below.refl _ _) _)).below hb5⟩; have HL : Veil _ := ⟨(HL.out.below (below_al (Below.refl _ _) _)).below hb5⟩; have HX : Veil _ := ⟨(HX.out.below (below_al (Below.refl _ _) _)).below hb5⟩; have HY : Veil _ := ⟨(HY.out.below (below_al (Below.refl _ _) _)).below hb5⟩; have HD : Veil _ := ⟨(AcBox.new _ _ _ _).below hb5⟩; obtain ⟨HA0, HA1⟩ := HA.out; have HAz := World.block_lt_of_cell? _ _ HA0; dsimp only at HAz; obtain ⟨HM0, HM1, HM2, HM3⟩ := HM.out; have HMz := World.block_lt_of_cell? _ _ HM0; dsimp only at HMz; obtain ⟨HC0, HC1⟩ := HC.out; have HCz := World.block_lt_of_cell? _ _ HC0; dsimp only at HCz; obtain ⟨HD0, HD1⟩ := HD.out; have HDz := World.block_lt_of_cell? _ _ HD0; dsimp only at HDz)
        | (go_at_call 17; (with_reducible refine (P6.out _ _ _ (below_al (hT) _) (HLI.out _ (HL.out.below (below_al (Below.refl _ _) _)))).mono ?_); rintro e w4x ⟨v4, rfl, hF4, hb4⟩; have hT := bc_then (below_al (hT) _) hb4; have HA : Veil _ := ⟨(HA.out.below (below_al (Below.refl _ _) _)).below hb4⟩; have HM : Veil _ := ⟨(HM.out.below (below_al (Below.refl _ _) _)).below hb4⟩; have HL : Veil _ := ⟨(HL.out.below (below_al (Below.refl _ _) _)).below hb4⟩; have HX : Veil _ := ⟨(HX.out.below (below_al (Below.refl _ _) _)).below hb4⟩; have HC : Veil _ := ⟨(AcBox.new _ _ _ _).below hb4⟩; obtain ⟨p4, c4, rfl, hE4, -⟩ := hF4.form; have HY : Veil _ := ⟨hE4⟩; clear hE4 hF4; dsimp only [Ac.v]; obtain ⟨HA0, HA1⟩ := HA.out; have HAz := World.block_lt_of_cell? _ _ HA0; dsimp only at HAz; obtain ⟨HM0, HM1, HM2, HM3⟩ := HM.out; have HMz := World.block_lt_of_cell? _ _ HM0; dsimp only at HMz; obtain ⟨HC0, HC1⟩ := HC.out; have HCz := World.block_lt_of_cell? _ _ HC0; dsimp only at HCz)
        | (go_at_call 16; (with_reducible refine (P5.out _ _ _ hT (HLI.out _ HL.out)).mono ?_); rintro e w3x ⟨v3, rfl, hF3, hb3⟩; have hT := bc_then (hT) hb3; have HA : Veil _ := ⟨HA.out.below hb3⟩; have HM : Veil _ := ⟨HM.out.below hb3⟩; have HL : Veil _ := ⟨HL.out.below hb3⟩; obtain ⟨p3, c3, rfl, hE3, -⟩ := hF3.form; have HX : Veil _ := ⟨hE3⟩; clear hE3 hF3; dsimp only [Ac.v]; obtain ⟨HA0, HA1⟩ := HA.out; have HAz := World.block_lt_of_cell? _ _ HA0; dsimp only at HAz; obtain ⟨HM0, HM1, HM2, HM3⟩ := HM.out; have HMz := World.block_lt_of_cell? _ _ HM0; dsimp only at HMz)
        | (go_at_call 15; (with_reducible refine (hcut.out _ (hT)).mono ?_); rintro e w2x ⟨v2, rfl, hF2, hb2⟩; have hT := bc_then (hT) hb2; have HA : Veil _ := ⟨HA.out.below hb2⟩; have HM : Veil _ := ⟨HM.out.below hb2⟩; obtain ⟨p2, c2, rfl, hI2, -⟩ := hF2.formI; have hE2 := hI2.els; have HLI : Veil _ := ⟨inl_of hI2⟩; clear hI2; have HL : Veil _ := ⟨hE2⟩; clear hE2 hF2; obtain ⟨HA0, HA1⟩ := HA.out; have HAz := World.block_lt_of_cell? _ _ HA0; dsimp only at HAz; obtain ⟨HM0, HM1, HM2, HM3⟩ := HM.out; have HMz := World.block_lt_of_cell? _ _ HM0; dsimp only at HMz)
        | (go_at_call 8; (with_reducible refine (shown14_any _ (HSm.out _ hT)).mono ?_); rintro e w1x ⟨rfl, hb1⟩; have hT := bc_then (hT) hb1; have HA : Veil _ := ⟨HA.out.below hb1⟩; have HM : Veil _ := ⟨HM.out.below hb1⟩; obtain ⟨HA0, HA1⟩ := HA.out; have HAz := World.block_lt_of_cell? _ _ HA0; dsimp only at HAz; obtain ⟨HM0, HM1, HM2, HM3⟩ := HM.out; have HMz := World.block_lt_of_cell? _ _ HM0; dsimp only at HMz))
      go_ret
      exact ⟨rfl, by first | exact hT | exact below_al hT _⟩
    · go_enter Tryd.func6, Tryd.ntmps6
      go_wp2_with (first
        | (go_at_call 19; (with_reducible refine (CL.out _ _ _ HL.out).mono ?_); rintro e w8x ⟨rfl, hb8⟩; have hT := bc_then (hT) hb8; have HA : Veil _ := ⟨HA.out.below hb8⟩; have HM : Veil _ := ⟨HM.out.below hb8⟩; have HC : Veil _ := ⟨HC.out.below hb8⟩; have HD : Veil _ := ⟨HD.out.below hb8⟩; have HL : Veil _ := ⟨HL.out.below hb8⟩; have HX : Veil _ := ⟨HX.out.below hb8⟩; have HY : Veil _ := ⟨HY.out.below hb8⟩; obtain ⟨HA0, HA1⟩ := HA.out; have HAz := World.block_lt_of_cell? _ _ HA0; dsimp only at HAz; obtain ⟨HM0, HM1, HM2, HM3⟩ := HM.out; have HMz := World.block_lt_of_cell? _ _ HM0; dsimp only at HMz; obtain ⟨HC0, HC1⟩ := HC.out; have HCz := World.block_lt_of_cell? _ _ HC0; dsimp only at HCz; obtain ⟨HD0, HD1⟩ := HD.out; have HDz := World.block_lt_of_cell? _ _ HD0; dsimp only at HDz)
        | (go_at_call 19; (with_reducible refine (CY.out _ _ _ HY.out).mono ?_); rintro e w7x ⟨rfl, hb7⟩; have hT := bc_then (hT) hb7; have HA : Veil _ := ⟨HA.out.below hb7⟩; have HM : Veil _ := ⟨HM.out.below hb7⟩; have HC : Veil _ := ⟨HC.out.below hb7⟩; have HD : Veil _ := ⟨HD.out.below hb7⟩; have HL : Veil _ := ⟨HL.out.below hb7⟩; have HX : Veil _ := ⟨HX.out.below hb7⟩; have HY : Veil _ := ⟨HY.out.below hb7⟩; obtain ⟨HA0, HA1⟩ := HA.out; have HAz := World.block_lt_of_cell? _ _ HA0; dsimp only at HAz; obtain ⟨HM0, HM1, HM2, HM3⟩ := HM.out; have HMz := World.block_lt_of_cell? _ _ HM0; dsimp only at HMz; obtain ⟨HC0, HC1⟩ := HC.out; have HCz := World.block_lt_of_cell? _ _ HC0; dsimp only at HCz; obtain ⟨HD0, HD1⟩ := HD.out; have HDz := World.block_lt_of_cell? _ _ HD0; dsimp only at HDz)
        | (go_at_call 19; (with_reducible refine (CL.out _ _ _ HL.out).mono ?_); rintro e w6x ⟨rfl, hb6⟩; have hT := bc_then (hT) hb6; have HA : Veil _ := ⟨HA.out.below hb6⟩; have HM : Veil _ := ⟨HM.out.below hb6⟩; have HC : Veil _ := ⟨HC.out.below hb6⟩; have HD : Veil _ := ⟨HD.out.below hb6⟩; have HL : Veil _ := ⟨HL.out.below hb6⟩; have HX : Veil _ := ⟨HX.out.below hb6⟩; have HY : Veil _ := ⟨HY.out.below hb6⟩; obtain ⟨HA0, HA1⟩ := HA.out; have HAz := World.block_lt_of_cell? _ _ HA0; dsimp only at HAz; obtain ⟨HM0, HM1, HM2, HM3⟩ := HM.out; have HMz := World.block_lt_of_cell? _ _ HM0; dsimp only at HMz; obtain ⟨HC0, HC1⟩ := HC.out; have HCz := World.block_lt_of_cell? _ _ HC0; dsimp only at HCz; obtain ⟨HD0, HD1⟩ := HD.out; have HDz := World.block_lt_of_cell? _ _ HD0; dsimp only at HDz)
        | (go_at_call 19; (with_reducible refine (CX.out _ _ _ (HX.out.below (below_al (Below.refl _ _) _))).mono ?_); rintro e w5x ⟨rfl, hb5⟩; have hT := bc_then (below_al (hT) _) hb5; have HA : Veil _ := ⟨(HA.out.below (below_al (Below.refl _ _) _)).below hb5⟩; have HM : Veil _ := ⟨(HM.out.below (below_al (Below.refl _ _) _)).below hb5⟩; have HC : Veil _ := ⟨(HC.out.below (below_al (Below.refl _ _) _)).below hb5⟩; have HL : Veil _ := ⟨(HL.out.below (below_al (Below.refl _ _) _)).below hb5⟩; have HX : Veil _ := ⟨(HX.out.below (below_al (Below.refl _ _) _)).below hb5⟩; have HY : Veil _ := ⟨(HY.out.below (below_al (Below.refl _ _) _)).below hb5⟩; have HD : Veil _ := ⟨(AcBox.new _ _ _ _).below hb5⟩; obtain ⟨HA0, HA1⟩ := HA.out; have HAz := World.block_lt_of_cell? _ _ HA0; dsimp only at HAz; obtain ⟨HM0, HM1, HM2, HM3⟩ := HM.out; have HMz := World.block_lt_of_cell? _ _ HM0; dsimp only at HMz; obtain ⟨HC0, HC1⟩ := HC.out; have HCz := World.block_lt_of_cell? _ _ HC0; dsimp only at HCz; obtain ⟨HD0, HD1⟩ := HD.out; have HDz := World.block_lt_of_cell? _ _ HD0; dsimp only at HDz)
        | (go_at_call 17; (with_reducible refine (P6.out _ _ _ (below_al (hT) _) (HLI.out _ (HL.out.below (below_al (Below.refl _ _) _)))).mono ?_); rintro e w4x ⟨v4, rfl, hF4, hb4⟩; have hT := bc_then (below_al (hT) _) hb4; have HA : Veil _ := ⟨(HA.out.below (below_al (Below.refl _ _) _)).below hb4⟩; have HM : Veil _ := ⟨(HM.out.below (below_al (Below.refl _ _) _)).below hb4⟩; have HL : Veil _ := ⟨(HL.out.below (below_al (Below.refl _ _) _)).below hb4⟩; have HX : Veil _ := ⟨(HX.out.below (below_al (Below.refl _ _) _)).below hb4⟩; have HC : Veil _ := ⟨(AcBox.new _ _ _ _).below hb4⟩; obtain ⟨p4, c4, rfl, hE4, -⟩ := hF4.form; have HY : Veil _ := ⟨hE4⟩; clear hE4 hF4; dsimp only [Ac.v]; obtain ⟨HA0, HA1⟩ := HA.out; have HAz := World.block_lt_of_cell? _ _ HA0; dsimp only at HAz; obtain ⟨HM0, HM1, HM2, HM3⟩ := HM.out; have HMz := World.block_lt_of_cell? _ _ HM0; dsimp only at HMz; obtain ⟨HC0, HC1⟩ := HC.out; have HCz := World.block_lt_of_cell? _ _ HC0; dsimp only at HCz)
        | (go_at_call 16; (with_reducible refine (P5.out _ _ _ hT (HLI.out _ HL.out)).mono ?_); rintro e w3x ⟨v3, rfl, hF3, hb3⟩; have hT := bc_then (hT) hb3; have HA : Veil _ := ⟨HA.out.below hb3⟩; have HM : Veil _ := ⟨HM.out.below hb3⟩; have HL : Veil _ := ⟨HL.out.below hb3⟩; obtain ⟨p3, c3, rfl, hE3, -⟩ := hF3.form; have HX : Veil _ := ⟨hE3⟩; clear hE3 hF3; dsimp only [Ac.v]; obtain ⟨HA0, HA1⟩ := HA.out; have HAz := World.block_lt_of_cell? _ _ HA0; dsimp only at HAz; obtain ⟨HM0, HM1, HM2, HM3⟩ := HM.out; have HMz := World.block_lt_of_cell? _ _ HM0; dsimp only at HMz)
        | (go_at_call 15; (with_reducible refine (hcut.out _ (hT)).mono ?_); rintro e w2x ⟨v2, rfl, hF2, hb2⟩; have hT := bc_then (hT) hb2; have HA : Veil _ := ⟨HA.out.below hb2⟩; have HM : Veil _ := ⟨HM.out.below hb2⟩; obtain ⟨p2, c2, rfl, hI2, -⟩ := hF2.formI; have hE2 := hI2.els; have HLI : Veil _ := ⟨inl_of hI2⟩; clear hI2; have HL : Veil _ := ⟨hE2⟩; clear hE2 hF2; obtain ⟨HA0, HA1⟩ := HA.out; have HAz := World.block_lt_of_cell? _ _ HA0; dsimp only at HAz; obtain ⟨HM0, HM1, HM2, HM3⟩ := HM.out; have HMz := World.block_lt_of_cell? _ _ HM0; dsimp only at HMz)
        | (go_at_call 8; (with_reducible refine (shown14_any _ (HSm.out _ hT)).mono ?_); rintro e w1x ⟨rfl, hb1⟩; have hT := bc_then (hT) hb1; have HA : Veil _ := ⟨HA.out.below hb1⟩; have HM : Veil _ := ⟨HM.out.below hb1⟩; obtain ⟨HA0, HA1⟩ := HA.out; have HAz := World.block_lt_of_cell? _ _ HA0; dsimp only at HAz; obtain ⟨HM0, HM1, HM2, HM3⟩ := HM.out; have HMz := World.block_lt_of_cell? _ _ HM0; dsimp only at HMz))
      go_ret
      exact ⟨rfl, by first | exact hT | exact below_al hT _⟩
end Go.Proofs.YtfjjodkapofgjaaDoor
