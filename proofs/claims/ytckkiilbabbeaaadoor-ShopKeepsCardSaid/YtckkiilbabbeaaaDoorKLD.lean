/- The laws on the shop: ShopDoes. -/
import Derived.Test.YtckkiilbabbeaaaDoorKLA
import Derived.Test.YtckkiilbabbeaaaDoorKJ9
import Derived.Test.YtckkiilbabbeaaaDoorKI7
namespace Go.Proofs.YtckkiilbabbeaaaDoor
open Go Go.RowKit Sm
attribute [local go_sem] Oper.semAt_some

abbrev ListAtP (w0 : World) (f : FuncId) (l : List St) (m : Li) (T : List St) (c : Int) : Prop := ∀ (p : Option Addr) (lc : Nat) (W : World), Below w0.heap.size w0 W → InL elS W p l lc → Calls Tryd.prog f #[.slice p l.length lc, m.v] W (GoodsPost W T c)
abbrev ListAt (f : FuncId) (l : List St) (m : Li) (T : List St) (c : Int) : Prop := ∀ (p : Option Addr) (lc : Nat) (W : World), Els elS W p l → Calls Tryd.prog f #[.slice p l.length lc, m.v] W (GoodsPost W T c)
abbrev BuyAtP (w0 : World) (f : FuncId) (a b : Ac) (l : List St) (m : Li) (A B : Ac) (T : List St) (c : Int) : Prop := ∀ (p : Option Addr) (lc : Nat) (W : World), Below w0.heap.size w0 W → InL elS W p l lc → Calls Tryd.prog f #[a.v, b.v, .slice p l.length lc, m.v] W (BuyPost W A B T c)
abbrev BuyAt (f : FuncId) (a b : Ac) (l : List St) (m : Li) (A B : Ac) (T : List St) (c : Int) : Prop := ∀ (p : Option Addr) (lc : Nat) (W : World), Els elS W p l → Calls Tryd.prog f #[a.v, b.v, .slice p l.length lc, m.v] W (BuyPost W A B T c)
theorem cancelS_len (l : List St) (x : Li) : (cancelS l x).1.length ≤ 30 := by
  have hz := (sizes_ok l x.st).1
  unfold cancelS
  split
  · omega
  · exact Nat.zero_le _
theorem buyS_len (a b : Ac) (l : List St) (x : Li) : (buyS a b l x).2.2.1.length ≤ 30 := by
  have hz := (sizes_ok l x.st).1
  unfold buyS
  split
  · split
    · split
      · show (giveG l x.st).1.length ≤ 30; omega
      · exact Nat.zero_le _
    · exact Nat.zero_le _
  · exact Nat.zero_le _
set_option maxRecDepth 20000 in
set_option maxHeartbeats 8000000 in
theorem shopDoes_any {w : World} {p : Option Addr} (a b : Ac) (ha : a.Ok) (hb : b.Ok) (l : List St) (lc : Nat) (hin : InL elS w p l lc) (x : Li) (hx : x.Ok) (hgd : GdW l) (hS : MSent w) :
    Calls Tryd.prog 4 #[a.v, b.v, .slice p l.length lc, x.v] w fun e w' => e = .returned (.bool true) ∧ Below w.heap.size w w' := by
  have hcut : Veil (∀ W, Below w.heap.size w W → Calls Tryd.prog 16 #[.slice p l.length lc] W (FreshPost elS W (l.take 30))) := ⟨fun W hW => cutG15_any l lc ⟨hin.els.below hW, hin.spot, hin.nil0, hin.le, hin.cap⟩⟩
  have hl30 := take30 l
  have hgL := hgd.take 30
  generalize l.take 30 = L at hcut hl30 hgL
  have HSm : Veil (∀ W, Below w.heap.size w W → MSent W) := ⟨fun W hb => hS.below hb⟩
  have PS : Veil (ListAtP w 17 L x (listS L x).1 (listS L x).2) := ⟨fun p lc W hb h => shlist_any L lc x hx h (by omega) hgL (hS.below hb)⟩
  have RS : Veil (ListAt 18 L x (listS L x).1 (listS L x).2) := ⟨fun p lc W h => reflistS_any L lc x hx h (by omega)⟩
  have PC : Veil (ListAtP w 19 L x (cancelS L x).1 (cancelS L x).2) := ⟨fun p lc W hb h => shcancel_any L lc x hx h (by omega) hgL (hS.below hb)⟩
  have RC : Veil (ListAt 20 L x (cancelS L x).1 (cancelS L x).2) := ⟨fun p lc W h => refcancelS_any L lc x hx h (by omega)⟩
  have PB : Veil (BuyAtP w 21 a b L x (buyS a b L x).1 (buyS a b L x).2.1 (buyS a b L x).2.2.1 (buyS a b L x).2.2.2) := ⟨fun p lc W hb' h => shbuy_any a b ha hb L lc x hx h (by omega) hgL (hS.below hb')⟩
  have RB : Veil (BuyAt 22 a b L x (buyS a b L x).1 (buyS a b L x).2.1 (buyS a b L x).2.2.1 (buyS a b L x).2.2.2) := ⟨fun p lc W h => refbuyS_any a b ha hb L lc x hx h (by omega)⟩
  have HLN : Veil ((listS L x).1.length ≤ 30 ∧ (cancelS L x).1.length ≤ 30 ∧ (buyS a b L x).2.2.1.length ≤ 30) := ⟨listS_len L x hl30, cancelS_len L x, buyS_len a b L x⟩
  generalize listS L x = x1 at PS RS HLN
  generalize cancelS L x = x2 at PC RC HLN
  generalize buyS a b L x = x3 at PB RB HLN
  obtain ⟨X, e1⟩ := x1
  obtain ⟨Y, e2⟩ := x2
  obtain ⟨⟨pw, pb⟩, ⟨qw, qb⟩, Z, e3⟩ := x3
  clear hin ha hb hx hgd hgL hS
  obtain ⟨aw, ab⟩ := a
  obtain ⟨cw, cb⟩ := b
  obtain ⟨f, i, n, mo⟩ := x
  unfold ListAtP ListAt BuyAtP BuyAt at *
  unfold Li.v Ac.v at *
  dsimp only at *
  have HA : Veil (AcBox (((w.alloc (.cells #[.int .i64 aw, .int .i64 ab] 37)).alloc (.cells #[.int .i64 cw, .int .i64 cb] 37)).alloc (.cells #[.int .u32 f, .int .u16 i, .int .i64 n, .int .i64 mo] 27)) w.heap.size aw ab) := ⟨((AcBox.new _ _ _ _).below (below_al (Below.refl _ _) _)).below (below_al (Below.refl _ _) _)⟩
  have HB : Veil (AcBox (((w.alloc (.cells #[.int .i64 aw, .int .i64 ab] 37)).alloc (.cells #[.int .i64 cw, .int .i64 cb] 37)).alloc (.cells #[.int .u32 f, .int .u16 i, .int .i64 n, .int .i64 mo] 27)) (w.heap.size + 1) cw cb) := ⟨by
    have := (AcBox.new (w.alloc (.cells #[.int .i64 aw, .int .i64 ab] 37)) cw cb 37).below (below_al (Below.refl _ _) (.cells #[.int .u32 f, .int .u16 i, .int .i64 n, .int .i64 mo] 27))
    rwa [World.size_alloc] at this⟩
  have HM : Veil (LiBox (((w.alloc (.cells #[.int .i64 aw, .int .i64 ab] 37)).alloc (.cells #[.int .i64 cw, .int .i64 cb] 37)).alloc (.cells #[.int .u32 f, .int .u16 i, .int .i64 n, .int .i64 mo] 27)) (w.heap.size + 2) f i n mo) := ⟨by
    have := LiBox.new ((w.alloc (.cells #[.int .i64 aw, .int .i64 ab] 37)).alloc (.cells #[.int .i64 cw, .int .i64 cb] 37)) f i n mo 27
    rwa [World.size_alloc, World.size_alloc] at this⟩
  have hT : Below w.heap.size w (((w.alloc (.cells #[.int .i64 aw, .int .i64 ab] 37)).alloc (.cells #[.int .i64 cw, .int .i64 cb] 37)).alloc (.cells #[.int .u32 f, .int .u16 i, .int .i64 n, .int .i64 mo] 27)) := below_al (below_al (below_al (Below.refl _ _) _) _) _
  go_enter Tryd.func4, Tryd.ntmps4
  go_wp2_with (first
    | (go_at_call 23; (with_reducible refine (sameL_els Z Z rfl _ _ HTe.out HTf.out (by have := HLN.out; omega)).mono ?_); rintro e w11x ⟨rfl, hb11⟩; have hT := bc_then (hT) hb11; have HA : Veil _ := ⟨HA.out.below hb11⟩; have HB : Veil _ := ⟨HB.out.below hb11⟩; have HM : Veil _ := ⟨HM.out.below hb11⟩; have HP : Veil _ := ⟨HP.out.below hb11⟩; have HQ : Veil _ := ⟨HQ.out.below hb11⟩; have HR : Veil _ := ⟨HR.out.below hb11⟩; have HU : Veil _ := ⟨HU.out.below hb11⟩; have HL : Veil _ := ⟨HL.out.below hb11⟩; have HTa : Veil _ := ⟨HTa.out.below hb11⟩; have HTb : Veil _ := ⟨HTb.out.below hb11⟩; have HTc : Veil _ := ⟨HTc.out.below hb11⟩; have HTd : Veil _ := ⟨HTd.out.below hb11⟩; have HTe : Veil _ := ⟨HTe.out.below hb11⟩; have HTf : Veil _ := ⟨HTf.out.below hb11⟩; obtain ⟨HA0, HA1⟩ := HA.out; have HAz := World.block_lt_of_cell? _ _ HA0; dsimp only at HAz; obtain ⟨HB0, HB1⟩ := HB.out; have HBz := World.block_lt_of_cell? _ _ HB0; dsimp only at HBz; obtain ⟨HM0, HM1, HM2, HM3⟩ := HM.out; have HMz := World.block_lt_of_cell? _ _ HM0; dsimp only at HMz; obtain ⟨HP0, HP1⟩ := HP.out; have HPz := World.block_lt_of_cell? _ _ HP0; dsimp only at HPz; obtain ⟨HQ0, HQ1⟩ := HQ.out; have HQz := World.block_lt_of_cell? _ _ HQ0; dsimp only at HQz; obtain ⟨HR0, HR1⟩ := HR.out; have HRz := World.block_lt_of_cell? _ _ HR0; dsimp only at HRz; obtain ⟨HU0, HU1⟩ := HU.out; have HUz := World.block_lt_of_cell? _ _ HU0; dsimp only at HUz)
    | (go_at_call 23; (with_reducible refine (sameL_els Y Y rfl _ _ HTc.out HTd.out (by have := HLN.out; omega)).mono ?_); rintro e w10x ⟨rfl, hb10⟩; have hT := bc_then (hT) hb10; have HA : Veil _ := ⟨HA.out.below hb10⟩; have HB : Veil _ := ⟨HB.out.below hb10⟩; have HM : Veil _ := ⟨HM.out.below hb10⟩; have HP : Veil _ := ⟨HP.out.below hb10⟩; have HQ : Veil _ := ⟨HQ.out.below hb10⟩; have HR : Veil _ := ⟨HR.out.below hb10⟩; have HU : Veil _ := ⟨HU.out.below hb10⟩; have HL : Veil _ := ⟨HL.out.below hb10⟩; have HTa : Veil _ := ⟨HTa.out.below hb10⟩; have HTb : Veil _ := ⟨HTb.out.below hb10⟩; have HTc : Veil _ := ⟨HTc.out.below hb10⟩; have HTd : Veil _ := ⟨HTd.out.below hb10⟩; have HTe : Veil _ := ⟨HTe.out.below hb10⟩; have HTf : Veil _ := ⟨HTf.out.below hb10⟩; obtain ⟨HA0, HA1⟩ := HA.out; have HAz := World.block_lt_of_cell? _ _ HA0; dsimp only at HAz; obtain ⟨HB0, HB1⟩ := HB.out; have HBz := World.block_lt_of_cell? _ _ HB0; dsimp only at HBz; obtain ⟨HM0, HM1, HM2, HM3⟩ := HM.out; have HMz := World.block_lt_of_cell? _ _ HM0; dsimp only at HMz; obtain ⟨HP0, HP1⟩ := HP.out; have HPz := World.block_lt_of_cell? _ _ HP0; dsimp only at HPz; obtain ⟨HQ0, HQ1⟩ := HQ.out; have HQz := World.block_lt_of_cell? _ _ HQ0; dsimp only at HQz; obtain ⟨HR0, HR1⟩ := HR.out; have HRz := World.block_lt_of_cell? _ _ HR0; dsimp only at HRz; obtain ⟨HU0, HU1⟩ := HU.out; have HUz := World.block_lt_of_cell? _ _ HU0; dsimp only at HUz)
    | (go_at_call 23; (with_reducible refine (sameL_els X X rfl _ _ (HTa.out.below (below_al (below_al (Below.refl _ _) _) _)) (HTb.out.below (below_al (below_al (Below.refl _ _) _) _)) (by have := HLN.out; omega)).mono ?_); rintro e w9x ⟨rfl, hb9⟩; have hT := bc_then (below_al (below_al (hT) _) _) hb9; have HA : Veil _ := ⟨(HA.out.below (below_al (below_al (Below.refl _ _) _) _)).below hb9⟩; have HB : Veil _ := ⟨(HB.out.below (below_al (below_al (Below.refl _ _) _) _)).below hb9⟩; have HM : Veil _ := ⟨(HM.out.below (below_al (below_al (Below.refl _ _) _) _)).below hb9⟩; have HP : Veil _ := ⟨(HP.out.below (below_al (below_al (Below.refl _ _) _) _)).below hb9⟩; have HQ : Veil _ := ⟨(HQ.out.below (below_al (below_al (Below.refl _ _) _) _)).below hb9⟩; have HL : Veil _ := ⟨(HL.out.below (below_al (below_al (Below.refl _ _) _) _)).below hb9⟩; have HTa : Veil _ := ⟨(HTa.out.below (below_al (below_al (Below.refl _ _) _) _)).below hb9⟩; have HTb : Veil _ := ⟨(HTb.out.below (below_al (below_al (Below.refl _ _) _) _)).below hb9⟩; have HTc : Veil _ := ⟨(HTc.out.below (below_al (below_al (Below.refl _ _) _) _)).below hb9⟩; have HTd : Veil _ := ⟨(HTd.out.below (below_al (below_al (Below.refl _ _) _) _)).below hb9⟩; have HTe : Veil _ := ⟨(HTe.out.below (below_al (below_al (Below.refl _ _) _) _)).below hb9⟩; have HTf : Veil _ := ⟨(HTf.out.below (below_al (below_al (Below.refl _ _) _) _)).below hb9⟩; have HR : Veil _ := ⟨((AcBox.new _ _ _ _).below (below_al (Below.refl _ _) _)).below hb9⟩; have HU : Veil _ := ⟨(AcBox.new _ _ _ _).below hb9⟩; simp only [World.size_alloc] at HU; obtain ⟨HA0, HA1⟩ := HA.out; have HAz := World.block_lt_of_cell? _ _ HA0; dsimp only at HAz; obtain ⟨HB0, HB1⟩ := HB.out; have HBz := World.block_lt_of_cell? _ _ HB0; dsimp only at HBz; obtain ⟨HM0, HM1, HM2, HM3⟩ := HM.out; have HMz := World.block_lt_of_cell? _ _ HM0; dsimp only at HMz; obtain ⟨HP0, HP1⟩ := HP.out; have HPz := World.block_lt_of_cell? _ _ HP0; dsimp only at HPz; obtain ⟨HQ0, HQ1⟩ := HQ.out; have HQz := World.block_lt_of_cell? _ _ HQ0; dsimp only at HQz; obtain ⟨HR0, HR1⟩ := HR.out; have HRz := World.block_lt_of_cell? _ _ HR0; dsimp only at HRz; obtain ⟨HU0, HU1⟩ := HU.out; have HUz := World.block_lt_of_cell? _ _ HU0; dsimp only at HUz)
    | (go_at_call 22; (with_reducible refine (RB.out _ _ _ (HL.out.below (below_al (below_al (Below.refl _ _) _) _))).mono ?_); rintro e w8x ⟨v8, rfl, hF8, hb8⟩; have hT := bc_then (below_al (below_al (hT) _) _) hb8; have HA : Veil _ := ⟨(HA.out.below (below_al (below_al (Below.refl _ _) _) _)).below hb8⟩; have HB : Veil _ := ⟨(HB.out.below (below_al (below_al (Below.refl _ _) _) _)).below hb8⟩; have HM : Veil _ := ⟨(HM.out.below (below_al (below_al (Below.refl _ _) _) _)).below hb8⟩; have HL : Veil _ := ⟨(HL.out.below (below_al (below_al (Below.refl _ _) _) _)).below hb8⟩; have HTa : Veil _ := ⟨(HTa.out.below (below_al (below_al (Below.refl _ _) _) _)).below hb8⟩; have HTb : Veil _ := ⟨(HTb.out.below (below_al (below_al (Below.refl _ _) _) _)).below hb8⟩; have HTc : Veil _ := ⟨(HTc.out.below (below_al (below_al (Below.refl _ _) _) _)).below hb8⟩; have HTd : Veil _ := ⟨(HTd.out.below (below_al (below_al (Below.refl _ _) _) _)).below hb8⟩; have HTe : Veil _ := ⟨(HTe.out.below (below_al (below_al (Below.refl _ _) _) _)).below hb8⟩; have HP : Veil _ := ⟨((AcBox.new _ _ _ _).below (below_al (Below.refl _ _) _)).below hb8⟩; have HQ : Veil _ := ⟨(AcBox.new _ _ _ _).below hb8⟩; simp only [World.size_alloc] at HQ; obtain ⟨p8, c8, rfl, hI8, -⟩ := hF8.formI; have hE8 := hI8.els; have HTfI : Veil _ := ⟨inl_of hI8⟩; clear hI8; have HTf : Veil _ := ⟨hE8⟩; clear hE8 hF8; dsimp only [Ac.v]; obtain ⟨HA0, HA1⟩ := HA.out; have HAz := World.block_lt_of_cell? _ _ HA0; dsimp only at HAz; obtain ⟨HB0, HB1⟩ := HB.out; have HBz := World.block_lt_of_cell? _ _ HB0; dsimp only at HBz; obtain ⟨HM0, HM1, HM2, HM3⟩ := HM.out; have HMz := World.block_lt_of_cell? _ _ HM0; dsimp only at HMz; obtain ⟨HP0, HP1⟩ := HP.out; have HPz := World.block_lt_of_cell? _ _ HP0; dsimp only at HPz; obtain ⟨HQ0, HQ1⟩ := HQ.out; have HQz := World.block_lt_of_cell? _ _ HQ0; dsimp only at HQz)
    | (go_at_call 21; (with_reducible refine (PB.out _ _ _ (hT) (HLI.out _ HL.out)).mono ?_); rintro e w7x ⟨v7, rfl, hF7, hb7⟩; have hT := bc_then (hT) hb7; have HA : Veil _ := ⟨HA.out.below hb7⟩; have HB : Veil _ := ⟨HB.out.below hb7⟩; have HM : Veil _ := ⟨HM.out.below hb7⟩; have HL : Veil _ := ⟨HL.out.below hb7⟩; have HTa : Veil _ := ⟨HTa.out.below hb7⟩; have HTb : Veil _ := ⟨HTb.out.below hb7⟩; have HTc : Veil _ := ⟨HTc.out.below hb7⟩; have HTd : Veil _ := ⟨HTd.out.below hb7⟩; obtain ⟨p7, c7, rfl, hI7, -⟩ := hF7.formI; have hE7 := hI7.els; have HTeI : Veil _ := ⟨inl_of hI7⟩; clear hI7; have HTe : Veil _ := ⟨hE7⟩; clear hE7 hF7; dsimp only [Ac.v]; obtain ⟨HA0, HA1⟩ := HA.out; have HAz := World.block_lt_of_cell? _ _ HA0; dsimp only at HAz; obtain ⟨HB0, HB1⟩ := HB.out; have HBz := World.block_lt_of_cell? _ _ HB0; dsimp only at HBz; obtain ⟨HM0, HM1, HM2, HM3⟩ := HM.out; have HMz := World.block_lt_of_cell? _ _ HM0; dsimp only at HMz)
    | (go_at_call 20; (with_reducible refine (RC.out _ _ _ HL.out).mono ?_); rintro e w6x ⟨v6, rfl, hF6, hb6⟩; have hT := bc_then (hT) hb6; have HA : Veil _ := ⟨HA.out.below hb6⟩; have HB : Veil _ := ⟨HB.out.below hb6⟩; have HM : Veil _ := ⟨HM.out.below hb6⟩; have HL : Veil _ := ⟨HL.out.below hb6⟩; have HTa : Veil _ := ⟨HTa.out.below hb6⟩; have HTb : Veil _ := ⟨HTb.out.below hb6⟩; have HTc : Veil _ := ⟨HTc.out.below hb6⟩; obtain ⟨p6, c6, rfl, hI6, -⟩ := hF6.formI; have hE6 := hI6.els; have HTdI : Veil _ := ⟨inl_of hI6⟩; clear hI6; have HTd : Veil _ := ⟨hE6⟩; clear hE6 hF6; obtain ⟨HA0, HA1⟩ := HA.out; have HAz := World.block_lt_of_cell? _ _ HA0; dsimp only at HAz; obtain ⟨HB0, HB1⟩ := HB.out; have HBz := World.block_lt_of_cell? _ _ HB0; dsimp only at HBz; obtain ⟨HM0, HM1, HM2, HM3⟩ := HM.out; have HMz := World.block_lt_of_cell? _ _ HM0; dsimp only at HMz)
    | (go_at_call 19; (with_reducible refine (PC.out _ _ _ (hT) (HLI.out _ HL.out)).mono ?_); rintro e w5x ⟨v5, rfl, hF5, hb5⟩; have hT := bc_then (hT) hb5; have HA : Veil _ := ⟨HA.out.below hb5⟩; have HB : Veil _ := ⟨HB.out.below hb5⟩; have HM : Veil _ := ⟨HM.out.below hb5⟩; have HL : Veil _ := ⟨HL.out.below hb5⟩; have HTa : Veil _ := ⟨HTa.out.below hb5⟩; have HTb : Veil _ := ⟨HTb.out.below hb5⟩; obtain ⟨p5, c5, rfl, hI5, -⟩ := hF5.formI; have hE5 := hI5.els; have HTcI : Veil _ := ⟨inl_of hI5⟩; clear hI5; have HTc : Veil _ := ⟨hE5⟩; clear hE5 hF5; obtain ⟨HA0, HA1⟩ := HA.out; have HAz := World.block_lt_of_cell? _ _ HA0; dsimp only at HAz; obtain ⟨HB0, HB1⟩ := HB.out; have HBz := World.block_lt_of_cell? _ _ HB0; dsimp only at HBz; obtain ⟨HM0, HM1, HM2, HM3⟩ := HM.out; have HMz := World.block_lt_of_cell? _ _ HM0; dsimp only at HMz)
    | (go_at_call 18; (with_reducible refine (RS.out _ _ _ HL.out).mono ?_); rintro e w4x ⟨v4, rfl, hF4, hb4⟩; have hT := bc_then (hT) hb4; have HA : Veil _ := ⟨HA.out.below hb4⟩; have HB : Veil _ := ⟨HB.out.below hb4⟩; have HM : Veil _ := ⟨HM.out.below hb4⟩; have HL : Veil _ := ⟨HL.out.below hb4⟩; have HTa : Veil _ := ⟨HTa.out.below hb4⟩; obtain ⟨p4, c4, rfl, hI4, -⟩ := hF4.formI; have hE4 := hI4.els; have HTbI : Veil _ := ⟨inl_of hI4⟩; clear hI4; have HTb : Veil _ := ⟨hE4⟩; clear hE4 hF4; obtain ⟨HA0, HA1⟩ := HA.out; have HAz := World.block_lt_of_cell? _ _ HA0; dsimp only at HAz; obtain ⟨HB0, HB1⟩ := HB.out; have HBz := World.block_lt_of_cell? _ _ HB0; dsimp only at HBz; obtain ⟨HM0, HM1, HM2, HM3⟩ := HM.out; have HMz := World.block_lt_of_cell? _ _ HM0; dsimp only at HMz)
    | (go_at_call 17; (with_reducible refine (PS.out _ _ _ (hT) (HLI.out _ HL.out)).mono ?_); rintro e w3x ⟨v3, rfl, hF3, hb3⟩; have hT := bc_then (hT) hb3; have HA : Veil _ := ⟨HA.out.below hb3⟩; have HB : Veil _ := ⟨HB.out.below hb3⟩; have HM : Veil _ := ⟨HM.out.below hb3⟩; have HL : Veil _ := ⟨HL.out.below hb3⟩; obtain ⟨p3, c3, rfl, hI3, -⟩ := hF3.formI; have hE3 := hI3.els; have HTaI : Veil _ := ⟨inl_of hI3⟩; clear hI3; have HTa : Veil _ := ⟨hE3⟩; clear hE3 hF3; obtain ⟨HA0, HA1⟩ := HA.out; have HAz := World.block_lt_of_cell? _ _ HA0; dsimp only at HAz; obtain ⟨HB0, HB1⟩ := HB.out; have HBz := World.block_lt_of_cell? _ _ HB0; dsimp only at HBz; obtain ⟨HM0, HM1, HM2, HM3⟩ := HM.out; have HMz := World.block_lt_of_cell? _ _ HM0; dsimp only at HMz)
    | (go_at_call 16; (with_reducible refine (hcut.out _ (hT)).mono ?_); rintro e w2x ⟨v2, rfl, hF2, hb2⟩; have hT := bc_then (hT) hb2; have HA : Veil _ := ⟨HA.out.below hb2⟩; have HB : Veil _ := ⟨HB.out.below hb2⟩; have HM : Veil _ := ⟨HM.out.below hb2⟩; obtain ⟨p2, c2, rfl, hI2, -⟩ := hF2.formI; have hE2 := hI2.els; have HLI : Veil _ := ⟨inl_of hI2⟩; clear hI2; have HL : Veil _ := ⟨hE2⟩; clear hE2 hF2; obtain ⟨HA0, HA1⟩ := HA.out; have HAz := World.block_lt_of_cell? _ _ HA0; dsimp only at HAz; obtain ⟨HB0, HB1⟩ := HB.out; have HBz := World.block_lt_of_cell? _ _ HB0; dsimp only at HBz; obtain ⟨HM0, HM1, HM2, HM3⟩ := HM.out; have HMz := World.block_lt_of_cell? _ _ HM0; dsimp only at HMz)
    | (go_at_call 9; (with_reducible refine (shown15_any _ (HSm.out _ (hT))).mono ?_); rintro e w1x ⟨rfl, hb1⟩; have hT := bc_then (hT) hb1; have HA : Veil _ := ⟨HA.out.below hb1⟩; have HB : Veil _ := ⟨HB.out.below hb1⟩; have HM : Veil _ := ⟨HM.out.below hb1⟩; obtain ⟨HA0, HA1⟩ := HA.out; have HAz := World.block_lt_of_cell? _ _ HA0; dsimp only at HAz; obtain ⟨HB0, HB1⟩ := HB.out; have HBz := World.block_lt_of_cell? _ _ HB0; dsimp only at HBz; obtain ⟨HM0, HM1, HM2, HM3⟩ := HM.out; have HMz := World.block_lt_of_cell? _ _ HM0; dsimp only at HMz))
  go_ret
  exact ⟨rfl, hT⟩
end Go.Proofs.YtckkiilbabbeaaaDoor

/- The laws on the shop: ShopBack. -/
namespace Go.Proofs.YtckkiilbabbeaaaDoor
open Go Go.RowKit Sm
attribute [local go_sem] Oper.semAt_some

theorem list_w (l : List St) (x : Li) (hi : x.item < 65536) (h : GdW l) : GdW (listS l x).1 := by
  unfold listS
  split
  · exact takeG_w h hi
  · exact GdW.nil
set_option maxRecDepth 20000 in
set_option maxHeartbeats 8000000 in
theorem shopBack_any {w : World} {p : Option Addr} (l : List St) (lc : Nat) (hin : InL elS w p l lc) (x : Li) (hx : x.Ok) (s : List UInt8) (hs : s.length ≤ 9223372036854775807) (hgd : GdW l) (hS : MSent w) :
    Calls Tryd.prog 5 #[.slice p l.length lc, x.v, .string ⟨s.toArray⟩] w fun e w' => e = .returned (.bool true) ∧ Below w.heap.size w w' := by
  have hcut : Veil (∀ W, Below w.heap.size w W → Calls Tryd.prog 16 #[.slice p l.length lc] W (FreshPost elS W (l.take 30))) := ⟨fun W hW => cutG15_any l lc ⟨hin.els.below hW, hin.spot, hin.nil0, hin.le, hin.cap⟩⟩
  have hl30 := take30 l
  have hgL := hgd.take 30
  generalize l.take 30 = L at hcut hl30 hgL
  have HSm : Veil (∀ W, Below w.heap.size w W → MSent W) := ⟨fun W hb => hS.below hb⟩
  have hmin : ∀ W, (Builtin.min_ #[3, 3] 3 #[.int .i64 (s.length : Int), .int .i64 40]).run Tryd.prog W = .ok (.int .i64 ((min s.length 40 : Nat) : Int)) W := min_two s.length 40
  have hX := take_extM s 40
  have hk2 : min s.length 40 ≤ s.length := Nat.min_le_left _ _
  have ht : (s.take 40).length ≤ 40 := by rw [List.length_take]; omega
  generalize s.take 40 = t at hX ht
  generalize min s.length 40 = k at hmin hX hk2
  have P1 : Veil (∀ W, Below w.heap.size w W → _) := ⟨fun W hb => shbytes_any x hx W (hS.below hb)⟩
  have P2 : Veil _ := ⟨fun w => shparse_any (bytesLi x).1 (by have := bytesLi_len x; omega) w⟩
  have P3 : Veil _ := ⟨fun w => shparse_any t (by omega) w⟩
  have P4 : Veil (∀ W, Below w.heap.size w W → _) := ⟨fun W hb => shbytes_any (parseLi t).1 (parseLi_ok t) W (hS.below hb)⟩
  have P5 : Veil (ListAtP w 17 L x (listS L x).1 (listS L x).2) := ⟨fun p lc W hb h => shlist_any L lc x hx h (by omega) hgL (hS.below hb)⟩
  have hXl := listS_len L x hl30
  have P6 : Veil (ListAtP w 19 (listS L x).1 x (cancelS (listS L x).1 x).1 (cancelS (listS L x).1 x).2) := ⟨fun p lc W hb h => shcancel_any _ lc x hx h (by omega) (list_w L x hx.item hgL) (hS.below hb)⟩
  have F1 : (bytesLi x).2 ≠ 0 ∨ (bytesLi x).2 = 0 ∧ parseLi (bytesLi x).1 = (x, 0) := by
    by_cases h : (bytesLi x).2 = 0
    · exact .inr ⟨h, bytesLi_back x hx h⟩
    · exact .inl h
  have F2 : (parseLi t).2 ≠ 0 ∨ (parseLi t).2 = 0 ∧ bytesLi (parseLi t).1 = (t, 0) := by
    by_cases h : (parseLi t).2 = 0
    · exact .inr ⟨h, parseLi_back t h⟩
    · exact .inl h
  have F3 : (listS L x).2 ≠ 0 ∨ (listS L x).2 = 0 ∧ cancelS (listS L x).1 x = (L, 0) := by
    by_cases h : (listS L x).2 = 0
    · exact .inr ⟨h, list_cancel L x h⟩
    · exact .inl h
  have HLN : Veil (L.length ≤ 30) := ⟨hl30⟩
  generalize bytesLi x = x1 at P1 P2 F1
  obtain ⟨S, e1⟩ := x1
  dsimp only at P1 P2 F1
  generalize parseLi S = x2 at P2 F1
  generalize parseLi t = x3 at P3 P4 F2
  obtain ⟨K, e3⟩ := x3
  dsimp only at P3 P4 F2
  generalize bytesLi K = x4 at P4 F2
  generalize listS L x = x5 at P5 P6 F3 hXl
  obtain ⟨X, e5⟩ := x5
  dsimp only at P5 P6 F3 hXl
  generalize cancelS X x = x6 at P6 F3
  clear hin hx hl30 hXl hgd hgL hS
  have HM : Veil _ := ⟨LiBox.new w x.src x.item x.n x.price 27⟩
  have hT : Below w.heap.size w (w.alloc (.cells #[.int .u32 x.src, .int .u16 x.item, .int .i64 x.n, .int .i64 x.price] 27)) := below_al (Below.refl _ _) _
  rcases F1 with F1 | ⟨rfl, rfl⟩ <;> rcases F2 with F2 | ⟨rfl, rfl⟩ <;> rcases F3 with F3 | ⟨rfl, rfl⟩
  all_goals
    try (have F1' : ¬ e1 = 0 := F1)
    try (have F2' : ¬ e3 = 0 := F2)
    try (have F3' : ¬ e5 = 0 := F3)
    try clear F1
    try clear F2
    try clear F3
    try obtain ⟨⟨qf, qi, qn, qm⟩, e2⟩ := x2
    try obtain ⟨T', e4⟩ := x4
    try obtain ⟨Y, e6⟩ := x6
    obtain ⟨kf, ki, kn, km⟩ := K
    obtain ⟨f, i, n, mo⟩ := x
    unfold ListAtP at *
    unfold Li.v at *
    dsimp only at *
    go_enter Tryd.func5, Tryd.ntmps5
    go_wp2_with (first
      | (go_at_call 23; (with_reducible refine (sameL_els L L rfl _ _ HY.out HL.out (by have := HLN.out; omega)).mono ?_); rintro e w9x ⟨rfl, hb9⟩; have hT := bc_then (hT) hb9; have HM : Veil _ := ⟨HM.out.below hb9⟩; have HQ : Veil _ := ⟨HQ.out.below hb9⟩; have HK : Veil _ := ⟨HK.out.below hb9⟩; have HL : Veil _ := ⟨HL.out.below hb9⟩; have HX : Veil _ := ⟨HX.out.below hb9⟩; have HY : Veil _ := ⟨HY.out.below hb9⟩; obtain ⟨HM0, HM1, HM2, HM3⟩ := HM.out; have HMz := World.block_lt_of_cell? _ _ HM0; dsimp only at HMz; obtain ⟨HQ0, HQ1, HQ2, HQ3⟩ := HQ.out; have HQz := World.block_lt_of_cell? _ _ HQ0; dsimp only at HQz; obtain ⟨HK0, HK1, HK2, HK3⟩ := HK.out; have HKz := World.block_lt_of_cell? _ _ HK0; dsimp only at HKz)
      | (go_at_call 19; (with_reducible refine (P6.out _ _ _ (hT) (HXI.out _ HX.out)).mono ?_); rintro e w8x ⟨v8, rfl, hF8, hb8⟩; have hT := bc_then (hT) hb8; have HM : Veil _ := ⟨HM.out.below hb8⟩; have HQ : Veil _ := ⟨HQ.out.below hb8⟩; have HK : Veil _ := ⟨HK.out.below hb8⟩; have HL : Veil _ := ⟨HL.out.below hb8⟩; have HX : Veil _ := ⟨HX.out.below hb8⟩; obtain ⟨p8, c8, rfl, hI8, -⟩ := hF8.formI; have hE8 := hI8.els; have HYI : Veil _ := ⟨inl_of hI8⟩; clear hI8; have HY : Veil _ := ⟨hE8⟩; clear hE8 hF8; obtain ⟨HM0, HM1, HM2, HM3⟩ := HM.out; have HMz := World.block_lt_of_cell? _ _ HM0; dsimp only at HMz; obtain ⟨HQ0, HQ1, HQ2, HQ3⟩ := HQ.out; have HQz := World.block_lt_of_cell? _ _ HQ0; dsimp only at HQz; obtain ⟨HK0, HK1, HK2, HK3⟩ := HK.out; have HKz := World.block_lt_of_cell? _ _ HK0; dsimp only at HKz)
      | (go_at_call 17; (with_reducible refine (P5.out _ _ _ (hT) (HLI.out _ HL.out)).mono ?_); rintro e w7x ⟨v7, rfl, hF7, hb7⟩; have hT := bc_then (hT) hb7; have HM : Veil _ := ⟨HM.out.below hb7⟩; have HQ : Veil _ := ⟨HQ.out.below hb7⟩; have HK : Veil _ := ⟨HK.out.below hb7⟩; have HL : Veil _ := ⟨HL.out.below hb7⟩; obtain ⟨p7, c7, rfl, hI7, -⟩ := hF7.formI; have hE7 := hI7.els; have HXI : Veil _ := ⟨inl_of hI7⟩; clear hI7; have HX : Veil _ := ⟨hE7⟩; clear hE7 hF7; obtain ⟨HM0, HM1, HM2, HM3⟩ := HM.out; have HMz := World.block_lt_of_cell? _ _ HM0; dsimp only at HMz; obtain ⟨HQ0, HQ1, HQ2, HQ3⟩ := HQ.out; have HQz := World.block_lt_of_cell? _ _ HQ0; dsimp only at HQz; obtain ⟨HK0, HK1, HK2, HK3⟩ := HK.out; have HKz := World.block_lt_of_cell? _ _ HK0; dsimp only at HKz)
      | (go_at_call 10; (with_reducible refine (P4.out _ (below_al (hT) _)).mono ?_); rintro e w6x ⟨rfl, hb6⟩; have hT := bc_then (below_al (hT) _) hb6; have HM : Veil _ := ⟨(HM.out.below (below_al (Below.refl _ _) _)).below hb6⟩; have HQ : Veil _ := ⟨(HQ.out.below (below_al (Below.refl _ _) _)).below hb6⟩; have HL : Veil _ := ⟨(HL.out.below (below_al (Below.refl _ _) _)).below hb6⟩; have HK : Veil _ := ⟨(LiBox.new _ _ _ _ _ _).below hb6⟩; obtain ⟨HM0, HM1, HM2, HM3⟩ := HM.out; have HMz := World.block_lt_of_cell? _ _ HM0; dsimp only at HMz; obtain ⟨HQ0, HQ1, HQ2, HQ3⟩ := HQ.out; have HQz := World.block_lt_of_cell? _ _ HQ0; dsimp only at HQz; obtain ⟨HK0, HK1, HK2, HK3⟩ := HK.out; have HKz := World.block_lt_of_cell? _ _ HK0; dsimp only at HKz)
      | (go_at_call 12; (with_reducible refine (P3.out _).mono ?_); rintro e w5x ⟨rfl, hb5⟩; have hT := bc_then (below_al (hT) _) hb5; have HM : Veil _ := ⟨(HM.out.below (below_al (Below.refl _ _) _)).below hb5⟩; have HL : Veil _ := ⟨(HL.out.below (below_al (Below.refl _ _) _)).below hb5⟩; have HQ : Veil _ := ⟨(LiBox.new _ _ _ _ _ _).below hb5⟩; obtain ⟨HM0, HM1, HM2, HM3⟩ := HM.out; have HMz := World.block_lt_of_cell? _ _ HM0; dsimp only at HMz; obtain ⟨HQ0, HQ1, HQ2, HQ3⟩ := HQ.out; have HQz := World.block_lt_of_cell? _ _ HQ0; dsimp only at HQz)
      | (go_at_call 12; (with_reducible refine (P2.out _).mono ?_); rintro e w4x ⟨rfl, hb4⟩; have hT := bc_then (hT) hb4; have HM : Veil _ := ⟨HM.out.below hb4⟩; have HL : Veil _ := ⟨HL.out.below hb4⟩; obtain ⟨HM0, HM1, HM2, HM3⟩ := HM.out; have HMz := World.block_lt_of_cell? _ _ HM0; dsimp only at HMz)
      | (go_at_call 10; (with_reducible refine (P1.out _ (hT)).mono ?_); rintro e w3x ⟨rfl, hb3⟩; have hT := bc_then (hT) hb3; have HM : Veil _ := ⟨HM.out.below hb3⟩; have HL : Veil _ := ⟨HL.out.below hb3⟩; obtain ⟨HM0, HM1, HM2, HM3⟩ := HM.out; have HMz := World.block_lt_of_cell? _ _ HM0; dsimp only at HMz)
      | (go_at_call 16; (with_reducible refine (hcut.out _ (hT)).mono ?_); rintro e w2x ⟨v2, rfl, hF2, hb2⟩; have hT := bc_then (hT) hb2; have HM : Veil _ := ⟨HM.out.below hb2⟩; obtain ⟨p2, c2, rfl, hI2, -⟩ := hF2.formI; have hE2 := hI2.els; have HLI : Veil _ := ⟨inl_of hI2⟩; clear hI2; have HL : Veil _ := ⟨hE2⟩; clear hE2 hF2; obtain ⟨HM0, HM1, HM2, HM3⟩ := HM.out; have HMz := World.block_lt_of_cell? _ _ HM0; dsimp only at HMz)
      | (go_at_call 9; (with_reducible refine (shown15_any _ (HSm.out _ (hT))).mono ?_); rintro e w1x ⟨rfl, hb1⟩; have hT := bc_then (hT) hb1; have HM : Veil _ := ⟨HM.out.below hb1⟩; obtain ⟨HM0, HM1, HM2, HM3⟩ := HM.out; have HMz := World.block_lt_of_cell? _ _ HM0; dsimp only at HMz))
    go_ret
    exact ⟨rfl, by first | exact hT | exact below_al hT _⟩
end Go.Proofs.YtckkiilbabbeaaaDoor
