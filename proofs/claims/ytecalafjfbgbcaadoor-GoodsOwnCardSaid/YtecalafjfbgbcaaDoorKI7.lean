/- The laws on goods: shown, GoodsBack, GoodsTwice, GoodsKeep. -/
import Derived.Test.YtecalafjfbgbcaaDoorKI9
import Derived.Test.YtecalafjfbgbcaaDoorKI0
import Derived.Test.YtecalafjfbgbcaaDoorKI4
namespace Go.Proofs.YtecalafjfbgbcaaDoor
open Go Go.RowKit Sm
attribute [local go_sem] Oper.semAt_some

def exG : List St := [⟨1, 3⟩, ⟨5, 2⟩]
def exG3 : List St := [⟨1, 3⟩, ⟨2, 4⟩, ⟨5, 2⟩]
theorem same_self (l : List St) : sameG l l = true := (sameG_iff l l).2 rfl
/-- The document's Same of these two, in whatever world they stand. -/
theorem sameG_here {w : World} {p q : Option Addr} (a : List St) (na ca nb cb : Nat) (ha : Els elS w p a) (hb : Els elS w q a) (hna : na = a.length) (hnb : nb = a.length) (hl : a.length ≤ 1000) :
    Calls Tryd.prog 21 #[.slice p na ca, .slice q nb cb] w fun e w' => e = .returned (.bool true) ∧ Below w.heap.size w w' := by
  subst hna hnb
  have := refsameG_any a a ca cb ha hb (by omega) (by omega)
  rwa [same_self] at this

set_option maxRecDepth 20000 in
set_option maxHeartbeats 1000000 in
theorem shown12_any (w : World) (hS : MSent w) : Calls Tryd.prog 9 #[] w fun e w' => e = .returned (.bool true) ∧ Below w.heap.size w w' := by
  have HE : Veil (∀ W, Below (w.alloc (.cells #[.int .u16 1, .int .i64 3, .int .u16 5, .int .i64 2] 25)).heap.size (w.alloc (.cells #[.int .u16 1, .int .i64 3, .int .u16 5, .int .i64 2] 25)) W → InL elS W (some ⟨w.heap.size, 0, none⟩) exG 2) := ⟨fun W hW => ⟨(els_of_block (heap_alloc_new _ _) rfl).below hW, fun a h => (by cases h; rfl), fun h => (by cases h), by decide, by decide⟩⟩
  have hW0 : Below w.heap.size w (w.alloc (.cells #[.int .u16 1, .int .i64 3, .int .u16 5, .int .i64 2] 25)) := below_al (Below.refl _ _) _
  have H1 : Veil (∀ W, Below (w.alloc (.cells #[.int .u16 1, .int .i64 3, .int .u16 5, .int .i64 2] 25)).heap.size (w.alloc (.cells #[.int .u16 1, .int .i64 3, .int .u16 5, .int .i64 2] 25)) W → Calls Tryd.prog 11 #[.slice (some ⟨w.heap.size, 0, none⟩) 2 2, .agg #[.int .u16 2, .int .i64 4]] W (GoodsPost W exG3 0)) := ⟨fun W hW => gdgive_any exG 2 ⟨2, 4⟩ (HE.out W hW) (by decide) (by decide) (by unfold I64; decide) (by unfold GdW; decide) (hS.below (bc_then hW0 hW))⟩
  have H2 : Veil (∀ W, Below (w.alloc (.cells #[.int .u16 1, .int .i64 3, .int .u16 5, .int .i64 2] 25)).heap.size (w.alloc (.cells #[.int .u16 1, .int .i64 3, .int .u16 5, .int .i64 2] 25)) W → Calls Tryd.prog 13 #[.slice (some ⟨w.heap.size, 0, none⟩) 2 2, .agg #[.int .u16 5, .int .i64 2]] W (GoodsPost W [⟨1, 3⟩] 0)) := ⟨fun W hW => gdtake_any exG 2 ⟨5, 2⟩ (HE.out W hW) (by decide) (by decide) (by unfold I64; decide) (by unfold GdW; decide) (hS.below (bc_then hW0 hW))⟩
  have H3 : Veil (∀ W, Below (w.alloc (.cells #[.int .u16 1, .int .i64 3, .int .u16 5, .int .i64 2] 25)).heap.size (w.alloc (.cells #[.int .u16 1, .int .i64 3, .int .u16 5, .int .i64 2] 25)) W → Calls Tryd.prog 13 #[.slice (some ⟨w.heap.size, 0, none⟩) 2 2, .agg #[.int .u16 1, .int .i64 4]] W (GoodsPost W [] 122)) := ⟨fun W hW => gdtake_any exG 2 ⟨1, 4⟩ (HE.out W hW) (by decide) (by decide) (by unfold I64; decide) (by unfold GdW; decide) (hS.below (bc_then hW0 hW))⟩
  have h0 : Below (w.alloc (.cells #[.int .u16 1, .int .i64 3, .int .u16 5, .int .i64 2] 25)).heap.size (w.alloc (.cells #[.int .u16 1, .int .i64 3, .int .u16 5, .int .i64 2] 25)) (w.alloc (.cells #[.int .u16 1, .int .i64 3, .int .u16 5, .int .i64 2] 25)) := Below.refl _ _
  clear hS
  go_enter Tryd.func9, Tryd.ntmps9
  go_wp2_with (first
    | (go_at_call 21; refine (sameG_here [⟨1, 3⟩] 1 c2 1 2 ((((HF2.out.below hb3).below (below_al (Below.refl _ _) _)).below hb4)) ((HE.out _ h0).els.take 1) rfl rfl (by decide)).mono ?_; rintro e w5 ⟨rfl, hb5⟩; have h0 := bc_then h0 hb5)
    | (go_at_call 21; refine (sameG_here exG3 3 c1 3 3 ((((HF1.out.below hb2).below hb3).below (below_al (Below.refl _ _) _))) (els_of_block (heap_alloc_new _ _) rfl) rfl rfl (by decide)).mono ?_; rintro e w4 ⟨rfl, hb4⟩; have h0 := bc_then (below_al h0 _) hb4)
    | (go_at_call 13; (with_reducible refine (H3.out _ h0).mono ?_); rintro e w3 ⟨v3, rfl, hF, hb3⟩; have h0 := bc_then h0 hb3)
    | (go_at_call 13; (with_reducible refine (H2.out _ h0).mono ?_); rintro e w2 ⟨v2, rfl, hF, hb2⟩; obtain ⟨p2, c2, rfl, hE2, -⟩ := hF.form; have HF2 : Veil _ := ⟨hE2⟩; clear hE2; have h0 := bc_then h0 hb2)
    | (go_at_call 11; (with_reducible refine (H1.out _ h0).mono ?_); rintro e w1 ⟨v1, rfl, hF, hb1⟩; obtain ⟨p1, c1, rfl, hE1, -⟩ := hF.form; have HF1 : Veil _ := ⟨hE1⟩; clear hE1; have h0 := bc_then h0 hb1))
  go_ret
  exact ⟨rfl, bc_then hW0 h0⟩
end Go.Proofs.YtecalafjfbgbcaaDoor

/- The laws on goods: GoodsBack, GoodsTwice, GoodsKeep. -/
namespace Go.Proofs.YtecalafjfbgbcaaDoor
open Go Go.RowKit Sm
attribute [local go_sem] Oper.semAt_some

/-- A stack in a box. -/
structure StBox (w : World) (b : Nat) (i n : Int) : Prop where
  i : w.cell? ⟨b, 0, none⟩ = some (.int .u16 i)
  n : w.cell? ⟨b, 1, none⟩ = some (.int .i64 n)
theorem StBox.new (w : World) (i n : Int) (T : TypeId) : StBox (w.alloc (.cells #[.int .u16 i, .int .i64 n] T)) w.heap.size i n := by
  constructor <;> exact cell_whole (cur := [.int .u16 i, .int .i64 n]) (heap_alloc_new _ _) _
theorem StBox.below {w w' : World} {b : Nat} {i n : Int} (h : StBox w b i n) (hb : Below w.heap.size w w') : StBox w' b i n :=
  ⟨(hb.cell (World.block_lt_of_cell? _ _ h.i)).trans h.i, (hb.cell (World.block_lt_of_cell? _ _ h.n)).trans h.n⟩
/-- Give, Take of any list that stands somewhere. -/
abbrev GiveAt (w0 : World) (f : FuncId) (L : List St) (s : St) (R : List St) (c : Int) : Prop := ∀ (p : Option Addr) (cp : Nat) (W : World), InL elS W p L cp → Below w0.heap.size w0 W → Calls Tryd.prog f #[.slice p L.length cp, s.v] W (GoodsPost W R c)
theorem take30 (l : List St) : (l.take 30).length ≤ 30 := by rw [List.length_take]; omega
theorem sameG_els {w : World} {p q : Option Addr} (a b : List St) (h : a = b) (ca cb : Nat) (ha : InL elS w p a ca) (hb : InL elS w q b cb) (hl : a.length ≤ 1000) :
    Calls Tryd.prog 21 #[.slice p a.length ca, .slice q b.length cb] w fun e w' => e = .returned (.bool true) ∧ Below w.heap.size w w' := by
  subst h
  exact sameG_here a _ ca _ cb ha.els hb.els rfl rfl hl

set_option maxRecDepth 20000 in
set_option maxHeartbeats 2000000 in
theorem goodsBack_any {w : World} {p : Option Addr} (l : List St) (lc : Nat) (s : St) (hin : InL elS w p l lc) (hgd : GdW l) (hS : MSent w) (hsi : s.item < 65536) (hsn : I64 s.n) :
    Calls Tryd.prog 5 #[.slice p l.length lc, s.v] w fun e w' => e = .returned (.bool true) ∧ Below w.heap.size w w' := by
  have hcut : Veil (∀ W, Below w.heap.size w W → Calls Tryd.prog 10 #[.slice p l.length lc] W (FreshPost elS W (l.take 30))) := ⟨fun W hW => cutG12_any l lc ⟨hin.els.below hW, hin.spot, hin.nil0, hin.le, hin.cap⟩⟩
  have ht := take30 l
  have hg := hgd.take 30
  have HSm : Veil (∀ W, Below w.heap.size w W → MSent W) := ⟨fun W hb => hS.below hb⟩
  generalize l.take 30 = T at hcut ht hg
  have P1 : Veil (GiveAt w 11 T s (giveG T s).1 (giveG T s).2) := ⟨fun p cp W h hb => gdgive_any T cp s h (by omega) hsi hsn hg (hS.below hb)⟩
  have P2 : Veil (GiveAt w 13 (giveG T s).1 s (takeG (giveG T s).1 s).1 (takeG (giveG T s).1 s).2) := ⟨fun p cp W h hb => gdtake_any _ cp s h (by have := (sizes_ok T s).1; omega) hsi hsn (giveG_w hg hsi) (hS.below hb)⟩
  have P3 : Veil (GiveAt w 13 T s (takeG T s).1 (takeG T s).2) := ⟨fun p cp W h hb => gdtake_any T cp s h (by omega) hsi hsn hg (hS.below hb)⟩
  have P4 : Veil (GiveAt w 11 (takeG T s).1 s (giveG (takeG T s).1 s).1 (giveG (takeG T s).1 s).2) := ⟨fun p cp W h hb => gdgive_any _ cp s h (by have := (sizes_ok T s).2; omega) hsi hsn (takeG_w hg hsi) (hS.below hb)⟩
  have F1 : (giveG T s).2 ≠ 0 ∨ (giveG T s).2 = 0 ∧ (takeG (giveG T s).1 s).2 = 0 ∧ (takeG (giveG T s).1 s).1 = T := by
    by_cases h : (giveG T s).2 = 0
    · exact .inr ⟨h, by rw [give_take T s h], by rw [give_take T s h]⟩
    · exact .inl h
  have F2 : (takeG T s).2 ≠ 0 ∨ (takeG T s).2 = 0 ∧ (giveG (takeG T s).1 s).2 = 0 ∧ (giveG (takeG T s).1 s).1 = T := by
    by_cases h : (takeG T s).2 = 0
    · exact .inr ⟨h, by rw [take_give T s h], by rw [take_give T s h]⟩
    · exact .inl h
  generalize giveG T s = x1 at P1 P2 F1
  obtain ⟨A, e0⟩ := x1
  dsimp only at P1 P2 F1
  generalize takeG A s = x2 at P2 F1
  obtain ⟨B, f0⟩ := x2
  generalize takeG T s = x3 at P3 P4 F2
  obtain ⟨C, g0⟩ := x3
  dsimp only at P2 P3 P4 F1 F2
  generalize giveG C s = x4 at P4 F2
  obtain ⟨D, h0⟩ := x4
  dsimp only at P4 F1 F2
  clear hin hsi hsn hS hg hgd
  obtain ⟨si, sn⟩ := s
  unfold GiveAt at *
  unfold St.v at *
  dsimp only at *
  have HS0 : Veil (StBox (w.alloc (.cells #[.int .u16 si, .int .i64 sn] 25)) w.heap.size si sn) := ⟨StBox.new _ _ _ _⟩
  have hT : Below w.heap.size w (w.alloc (.cells #[.int .u16 si, .int .i64 sn] 25)) := below_al (Below.refl _ _) _
  rcases F1 with F1 | ⟨rfl, rfl, F1⟩ <;> rcases F2 with F2 | ⟨rfl, rfl, F2⟩
  all_goals
    have HF1 : Veil _ := ⟨F1⟩
    have HF2 : Veil _ := ⟨F2⟩
    try (have F1' : ¬ e0 = 0 := F1)
    try (have F2' : ¬ g0 = 0 := F2)
    clear F1 F2
    go_enter Tryd.func5, Tryd.ntmps5
    go_wp2_with (first
      | (go_at_call 21; (with_reducible refine (sameG_els D T HF2.out _ _ HD.out HT.out (by rw [HF2.out]; omega)).mono ?_); rintro e w8 ⟨rfl, hb8⟩; have hT := bc_then hT hb8)
      | (go_at_call 21; (with_reducible refine (sameG_els B T HF1.out _ _ HB.out HT.out (by rw [HF1.out]; omega)).mono ?_); rintro e w7 ⟨rfl, hb7⟩; have hT := bc_then hT hb7; have HT : Veil _ := ⟨HT.out.below hb7⟩; have HD : Veil _ := ⟨HD.out.below hb7⟩)
      | (go_at_call 11; (with_reducible refine (P4.out _ _ _ HC.out hT).mono ?_); rintro e w6 ⟨v6, rfl, hF, hb6⟩; have hT := bc_then hT hb6; have HT : Veil _ := ⟨HT.out.below hb6⟩; have HB : Veil _ := ⟨HB.out.below hb6⟩; obtain ⟨p6, c6, rfl, hE6, -⟩ := hF.formI; have HD : Veil _ := ⟨hE6⟩; clear hE6)
      | (go_at_call 13; (with_reducible refine (P3.out _ _ _ HT.out hT).mono ?_); rintro e w5 ⟨v5, rfl, hF, hb5⟩; have hT := bc_then hT hb5; have HT : Veil _ := ⟨HT.out.below hb5⟩; have HB : Veil _ := ⟨HB.out.below hb5⟩; have HS : Veil _ := ⟨HS.out.below hb5⟩; obtain ⟨d0, d1⟩ := HS.out; obtain ⟨p5, c5, rfl, hE5, -⟩ := hF.formI; have HC : Veil _ := ⟨hE5⟩; clear hE5)
      | (go_at_call 13; (with_reducible refine (P2.out _ _ _ HA.out hT).mono ?_); rintro e w4 ⟨v4, rfl, hF, hb4⟩; have hT := bc_then hT hb4; have HT : Veil _ := ⟨HT.out.below hb4⟩; have HS : Veil _ := ⟨HS.out.below hb4⟩; obtain ⟨d0, d1⟩ := HS.out; obtain ⟨p4, c4, rfl, hE4, -⟩ := hF.formI; have HB : Veil _ := ⟨hE4⟩; clear hE4)
      | (go_at_call 11; (with_reducible refine (P1.out _ _ _ HT.out hT).mono ?_); rintro e w3 ⟨v3, rfl, hF, hb3⟩; have hT := bc_then hT hb3; have HT : Veil _ := ⟨HT.out.below hb3⟩; have HS : Veil _ := ⟨HS.out.below hb3⟩; obtain ⟨d0, d1⟩ := HS.out; obtain ⟨p3, c3, rfl, hE3, -⟩ := hF.formI; have HA : Veil _ := ⟨hE3⟩; clear hE3)
      | (go_at_call 10; (with_reducible refine (hcut.out _ hT).mono ?_); rintro e w2 ⟨v2, rfl, hF, hb2⟩; have hT := bc_then hT hb2; have HS : Veil _ := ⟨HS.out.below hb2⟩; obtain ⟨d0, d1⟩ := HS.out; obtain ⟨p2, c2, rfl, hE2, -⟩ := hF.formI; have HT : Veil _ := ⟨hE2⟩; clear hE2)
      | (go_at_call 9; refine (shown12_any _ (HSm.out _ hT)).mono ?_; rintro e w1 ⟨rfl, hb1⟩; have hT := bc_then hT hb1; have HS : Veil _ := ⟨HS0.out.below hb1⟩; obtain ⟨d0, d1⟩ := HS.out))
    go_ret
    exact ⟨rfl, hT⟩
end Go.Proofs.YtecalafjfbgbcaaDoor
