/- The laws on mail: MailOwn. -/
import Derived.Test.YtfjjodkapofgjaaDoorKKD
import Derived.Test.YtfjjodkapofgjaaDoorKI81
namespace Go.Proofs.YtfjjodkapofgjaaDoor
open Go Go.RowKit Sm
attribute [local go_sem] Oper.semAt_some

theorem AcBox.past {F : Nat → Prop} {w w' : World} {b : Nat} {x y : Int} (h : AcBox w b x y) (ht : Turned F w w') (hF : ¬ F b) : AcBox w' b x y :=
  ⟨ht.cell h.x hF, ht.cell h.y hF⟩
theorem MlBox.past {F : Nat → Prop} {w w' : World} {b : Nat} {f mo i n : Int} (h : MlBox w b f mo i n) (ht : Turned F w w') (hF : ¬ F b) : MlBox w' b f mo i n :=
  ⟨ht.cell h.f hF, ht.cell h.mo hF, ht.cell h.i hF, ht.cell h.n hF⟩
set_option maxRecDepth 20000 in
set_option maxHeartbeats 4000000 in
theorem mailOwn_any {w : World} {p : Option Addr} (a : Ac) (ha : a.Ok) (l : List St) (lc : Nat) (hin : InL elS w p l lc) (m : Ml) (hm : m.Ok) (hgd : GdW l) (hS : MSent w) :
    Calls Tryd.prog 5 #[a.v, .slice p l.length lc, m.v] w fun e w' => e = .returned (.bool true) ∧ Below w.heap.size w w' := by
  have hcut : Veil (∀ W, Below w.heap.size w W → Calls Tryd.prog 15 #[.slice p l.length lc] W fun e w' => ∃ g, e = .returned (.slice (some ⟨g, 0, none⟩) (l.take 30).length 30) ∧ FreshE elS W.heap.size w' (.slice (some ⟨g, 0, none⟩) (l.take 30).length 30) (l.take 30) ∧ Below W.heap.size W w') := ⟨fun W hW => cutG14_own l lc ⟨hin.els.below hW, hin.spot, hin.nil0, hin.le, hin.cap⟩⟩
  have ht := take30 l
  have hgL := hgd.take 30
  generalize l.take 30 = T at hcut ht hgL
  have HSm : Veil (∀ W, Below w.heap.size w W → MSent W) := ⟨fun W hb => hS.below hb⟩
  have HLI : Veil (∀ (g : Nat) (W : World), Els elS W (some ⟨g, 0, none⟩) T → InL elS W (some ⟨g, 0, none⟩) T 30) := ⟨fun g W h => ⟨h, fun a ha => by cases ha; rfl, fun h => (by cases h), ht, by decide⟩⟩
  have hcut2 : Veil (∀ (g : Nat) (W : World), Els elS W (some ⟨g, 0, none⟩) T → Calls Tryd.prog 15 #[.slice (some ⟨g, 0, none⟩) T.length 30] W (FreshPost elS W T)) := ⟨fun g W h => by
    have := cutG14_any T 30 ⟨h, fun a ha => by cases ha; rfl, fun h => (by cases h), ht, by decide⟩
    rwa [List.take_of_length_le ht] at this⟩
  have PG : Veil (SendAtP w 16 a T m (sendM a T m).1 (sendM a T m).2.1 (sendM a T m).2.2) := ⟨fun p lc W hb h => mlsend_any a ha T lc m hm h (by omega) hgL (hS.below hb)⟩
  have PT : Veil (SendAtP w 17 a T m (claimM a T m).1 (claimM a T m).2.1 (claimM a T m).2.2) := ⟨fun p lc W hb h => mlclaim_any a ha T lc m hm h (by omega) hgL (hS.below hb)⟩
  have hG := sendM_len a T m ht
  have hTk := claimM_len a T m ht
  generalize sendM a T m = x1 at PG hG
  generalize claimM a T m = x2 at PT hTk
  obtain ⟨⟨sw, sb⟩, G, e1⟩ := x1
  obtain ⟨⟨cw, cb⟩, K, e2⟩ := x2
  clear hin ha hm hgd hgL hS
  obtain ⟨aw, ab⟩ := a
  obtain ⟨f, mo, i, n⟩ := m
  unfold SendAtP at *
  try unfold SendAt at *
  unfold Ml.v Ac.v at *
  dsimp only at *
  have HTL : Veil _ := ⟨ht⟩
  have HA : Veil (AcBox ((w.alloc (.cells #[.int .i64 aw, .int .i64 ab] 37)).alloc (.cells #[.int .u32 f, .int .i64 mo, .int .u16 i, .int .i64 n] 27)) w.heap.size aw ab) := ⟨(AcBox.new _ _ _ _).below (below_al (Below.refl _ _) _)⟩
  have HM : Veil (MlBox ((w.alloc (.cells #[.int .i64 aw, .int .i64 ab] 37)).alloc (.cells #[.int .u32 f, .int .i64 mo, .int .u16 i, .int .i64 n] 27)) (w.heap.size + 1) f mo i n) := ⟨by
    have := MlBox.new (w.alloc (.cells #[.int .i64 aw, .int .i64 ab] 37)) f mo i n 27
    rwa [World.size_alloc] at this⟩
  have hT : Below w.heap.size w ((w.alloc (.cells #[.int .i64 aw, .int .i64 ab] 37)).alloc (.cells #[.int .u32 f, .int .i64 mo, .int .u16 i, .int .i64 n] 27)) := below_al (below_al (Below.refl _ _) _) _
  clear ht
  go_enter Tryd.func5, Tryd.ntmps5
  go_wp2_with (first
    | (go_at_call 16; (with_reducible refine (PG.out _ _ _ hT (HLI.out _ _ HL.out)).mono ?_); rintro e w4 ⟨v4, rfl, hF, hb4⟩; dsimp only [Ac.v]; have hT4 := bc_then hT hb4; have HL4 : Veil _ := ⟨HL.out.below hb4⟩; have HW4 : Veil _ := ⟨HWs.out.below hb4⟩; have HA4 : Veil _ := ⟨HA.out.below hb4⟩; have HM4 : Veil _ := ⟨HM.out.below hb4⟩; obtain ⟨p4, c4, rfl, -⟩ := hF.form; have HF4 : Veil _ := ⟨(hF.below (below_al (Below.refl w4.heap.size w4) (.cells #[.int .i64 sw, .int .i64 sb] 37))).wr⟩)
    | (go_at_call 15; (with_reducible refine (hcut2.out _ _ HL.out).mono ?_); rintro e w3 ⟨v3, rfl, hF, hb3⟩; have hT := bc_then hT hb3; have HL : Veil _ := ⟨HL.out.below hb3⟩; have HA : Veil _ := ⟨HA.out.below hb3⟩; have HM : Veil _ := ⟨HM.out.below hb3⟩; obtain ⟨d0, d1⟩ := HA.out; obtain ⟨m0, m1, m2, m3⟩ := HM.out; obtain ⟨p3, c3, rfl, hE3, -⟩ := hF.form; have HWs : Veil _ := ⟨hE3⟩; have hT3 := hT; clear hE3)
    | (go_at_call 15; (with_reducible refine (hcut.out _ hT).mono ?_); rintro e w2 ⟨g2, rfl, hF, hb2⟩; have hT := bc_then hT hb2; have HA : Veil _ := ⟨HA.out.below hb2⟩; have HM : Veil _ := ⟨HM.out.below hb2⟩; obtain ⟨d0, d1⟩ := HA.out; obtain ⟨m0, m1, m2, m3⟩ := HM.out; have hE2 : Els elS w2 (some ⟨g2, 0, none⟩) T := (by obtain ⟨q, c, hv, hE, -⟩ := hF; simp only [Value.slice.injEq, true_and] at hv; obtain ⟨rfl, -⟩ := hv; exact hE); have HL : Veil _ := ⟨hE2⟩; clear hE2)
    | (go_at_call 8; refine (shown14_any _ (HSm.out _ hT)).mono ?_; rintro e w1 ⟨rfl, hb1⟩; have hT := bc_then hT hb1; have HA : Veil _ := ⟨HA.out.below hb1⟩; have HM : Veil _ := ⟨HM.out.below hb1⟩; obtain ⟨d0, d1⟩ := HA.out; obtain ⟨m0, m1, m2, m3⟩ := HM.out))
  have H4 : Veil (Below w.heap.size w w4 ∧ w.heap.size + 1 < w3.heap.size ∧ w3.heap.size ≤ w4.heap.size) := ⟨hT4, World.block_lt_of_cell? _ _ HM.out.f, hb4.size⟩
  clear hT hT3 hT4 hF hb1 hb2 hb3 hb4 d0 d1 m0 m1 m2 m3
  go_loopw [12] (fun i wr => ∃ k : Nat, k ≤ G.length ∧ i = .int .i64 k ∧ Veil (WrS wr w3.heap.size p4 G.length ∧ Turned (fun j => w3.heap.size ≤ j) w4 wr)) (fun i _ => G.length - (intOf i).toNat)
  case atStart => exact ⟨0, Nat.zero_le _, rfl, ⟨HF4.out, (Turned.refl _ _).alloc _⟩⟩
  case round =>
    obtain ⟨k, hk, rfl, hJ⟩ := hrel
    by_cases hlt : k < G.length
    · obtain ⟨hW, hTu⟩ := hJ.out
      have HW' : Veil _ := ⟨hW⟩
      have HTu : Veil _ := ⟨hTu⟩
      rcases hW with h0 | ⟨b, o, rfl, hB, hc⟩
      · omega
      · obtain ⟨⟨x, hx⟩, hfz⟩ := hc k hlt
        have HB : Veil _ := ⟨hB⟩
        clear hB hc hTu hJ
        go_wp2
        refine ⟨⟨k + 1, by omega, by go_num, ⟨HW'.out.set _ _, HTu.out.setCell (p := ⟨b, o + k * 2 + 1, none⟩) HB.out _⟩⟩, ?_⟩
        simp only [intOf]; omega
    · obtain rfl : k = G.length := by omega
      obtain ⟨-, hTu⟩ := hJ.out
      have HL5 : Veil _ := ⟨HL.out.past HL4.out hTu (fun _ h => h)⟩
      have HW5 : Veil _ := ⟨HWs.out.past HW4.out hTu (fun _ h => h)⟩
      have HA5 : Veil _ := ⟨HA4.out.past hTu (by have := H4.out; omega)⟩
      have HM5 : Veil _ := ⟨HM4.out.past hTu (by have := H4.out; omega)⟩
      have H5 : Veil (Below w.heap.size w wr) := ⟨H4.out.1.trans (hTu.toBelow H4.out.1.size (fun k hk h => by have := H4.out; omega))⟩
      obtain ⟨d0, d1⟩ := HA5.out
      obtain ⟨m0, m1, m2, m3⟩ := HM5.out
      clear hJ hTu
      go_wp2_with (go_at_call 17; (with_reducible refine (PT.out _ _ _ H5.out (HLI.out _ _ HL5.out)).mono ?_); rintro e w6 ⟨v6, rfl, hF, hb6⟩; dsimp only [Ac.v]; have HL6 : Veil _ := ⟨HL5.out.below hb6⟩; have HW6 : Veil _ := ⟨HW5.out.below hb6⟩; obtain ⟨p6, c6, rfl, -⟩ := hF.form; have HF6 : Veil _ := ⟨(hF.below (below_al (Below.refl w6.heap.size w6) (.cells #[.int .i64 cw, .int .i64 cb] 37))).wr⟩; have H6 : Veil (Below w.heap.size w w6 ∧ w.heap.size ≤ wr.heap.size) := ⟨bc_then H5.out hb6, H5.out.size⟩)
      clear hF hb6 d0 d1 m0 m1 m2 m3
      go_loopw [16] (fun i wq => ∃ k : Nat, k ≤ K.length ∧ i = .int .i64 k ∧ Veil (WrS wq wr.heap.size p6 K.length ∧ Turned (fun j => wr.heap.size ≤ j) w6 wq)) (fun i _ => K.length - (intOf i).toNat)
      case atStart => exact ⟨0, Nat.zero_le _, rfl, ⟨HF6.out, (Turned.refl _ _).alloc _⟩⟩
      case round =>
        obtain ⟨k, hk, rfl, hJ⟩ := hrel
        by_cases hlt : k < K.length
        · obtain ⟨hW, hTu⟩ := hJ.out
          have HW' : Veil _ := ⟨hW⟩
          have HTu : Veil _ := ⟨hTu⟩
          rcases hW with h0 | ⟨b, o, rfl, hB, hc⟩
          · omega
          · obtain ⟨⟨x, hx⟩, hfz⟩ := hc k hlt
            have HB : Veil _ := ⟨hB⟩
            clear hB hc hTu hJ
            go_wp2
            refine ⟨⟨k + 1, by omega, by go_num, ⟨HW'.out.set _ _, HTu.out.setCell (p := ⟨b, o + k * 2 + 1, none⟩) HB.out _⟩⟩, ?_⟩
            simp only [intOf]; omega
        · obtain rfl : k = K.length := by omega
          obtain ⟨-, hTu⟩ := hJ.out
          have HL7 : Veil _ := ⟨HL5.out.past HL6.out hTu (fun _ h => h)⟩
          have HW7 : Veil _ := ⟨HW5.out.past HW6.out hTu (fun _ h => h)⟩
          have H7 : Veil _ := ⟨H6.out.1.trans (hTu.toBelow H6.out.1.size (fun k hk h => by have := H6.out.2; omega))⟩
          clear hJ hTu
          go_wp2_with (go_at_call 18; (with_reducible refine (sameK_els T T rfl _ _ HL7.out HW7.out (by have := HTL.out; omega)).mono ?_); rintro e w8 ⟨rfl, hb8⟩)
          go_ret
          exact ⟨rfl, bc_then H7.out hb8⟩
end Go.Proofs.YtfjjodkapofgjaaDoor
