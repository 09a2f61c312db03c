/- The laws on the shop: ShopOwn. -/
import Derived.Test.YtckkiilbabbeaaaDoorKLD
import Derived.Test.YtckkiilbabbeaaaDoorKI81
namespace Go.Proofs.YtckkiilbabbeaaaDoor
open Go Go.RowKit Sm
attribute [local go_sem] Oper.semAt_some

theorem LiBox.past {F : Nat → Prop} {w w' : World} {b : Nat} {f i n mo : Int} (h : LiBox w b f i n mo) (ht : Turned F w w') (hF : ¬ F b) : LiBox w' b f i n mo :=
  ⟨ht.cell h.f hF, ht.cell h.i hF, ht.cell h.n hF, ht.cell h.mo hF⟩
set_option maxRecDepth 20000 in
set_option maxHeartbeats 4000000 in
theorem shopOwn_any {w : World} {p : Option Addr} (l : List St) (lc : Nat) (hin : InL elS w p l lc) (m : Li) (hm : m.Ok) (hgd : GdW l) (hS : MSent w) :
    Calls Tryd.prog 7 #[.slice p l.length lc, m.v] w fun e w' => e = .returned (.bool true) ∧ Below w.heap.size w w' := by
  have hcut : Veil (∀ W, Below w.heap.size w W → Calls Tryd.prog 16 #[.slice p l.length lc] W fun e w' => ∃ g, e = .returned (.slice (some ⟨g, 0, none⟩) (l.take 30).length 30) ∧ FreshE elS W.heap.size w' (.slice (some ⟨g, 0, none⟩) (l.take 30).length 30) (l.take 30) ∧ Below W.heap.size W w') := ⟨fun W hW => cutG15_own l lc ⟨hin.els.below hW, hin.spot, hin.nil0, hin.le, hin.cap⟩⟩
  have ht := take30 l
  have hgL := hgd.take 30
  generalize l.take 30 = T at hcut ht hgL
  have HSm : Veil (∀ W, Below w.heap.size w W → MSent W) := ⟨fun W hb => hS.below hb⟩
  have HLI : Veil (∀ (g : Nat) (W : World), Els elS W (some ⟨g, 0, none⟩) T → InL elS W (some ⟨g, 0, none⟩) T 30) := ⟨fun g W h => ⟨h, fun a ha => by cases ha; rfl, fun h => (by cases h), ht, by decide⟩⟩
  have hcut2 : Veil (∀ (g : Nat) (W : World), Els elS W (some ⟨g, 0, none⟩) T → Calls Tryd.prog 16 #[.slice (some ⟨g, 0, none⟩) T.length 30] W (FreshPost elS W T)) := ⟨fun g W h => by
    have := cutG15_any T 30 ⟨h, fun a ha => by cases ha; rfl, fun h => (by cases h), ht, by decide⟩
    rwa [List.take_of_length_le ht] at this⟩
  have PG : Veil (ListAtP w 17 T m (listS T m).1 (listS T m).2) := ⟨fun p lc W hb h => shlist_any T lc m hm h (by omega) hgL (hS.below hb)⟩
  have PT : Veil (ListAtP w 19 T m (cancelS T m).1 (cancelS T m).2) := ⟨fun p lc W hb h => shcancel_any T lc m hm h (by omega) hgL (hS.below hb)⟩
  have hG := listS_len T m ht
  have hTk := cancelS_len T m
  generalize listS T m = x1 at PG hG
  generalize cancelS T m = x2 at PT hTk
  obtain ⟨G, e1⟩ := x1
  obtain ⟨K, e2⟩ := x2
  clear hin hm hgd hgL hS
  obtain ⟨f, i, n, mo⟩ := m
  unfold ListAtP at *
  unfold Li.v at *
  dsimp only at *
  have HTL : Veil _ := ⟨ht⟩
  have HM : Veil _ := ⟨LiBox.new w f i n mo 27⟩
  have hT : Below w.heap.size w (w.alloc (.cells #[.int .u32 f, .int .u16 i, .int .i64 n, .int .i64 mo] 27)) := below_al (Below.refl _ _) _
  clear ht
  go_enter Tryd.func7, Tryd.ntmps7
  go_wp2_with (first
    | (go_at_call 17; (with_reducible refine (PG.out _ _ _ hT (HLI.out _ _ HL.out)).mono ?_); rintro e w4 ⟨v4, rfl, hF, hb4⟩; have hT4 := bc_then hT hb4; have HL4 : Veil _ := ⟨HL.out.below hb4⟩; have HW4 : Veil _ := ⟨HWs.out.below hb4⟩; have HM4 : Veil _ := ⟨HM.out.below hb4⟩; obtain ⟨p4, c4, rfl, -⟩ := hF.form; have HF4 : Veil _ := ⟨hF.wr⟩)
    | (go_at_call 16; (with_reducible refine (hcut2.out _ _ HL.out).mono ?_); rintro e w3 ⟨v3, rfl, hF, hb3⟩; have hT := bc_then hT hb3; have HL : Veil _ := ⟨HL.out.below hb3⟩; have HM : Veil _ := ⟨HM.out.below hb3⟩; obtain ⟨m0, m1, m2, m3⟩ := HM.out; obtain ⟨p3, c3, rfl, hE3, -⟩ := hF.form; have HWs : Veil _ := ⟨hE3⟩; have hT3 := hT; clear hE3)
    | (go_at_call 16; (with_reducible refine (hcut.out _ hT).mono ?_); rintro e w2 ⟨g2, rfl, hF, hb2⟩; have hT := bc_then hT hb2; have HM : Veil _ := ⟨HM.out.below hb2⟩; obtain ⟨m0, m1, m2, m3⟩ := HM.out; have hE2 : Els elS w2 (some ⟨g2, 0, none⟩) T := (by obtain ⟨q, c, hv, hE, -⟩ := hF; simp only [Value.slice.injEq, true_and] at hv; obtain ⟨rfl, -⟩ := hv; exact hE); have HL : Veil _ := ⟨hE2⟩; clear hE2)
    | (go_at_call 9; refine (shown15_any _ (HSm.out _ hT)).mono ?_; rintro e w1 ⟨rfl, hb1⟩; have hT := bc_then hT hb1; have HM : Veil _ := ⟨HM.out.below hb1⟩; obtain ⟨m0, m1, m2, m3⟩ := HM.out))
  have H4 : Veil (Below w.heap.size w w4 ∧ w.heap.size < w3.heap.size ∧ w3.heap.size ≤ w4.heap.size) := ⟨hT4, World.block_lt_of_cell? _ _ HM.out.f, hb4.size⟩
  clear hT hT3 hT4 hF hb1 hb2 hb3 hb4 m0 m1 m2 m3
  go_loopw [9] (fun i wr => ∃ k : Nat, k ≤ G.length ∧ i = .int .i64 k ∧ Veil (WrS wr w3.heap.size p4 G.length ∧ Turned (fun j => w3.heap.size ≤ j) w4 wr)) (fun i _ => G.length - (intOf i).toNat)
  case atStart => exact ⟨0, Nat.zero_le _, rfl, ⟨HF4.out, Turned.refl _ _⟩⟩
  case round =>
    obtain ⟨k, hk, rfl, hJ⟩ := hrel
    by_cases hlt : k < G.length
    · obtain ⟨hW, hTu⟩ := hJ.out
      have HW' : Veil _ := ⟨hW⟩
      have HTu : Veil _ := ⟨hTu⟩
      rcases hW with h0 | ⟨b, o, rfl, hB, hc⟩
      · omega
      · obtain ⟨⟨x, hx⟩, hfz⟩ := hc k hlt
        have HB : Veil _ := ⟨hB⟩
        clear hB hc hTu hJ
        go_wp2
        refine ⟨⟨k + 1, by omega, by go_num, ⟨HW'.out.set _ _, HTu.out.setCell (p := ⟨b, o + k * 2 + 1, none⟩) HB.out _⟩⟩, ?_⟩
        simp only [intOf]; omega
    · obtain rfl : k = G.length := by omega
      obtain ⟨-, hTu⟩ := hJ.out
      have HL5 : Veil _ := ⟨HL.out.past HL4.out hTu (fun _ h => h)⟩
      have HW5 : Veil _ := ⟨HWs.out.past HW4.out hTu (fun _ h => h)⟩
      have HM5 : Veil _ := ⟨HM4.out.past hTu (by have := H4.out; omega)⟩
      have H5 : Veil (Below w.heap.size w wr) := ⟨H4.out.1.trans (hTu.toBelow H4.out.1.size (fun k hk h => by have := H4.out; omega))⟩
      obtain ⟨m0, m1, m2, m3⟩ := HM5.out
      clear hJ hTu
      go_wp2_with (go_at_call 19; (with_reducible refine (PT.out _ _ _ H5.out (HLI.out _ _ HL5.out)).mono ?_); rintro e w6 ⟨v6, rfl, hF, hb6⟩; have HL6 : Veil _ := ⟨HL5.out.below hb6⟩; have HW6 : Veil _ := ⟨HW5.out.below hb6⟩; obtain ⟨p6, c6, rfl, -⟩ := hF.form; have HF6 : Veil _ := ⟨hF.wr⟩; have H6 : Veil (Below w.heap.size w w6 ∧ w.heap.size ≤ wr.heap.size) := ⟨bc_then H5.out hb6, H5.out.size⟩)
      clear hF hb6 m0 m1 m2 m3
      go_loopw [12] (fun i wq => ∃ k : Nat, k ≤ K.length ∧ i = .int .i64 k ∧ Veil (WrS wq wr.heap.size p6 K.length ∧ Turned (fun j => wr.heap.size ≤ j) w6 wq)) (fun i _ => K.length - (intOf i).toNat)
      case atStart => exact ⟨0, Nat.zero_le _, rfl, ⟨HF6.out, Turned.refl _ _⟩⟩
      case round =>
        obtain ⟨k, hk, rfl, hJ⟩ := hrel
        by_cases hlt : k < K.length
        · obtain ⟨hW, hTu⟩ := hJ.out
          have HW' : Veil _ := ⟨hW⟩
          have HTu : Veil _ := ⟨hTu⟩
          rcases hW with h0 | ⟨b, o, rfl, hB, hc⟩
          · omega
          · obtain ⟨⟨x, hx⟩, hfz⟩ := hc k hlt
            have HB : Veil _ := ⟨hB⟩
            clear hB hc hTu hJ
            go_wp2
            refine ⟨⟨k + 1, by omega, by go_num, ⟨HW'.out.set _ _, HTu.out.setCell (p := ⟨b, o + k * 2 + 1, none⟩) HB.out _⟩⟩, ?_⟩
            simp only [intOf]; omega
        · obtain rfl : k = K.length := by omega
          obtain ⟨-, hTu⟩ := hJ.out
          have HL7 : Veil _ := ⟨HL5.out.past HL6.out hTu (fun _ h => h)⟩
          have HW7 : Veil _ := ⟨HW5.out.past HW6.out hTu (fun _ h => h)⟩
          have H7 : Veil _ := ⟨H6.out.1.trans (hTu.toBelow H6.out.1.size (fun k hk h => by have := H6.out.2; omega))⟩
          clear hJ hTu
          go_wp2_with (go_at_call 23; (with_reducible refine (sameL_els T T rfl _ _ HL7.out HW7.out (by have := HTL.out; omega)).mono ?_); rintro e w8 ⟨rfl, hb8⟩)
          go_ret
          exact ⟨rfl, bc_then H7.out hb8⟩
end Go.Proofs.YtckkiilbabbeaaaDoor
