/- Goods, by the program: slices.Grow (of nothing), slices.Concat of stacks, cut. -/
import Derived.Test.YtckkiilbabbeaaaDoorKI91
import Derived.Test.YtckkiilbabbeaaaDoorKOB
namespace Go.Proofs.YtckkiilbabbeaaaDoor
open Go Go.RowKit Sm
attribute [local go_sem] Oper.semAt_some

set_option maxRecDepth 20000 in
theorem ncutS_any {p : Option Addr} {len cap : Nat} (h : SlOk p len cap) (f n : Nat) (hfn : f + n ≤ len) (w : World) :
    Calls Tryd.prog 81 #[.slice p len cap, .int .i64 f, .int .i64 ((f + n : Nat) : Int)] w fun e w' => e = .returned (.slice (cutE elS p f n) n n) ∧ w = w' := by
  have hlc := h.le
  have hcap := h.few
  by_cases hn : n = 0
  · subst hn
    have e : cutE elS p f 0 = p := rfl
    rw [e, Nat.add_zero]
    rw [Nat.add_zero] at hfn
    cases p with
    | none =>
      obtain rfl : cap = 0 := h.none rfl
      obtain rfl : len = 0 := by omega
      obtain rfl : f = 0 := by omega
      clear hfn hlc h
      go_enter Tryd.func81, Tryd.ntmps81
      go_wp2
      go_ret
      exact ⟨rfl, rfl⟩
    | some a =>
      have hl0 : f ≤ cap := by omega
      clear hfn e h
      go_enter Tryd.func81, Tryd.ntmps81
      go_wp2
      go_ret
      exact ⟨by simp, rfl⟩
  · cases p with
    | none =>
      have := h.none rfl
      omega
    | some a =>
      obtain ⟨b, o, sp⟩ := a
      obtain rfl : sp = none := h.spot _ rfl
      have e : cutE elS (some ⟨b, o, none⟩) f n = some ⟨b, o + f * 2, none⟩ := by simp [cutE, dropP, hn, elS]
      rw [e]
      obtain ⟨t, ht⟩ : ∃ t, f + n = t := ⟨_, rfl⟩
      rw [ht]
      have hnt : t - f = n := by omega
      have HNT : Veil _ := ⟨hnt⟩
      have hlt : f < t := by omega
      have htc : t ≤ cap := by omega
      clear hnt ht hfn hn e h
      go_enter Tryd.func81, Tryd.ntmps81
      go_wp2
      go_ret
      refine ⟨?_, rfl⟩
      rw [← HNT.out]
      first | rfl | simp

set_option maxRecDepth 20000 in
theorem growS_nil (n : Nat) (hn : n ≤ 1000000) (w : World) : Calls Tryd.prog 91 #[.slice none 0 0, .int .i64 (n : Int)] w fun e w' => ∃ v, e = .returned v ∧ OwnE elS w' w.heap.size v [] ∧ Below w.heap.size w w' := by
  by_cases h0 : n = 0
  · subst h0
    go_enter Tryd.func91, Tryd.ntmps91
    go_wp2
    go_ret
    exact ⟨_, rfl, OwnE.nil _ _ _, Below.refl _ _⟩
  · have hrz := grow_run elS n (by omega) hn w
    have HO : Veil _ := ⟨grow_own elS n hn w⟩
    have hGn := grownCap_ge w n 0 elS.ty
    have HB : Veil (Below w.heap.size w (w.drew.alloc (.cells (#[] ++ Builtin.zeroCells elS.zero.cells n ++ Builtin.zeroCells elS.zero.cells (grownCap w n 0 elS.ty - n)) elS.ty))) := ⟨below_al (Below.refl _ _).drew _⟩
    have hG63 : grownCap w n 0 elS.ty ≤ 9223372036854775807 := by
      have := grownCap_le_maxLen w n 0 elS.ty (by unfold maxLen; omega)
      unfold maxLen at this
      omega
    revert hrz HO HB hGn hG63
    generalize w.drew.alloc (.cells (#[] ++ Builtin.zeroCells elS.zero.cells n ++ Builtin.zeroCells elS.zero.cells (grownCap w n 0 elS.ty - n)) elS.ty) = W1
    generalize grownCap w n 0 elS.ty = G
    intro hrz HO hGn HB hG63
    have hpos : 0 < n := by omega
    clear h0
    go_enter Tryd.func91, Tryd.ntmps91
    go_wp2_with (at_builtin; refine Lib.wpList_append_run _ rfl _ _ _ _ rfl _ _ rfl rfl _ _ (hrz _) ?_)
    go_ret
    exact ⟨_, rfl, HO.out, HB.out⟩

set_option maxRecDepth 20000 in
set_option maxHeartbeats 2000000 in
theorem concatS_of {w : World} {g : Nat} {P : List (Pt St)} {t : TypeId} (hg : w.heap[g]? = some (.cells (P.map Pt.v).toArray t (0, 0))) (cap : Nat) (hE : ∀ x ∈ P, Els elS w x.p x.l) (hl : sumL P ≤ 1000000) (hP : P.length ≤ 100) :
    Calls Tryd.prog 80 #[.slice (some ⟨g, 0, none⟩) P.length cap] w fun e w' => ∃ v, e = .returned v ∧ OwnE elS w' w.heap.size v (allL P) ∧ Below w.heap.size w w' := by
  have HG : Veil _ := ⟨hg⟩
  have HE : Veil _ := ⟨hE⟩
  have HGr : Veil (∀ w, Calls Tryd.prog 91 #[.slice none 0 0, .int .i64 (sumL P : Int)] w fun e w' => ∃ v, e = .returned v ∧ OwnE elS w' w.heap.size v [] ∧ Below w.heap.size w w') := ⟨growS_nil (sumL P) hl⟩
  clear hg hE
  go_enter Tryd.func80, Tryd.ntmps80
  go_wp2
  go_loopw [3, 11] (fun s i wr => ∃ k : Nat, k ≤ P.length ∧ i = .int .i64 k ∧ s = .int .i64 (sumL (P.take k)) ∧ w = wr) (fun _ i _ => P.length - (intOf i).toNat)
  case atStart => exact ⟨0, Nat.zero_le _, rfl, by simp [sumL], rfl⟩
  case round =>
    obtain ⟨k, hk, rfl, rfl, rfl⟩ := hrel
    by_cases hlt : k < P.length
    · have c1 := pt_cell HG.out k hlt
      have HSK : Veil _ := ⟨sumL_take P k hlt⟩
      have hs1 := sumL_le P (k + 1)
      rw [HSK.out] at hs1
      revert c1 HSK hs1
      generalize P.getD k Pt.none = x
      obtain ⟨p, c, l⟩ := x
      dsimp only
      generalize sumL (P.take k) = m
      generalize l.length = n
      intro c1 HSK hs1
      go_wp2
      refine ⟨⟨k + 1, by omega, by go_num, by rw [HSK.out]; first | rfl | go_num, by first | rfl | trivial⟩, ?_⟩
      simp only [intOf]; omega
    · obtain rfl : k = P.length := by omega
      have e : sumL (P.take P.length) = sumL P := by rw [List.take_length]
      rw [e]
      clear e
      go_wp2_with (go_at_call 91; refine (HGr.out _).mono ?_; rintro e w2 ⟨v, rfl, hown, hb⟩)
      have HI : Veil (OwnE elS w2 w.heap.size v (allL (P.take 0)) ∧ Below w.heap.size w w2) := ⟨by simpa [allL] using hown, hb⟩
      clear hown hb hlt hk
      go_loopw [6, 27] (fun b i wr => ∃ (k : Nat) (v : Value), k ≤ P.length ∧ i = .int .i64 k ∧ v = b ∧ Veil (OwnE elS wr w.heap.size v (allL (P.take k)) ∧ Below w.heap.size w wr)) (fun _ i _ => P.length - (intOf i).toNat)
      case atStart => exact ⟨0, v, Nat.zero_le _, rfl, rfl, HI⟩
      case round =>
        obtain ⟨k, v, hk, rfl, rfl, HI⟩ := hrel
        by_cases hlt : k < P.length
        · have c1 := (HI.out.2.cell (lt_of_heap HG.out)).trans (pt_cell HG.out k hlt)
          have HAK : Veil _ := ⟨allL_take P k hlt⟩
          have hs1 := sumL_le P (k + 1)
          rw [sumL_take P k hlt, ← allL_len (P.take k)] at hs1
          have HEx : Veil (Els elS wr (P.getD k Pt.none).p (P.getD k Pt.none).l) := ⟨(HE.out _ (getD_mem hlt Pt.none)).below HI.out.2⟩
          revert c1 HAK hs1 HEx
          generalize P.getD k Pt.none = x
          obtain ⟨p, c, l⟩ := x
          dsimp only
          generalize allL (P.take k) = M at HI ⊢
          intro c1 HAK hs1 HEx
          have HML : Veil (M.length + l.length ≤ 1000000) := ⟨by omega⟩
          clear hs1
          go_wp2_with (at_builtin; refine wpList_append_els elS rfl (.tmp 31) (.tmp 32) rfl w.heap.size v M l rfl HI.out.1 p c rfl HEx.out HML.out HI.out.2.size ?_; intro v' w5 hown5 hgrow5 hv5)
          refine ⟨⟨k + 1, v', by omega, by go_num, rfl, ⟨by rw [HAK.out]; exact hown5, ownE_grown HI.out.2 (Nat.le_refl _) HI.out.1 hgrow5⟩⟩, ?_⟩
          simp only [intOf]; omega
        · obtain rfl : k = P.length := by omega
          have HI2 : Veil (OwnE elS wr w.heap.size v (allL P) ∧ Below w.heap.size w wr) := ⟨by have := HI.out; rwa [List.take_length] at this⟩
          clear HI
          go_wp2
          go_ret
          exact ⟨v, rfl, HI2.out⟩
end Go.Proofs.YtckkiilbabbeaaaDoor

/- Goods, by the program: stacked. -/
namespace Go.Proofs.YtckkiilbabbeaaaDoor
open Go Go.RowKit Sm
attribute [local go_sem] Oper.semAt_some

set_option maxRecDepth 20000 in
set_option maxHeartbeats 2000000 in
theorem gdstacked_any {w : World} {p : Option Addr} (l : List St) (c : Nat) (s : St) (h : InL elS w p l c) (hl : l.length ≤ 1000) (hi : s.item < 65536) (hw : GdW l) :
    Calls Tryd.prog 64 #[.slice p l.length c, s.v] w fun e w' => ∃ v, e = .returned v ∧ OwnE elS w' w.heap.size v (stackedG l s) ∧ Below w.heap.size w w' := by
  obtain ⟨si, sn⟩ := s
  unfold St.v stackedG
  dsimp only at *
  obtain ⟨f, hf⟩ : ∃ f, (l.findIdx fun x => decide (si ≤ x.item)) = f := ⟨_, rfl⟩
  obtain ⟨t, ht⟩ : ∃ t, (l.findIdx fun x => decide (si + 1 ≤ x.item)) = t := ⟨_, rfl⟩
  rw [hf, ht]
  have hfl : f ≤ l.length := by rw [← hf]; exact List.findIdx_le_length
  have htl : t ≤ l.length := by rw [← ht]; exact List.findIdx_le_length
  have HP1 : Veil (∀ W, Below w.heap.size w W → Calls Tryd.prog 79 #[.slice p l.length c, .int .i64 si] W fun e w' => e = .returned (.int .i64 f) ∧ Below W.heap.size W w') := ⟨fun W hb => by rw [← hf]; exact gdplace_any l c si (by omega) (h.els.below hb) hl hw⟩
  have HP2 : Veil (∀ W, Below w.heap.size w W → Calls Tryd.prog 79 #[.slice p l.length c, .int .i64 ((si : Int) + 1)] W fun e w' => e = .returned (.int .i64 t) ∧ Below W.heap.size W w') := ⟨fun W hb => by
    rw [← ht]
    have := gdplace_any (w := W) (p := p) l c (si + 1) (by omega) (h.els.below hb) hl hw
    rwa [show ((si + 1 : Nat) : Int) = (si : Int) + 1 by omega] at this⟩
  obtain ⟨r, hr⟩ : ∃ r, l.length - t = r := ⟨_, rfl⟩
  have HC1 : Veil (∀ W, Calls Tryd.prog 81 #[.slice p l.length c, .int .i64 0, .int .i64 f] W fun e w' => e = .returned (.slice (cutE elS p 0 f) f f) ∧ W = w') := ⟨fun W => by
    have := ncutS_any h.ok 0 f (by omega) W
    rwa [Nat.zero_add] at this⟩
  have HC2 : Veil (∀ W, Calls Tryd.prog 81 #[.slice p l.length c, .int .i64 t, .int .i64 l.length] W fun e w' => e = .returned (.slice (cutE elS p t r) r r) ∧ W = w') := ⟨fun W => by
    have := ncutS_any h.ok t r (by omega) W
    rwa [show t + r = l.length by omega] at this⟩
  have HCC : Veil (∀ W g (q : Option Addr) (M : List St) (k : Nat), M.length ≤ 1 → Below w.heap.size w W → Els elS W q M → W.heap[g]? = some (.cells #[.slice (cutE elS p 0 f) f f, .slice q M.length k, .slice (cutE elS p t r) r r] 38 (0, 0)) → Calls Tryd.prog 80 #[.slice (some ⟨g, 0, none⟩) (3 : Nat) (3 : Nat)] W fun e w' => ∃ v, e = .returned v ∧ OwnE elS w' W.heap.size v (l.take f ++ M ++ l.drop t) ∧ Below W.heap.size W w') := ⟨fun W g q M k hM hb hE hg => by
    have e1 : (l.take f).length = f := by rw [List.length_take]; omega
    have e3 : (l.drop t).length = r := by rw [List.length_drop]; exact hr
    have x1 : Els elS W (cutE elS p 0 f) (l.take f) := by have := (h.els.below hb).cut 0 f; simpa using this
    have x3 : Els elS W (cutE elS p t r) (l.drop t) := by have := (h.els.below hb).cut t r; rwa [List.take_of_length_le (by omega)] at this
    refine (concatS_of (P := [⟨cutE elS p 0 f, f, l.take f⟩, ⟨q, k, M⟩, ⟨cutE elS p t r, r, l.drop t⟩]) (g := g) (t := 38) (by simpa [Pt.v, e1, e3] using hg) 3 ?_ ?_ (by simp)).mono ?_
    · intro x hx
      simp only [List.mem_cons, List.not_mem_nil, or_false] at hx
      rcases hx with rfl | rfl | rfl <;> assumption
    · simp only [sumL, List.map_cons, List.map_nil, List.sum_cons, List.sum_nil, e1, e3]; omega
    · rintro e w' ⟨v, rfl, ho, hb'⟩
      exact ⟨v, rfl, by simpa [allL] using ho, hb'⟩⟩
  have HCn : Veil (∀ W g, g = W.heap.size → Below w.heap.size w W → Calls Tryd.prog 80 #[.slice (some ⟨g, 0, none⟩) 3 3] (W.alloc (.cells #[.slice (cutE elS p 0 f) f f, .slice none 0 0, .slice (cutE elS p t r) r r] 38)) fun e w' => ∃ v, e = .returned v ∧ OwnE elS w' w.heap.size v (l.take f ++ [] ++ l.drop t) ∧ Below w.heap.size w w') := ⟨fun W g hg hb => by
    subst hg
    refine (HCC.out (W.alloc (.cells #[.slice (cutE elS p 0 f) f f, .slice none 0 0, .slice (cutE elS p t r) r r] 38)) W.heap.size none [] 0 (by decide) (below_al hb _) (Els.nil _ _) (heap_alloc_new _ _)).mono ?_
    rintro e w' ⟨v, h1, h2, h3⟩
    exact ⟨v, h1, h2.less (below_al hb _).size, bc_then (below_al hb _) h3⟩⟩
  have HCs : Veil (∀ W g (B : Nat), g = W.heap.size → Below w.heap.size w W → Els elS W (some ⟨B, 0, none⟩) [⟨si, sn⟩] → Calls Tryd.prog 80 #[.slice (some ⟨g, 0, none⟩) 3 3] (W.alloc (.cells #[.slice (cutE elS p 0 f) f f, .slice (some ⟨B, 0, none⟩) 1 1, .slice (cutE elS p t r) r r] 38)) fun e w' => ∃ v, e = .returned v ∧ OwnE elS w' w.heap.size v (l.take f ++ [⟨si, sn⟩] ++ l.drop t) ∧ Below w.heap.size w w') := ⟨fun W g B hg hb hE => by
    subst hg
    refine (HCC.out (W.alloc (.cells #[.slice (cutE elS p 0 f) f f, .slice (some ⟨B, 0, none⟩) 1 1, .slice (cutE elS p t r) r r] 38)) W.heap.size (some ⟨B, 0, none⟩) [⟨si, sn⟩] 1 (by simp) (below_al hb _) (hE.below (below_al (Below.refl _ _) _)) (heap_alloc_new _ _)).mono ?_
    rintro e w' ⟨v, h1, h2, h3⟩
    exact ⟨v, h1, h2.less (below_al hb _).size, bc_then (below_al hb _) h3⟩⟩
  have hW0 : Below w.heap.size w (w.alloc (.cells #[.int .u16 si, .int .i64 sn] 25)) := below_al (Below.refl _ _) _
  have HS : Veil (∀ W, Below (w.alloc (.cells #[.int .u16 si, .int .i64 sn] 25)).heap.size (w.alloc (.cells #[.int .u16 si, .int .i64 sn] 25)) W → W.cell? ⟨w.heap.size, 0, none⟩ = some (.int .u16 si) ∧ W.cell? ⟨w.heap.size, 1, none⟩ = some (.int .i64 sn)) := ⟨fun W hb => ⟨(hb.cell (World.block_lt_of_cell? _ _ (packG (heap_alloc_new _ _)).1.1)).trans (packG (heap_alloc_new _ _)).1.1, (hb.cell (World.block_lt_of_cell? _ _ (packG (heap_alloc_new _ _)).1.2)).trans (packG (heap_alloc_new _ _)).1.2⟩⟩
  clear h hw hf ht hr HCC
  by_cases hn : sn = 0
  · subst hn
    rw [if_pos rfl]
    go_enter Tryd.func64, Tryd.ntmps64
    go_wp2_with (first
      | (go_at_call 80; (with_reducible refine (HCn.out _ _ (by simp) (below_al (bc_then hW0 hb12) _)).mono ?_); rintro e w5 ⟨v, rfl, ho, hb5⟩; obtain ⟨p5, c5, ev, -⟩ := ho.form; generalize hq5 : (List.length _) = q5 at ev; subst ev; have HO : Veil _ := ⟨ho⟩; clear ho hq5)
      | (go_at_call 81; (with_reducible refine (HC2.out _).mono ?_); rintro e w4 ⟨rfl, rfl⟩)
      | (go_at_call 81; (with_reducible refine (HC1.out _).mono ?_); rintro e w3 ⟨rfl, rfl⟩)
      | (go_at_call 79; (with_reducible refine (HP2.out _ (bc_then hW0 hb1)).mono ?_); rintro e w2 ⟨rfl, hb2⟩; have hb12 := bc_then hb1 hb2; obtain ⟨d0, d1⟩ := HS.out _ hb12; have hlt2 : w.heap.size < w2.heap.size := World.block_lt_of_cell? _ _ d0)
      | (go_at_call 79; (with_reducible refine (HP1.out _ hW0).mono ?_); rintro e w1 ⟨rfl, hb1⟩; obtain ⟨d0, d1⟩ := HS.out _ hb1))
    go_ret
    exact ⟨_, rfl, HO.out, hb5⟩
  · rw [if_neg hn]
    go_enter Tryd.func64, Tryd.ntmps64
    go_wp2_with (first
      | (go_at_call 80; (with_reducible refine (HCs.out _ _ _ (by simp) (below_al (bc_then hW0 hb12) _) (els_of_block (heap_alloc_new _ _) rfl)).mono ?_); rintro e w5 ⟨v, rfl, ho, hb5⟩; obtain ⟨p5, c5, ev, -⟩ := ho.form; generalize hq5 : (List.length _) = q5 at ev; subst ev; have HO : Veil _ := ⟨ho⟩; clear ho hq5)
      | (go_at_call 81; (with_reducible refine (HC2.out _).mono ?_); rintro e w4 ⟨rfl, rfl⟩)
      | (go_at_call 81; (with_reducible refine (HC1.out _).mono ?_); rintro e w3 ⟨rfl, rfl⟩)
      | (go_at_call 79; (with_reducible refine (HP2.out _ (bc_then hW0 hb1)).mono ?_); rintro e w2 ⟨rfl, hb2⟩; have hb12 := bc_then hb1 hb2; obtain ⟨d0, d1⟩ := HS.out _ hb12; have hlt2 : w.heap.size < w2.heap.size := World.block_lt_of_cell? _ _ d0)
      | (go_at_call 79; (with_reducible refine (HP1.out _ hW0).mono ?_); rintro e w1 ⟨rfl, hb1⟩; obtain ⟨d0, d1⟩ := HS.out _ hb1))
    go_ret
    exact ⟨_, rfl, HO.out, hb5⟩
end Go.Proofs.YtckkiilbabbeaaaDoor
