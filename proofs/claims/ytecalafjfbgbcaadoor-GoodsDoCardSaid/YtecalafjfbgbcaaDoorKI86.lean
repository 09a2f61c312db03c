/- The law on goods: GoodsSlots. -/
import Derived.Test.YtecalafjfbgbcaaDoorKI81
namespace Go.Proofs.YtecalafjfbgbcaaDoor
open Go Go.RowKit Sm
attribute [local go_sem] Oper.semAt_some

def evens (k : Nat) : List St := (List.range k).map fun i => (⟨2 * i, 1⟩ : St)
theorem evens_succ (k : Nat) : evens (k + 1) = evens k ++ [⟨2 * k, 1⟩] := by unfold evens; rw [List.range_succ, List.map_append]; rfl
theorem evens_len (k : Nat) : (evens k).length = k := by simp [evens]
theorem evens_w (k : Nat) (h : k ≤ 20) : GdW (evens k) := fun s hs => by
  obtain ⟨i, hi, rfl⟩ := List.mem_map.1 hs
  have := List.mem_range.1 hi
  show 2 * i < 65536
  omega
theorem evens_ok (k : Nat) (h : k ≤ 20) : GoodsOk (evens k) := by
  refine ⟨by rw [evens_len]; exact h, fun s hs => ?_, ?_⟩
  · obtain ⟨i, -, rfl⟩ := List.mem_map.1 hs
    exact ⟨(by show (1 : Int) ≤ 1; decide), (by show (1 : Int) ≤ 1152921504606846976; decide)⟩
  · unfold Sorted
    rw [List.pairwise_iff_getElem]
    intro i j hi hj hij
    simp [evens]
    omega
theorem evens_count (k i : Nat) : countG (evens k) i = if i % 2 = 0 ∧ i < 2 * k then 1 else 0 := by
  induction k with
  | zero => rw [if_neg (by omega)]; rfl
  | succ k ih =>
    have happ : ∀ (a b : List St), countG (a ++ b) i = if (a.any fun s => decide (s.item = i)) = true then countG a i else countG b i := by
      intro a b
      induction a with
      | nil => rfl
      | cons x r ihr =>
        rw [List.cons_append, count_cons, ihr, List.any_cons, count_cons]
        by_cases hx : x.item = i
        · rw [if_pos hx, if_pos hx, if_pos (by simp [hx])]
        · rw [if_neg hx, if_neg hx]
          simp [hx]
    rw [evens_succ, happ, ih]
    have hany : ((evens k).any fun s => decide (s.item = i)) = true ↔ i % 2 = 0 ∧ i < 2 * k := by
      rw [List.any_eq_true]
      constructor
      · rintro ⟨s, hs, he⟩
        obtain ⟨j, hj, rfl⟩ := List.mem_map.1 hs
        have := List.mem_range.1 hj
        have he : 2 * j = i := by simpa using he
        omega
      · rintro ⟨h1, h2⟩
        exact ⟨⟨2 * (i / 2), 1⟩, List.mem_map.2 ⟨i / 2, List.mem_range.2 (by omega), rfl⟩, by simp; omega⟩
    by_cases h : i % 2 = 0 ∧ i < 2 * k
    · rw [if_pos (hany.2 h), if_pos h, if_pos (by omega)]
    · rw [if_neg (fun hh => h (hany.1 hh)), count_cons]
      by_cases h2 : 2 * k = i
      · rw [if_pos (by dsimp only; exact h2), if_pos (by omega)]
      · rw [if_neg (by dsimp only; exact h2), if_neg (by omega)]; rfl
/-- Whether five more of an item go in. -/
theorem slots_facts (n i : Nat) (hn : n ≤ 20) :
    ((i % 2 = 0 ∧ i < 2 * n) ∧ (giveG (evens n) ⟨i, 5⟩).2 = 0 ∧ countG (giveG (evens n) ⟨i, 5⟩).1 i = 6 ∧ countG (evens n) i = 1) ∨
    (¬ (i % 2 = 0 ∧ i < 2 * n) ∧ n < 20 ∧ (giveG (evens n) ⟨i, 5⟩).2 = 0 ∧ countG (giveG (evens n) ⟨i, 5⟩).1 i = 5 ∧ countG (evens n) i = 0) ∨
    (¬ (i % 2 = 0 ∧ i < 2 * n) ∧ n = 20 ∧ (giveG (evens n) ⟨i, 5⟩).2 = 121) := by
  have hr := (rightG_iff _).2 (evens_ok n hn)
  have h5 : amt1 5 = true := rfl
  have hc := evens_count n i
  by_cases h : i % 2 = 0 ∧ i < 2 * n
  · rw [if_pos h] at hc
    have hg := giveG_of (evens n) ⟨i, 5⟩ hr h5 (by dsimp only; rw [hc]; decide) (by dsimp only; rw [hc]; exact fun hh => absurd hh.1 (by decide))
    have h0 : (giveG (evens n) ⟨i, 5⟩).2 = 0 := by rw [hg]
    have hk := give_keeps _ _ h0
    refine .inl ⟨h, h0, ?_, hc⟩
    have := hk.cnt
    dsimp only at this
    rw [this, hc]; rfl
  · rw [if_neg h] at hc
    refine .inr ?_
    by_cases h20 : n = 20
    · refine .inr ⟨h, h20, ?_⟩
      unfold giveG
      rw [if_pos (by rw [hr]; rfl), if_pos (by dsimp only; rw [hc]; decide), if_pos ⟨hc, by rw [evens_len]; exact h20⟩]
    · have hg := giveG_of (evens n) ⟨i, 5⟩ hr h5 (by dsimp only; rw [hc]; decide) (by dsimp only; rw [evens_len]; exact fun hh => h20 hh.2)
      have h0 : (giveG (evens n) ⟨i, 5⟩).2 = 0 := by rw [hg]
      have hk := give_keeps _ _ h0
      refine .inl ⟨h, by omega, h0, ?_, hc⟩
      have := hk.cnt
      dsimp only at this
      rw [this, hc]; rfl

set_option maxRecDepth 20000 in
set_option maxHeartbeats 4000000 in
theorem goodsSlots_any (n : Int) (item : Nat) (_ : I64 n) (hi : item < 65536) (w : World) (hS : MSent w) : Calls Tryd.prog 7 #[.int .i64 n, .int .u16 item] w fun e w' => e = .returned (.bool true) ∧ Below w.heap.size w w' := by
  have HSm : Veil (∀ W, Below w.heap.size w W → MSent W) := ⟨fun W hb => hS.below hb⟩
  by_cases h0 : n < 0
  · go_enter Tryd.func7, Tryd.ntmps7
    go_wp2_with (go_at_call 9; refine (shown12_any _ (HSm.out _ (Below.refl _ _))).mono ?_; rintro e w1 ⟨rfl, hb1⟩)
    go_ret
    exact ⟨rfl, hb1⟩
  by_cases h20 : 20 < n
  · go_enter Tryd.func7, Tryd.ntmps7
    go_wp2_with (go_at_call 9; refine (shown12_any _ (HSm.out _ (Below.refl _ _))).mono ?_; rintro e w1 ⟨rfl, hb1⟩)
    go_ret
    exact ⟨rfl, hb1⟩
  by_cases h40 : 40 < item
  · go_enter Tryd.func7, Tryd.ntmps7
    go_wp2_with (go_at_call 9; refine (shown12_any _ (HSm.out _ (Below.refl _ _))).mono ?_; rintro e w1 ⟨rfl, hb1⟩)
    go_ret
    exact ⟨rfl, hb1⟩
  obtain ⟨m, rfl⟩ : ∃ m : Nat, n = m := ⟨n.toNat, by omega⟩
  have hm : m ≤ 20 := by omega
  have hil : item ≤ 40 := by omega
  have PG : Veil (GiveAt w 11 (evens m) ⟨item, 5⟩ (giveG (evens m) ⟨item, 5⟩).1 (giveG (evens m) ⟨item, 5⟩).2) := ⟨fun p cp W h hb => gdgive_any _ cp ⟨item, 5⟩ h (by rw [evens_len]; omega) hi (by show I64 5; unfold I64; decide) (evens_w m hm) (hS.below hb)⟩
  have C1 : Veil (CountAt 19 (giveG (evens m) ⟨item, 5⟩).1 item (countG (giveG (evens m) ⟨item, 5⟩).1 item)) := ⟨fun p cp W h => gdcount_any _ cp item hi h.els (by have := (sizes_ok (evens m) ⟨item, 5⟩).1; omega) (giveG_w (evens_w m hm) hi)⟩
  have C2 : Veil (CountAt 19 (evens m) item (countG (evens m) item)) := ⟨fun p cp W h => gdcount_any _ cp item hi h.els (by rw [evens_len]; omega) (evens_w m hm)⟩
  have F := slots_facts m item hm
  generalize giveG (evens m) ⟨item, 5⟩ = x at PG C1 F
  obtain ⟨A, e0⟩ := x
  dsimp only at PG C1 F
  generalize countG A item = ca at C1 F
  generalize countG (evens m) item = cl at C2 F
  unfold GiveAt St.v at PG
  unfold CountAt at C1 C2
  rw [evens_len] at PG C2
  dsimp only at PG
  have HF : Veil _ := ⟨F⟩
  clear F h0 h20 h40 hi hS
  go_enter Tryd.func7, Tryd.ntmps7
  go_wp2_with (go_at_call 9; refine (shown12_any _ (HSm.out _ (Below.refl _ _))).mono ?_; rintro e w1 ⟨rfl, hb1⟩)
  have HB1 : Veil _ := ⟨hb1⟩
  clear hb1
  go_loopw [6, 7] (fun v i wr => ∃ k : Nat, k ≤ m ∧ i = .int .i64 k ∧ Veil (OwnE elS wr w1.heap.size v (evens k) ∧ Below w1.heap.size w1 wr)) (fun _ i _ => m - (intOf i).toNat)
  case atStart => exact ⟨0, Nat.zero_le _, rfl, ⟨OwnE.nil _ _ _, Below.refl _ _⟩⟩
  case round =>
    obtain ⟨k, hk, rfl, hJ⟩ := hrel
    by_cases hlt : k < m
    · have hw : IntKind.u16.wrap (2 * (k : Int)) = 2 * k := by simp [IntKind.wrap, IntKind.bits, IntKind.signed]; omega
      have HL : Veil ((evens k).length = k) := ⟨evens_len k⟩
      have HS : Veil _ := ⟨evens_succ k⟩
      go_wp2_with (at_builtin; refine wpList_append_el elS rfl _ _ rfl w1.heap.size _ (evens k) ⟨2 * k, 1⟩ rfl (hJ.out.1.below (below_al (Below.refl _ _) _)) _ rfl (heap_alloc_new _ _) (by have := HL.out; omega) (Nat.le_trans hJ.out.2.size (by simp)) ?_; intro v9 w9 hown hgrow hfrom; have HB9 : Veil (Below w1.heap.size w1 w9) := ⟨ownE_grown (below_al hJ.out.2 _) (Nat.le_refl _) (hJ.out.1.below (below_al (Below.refl _ _) _)) hgrow⟩; have HO9 : Veil _ := ⟨hown⟩; clear hown hgrow hfrom)
      refine ⟨⟨k + 1, by omega, by go_num, ⟨by rw [HS.out]; exact HO9.out, HB9.out⟩⟩, ?_⟩
      simp only [intOf]; omega
    · obtain rfl : k = m := by omega
      obtain ⟨hown, hB⟩ := hJ.out
      obtain ⟨p, c, rfl, hE, -⟩ := (hown.fresh (Nat.le_refl _)).formI
      rw [evens_len]
      have HE : Veil _ := ⟨hE⟩
      have hT := bc_then HB1.out hB
      clear hown hE hB hJ
      rcases HF.out with ⟨⟨f1, f2⟩, f3, f4, f5⟩ | ⟨f1, f2, f3, f4, f5⟩ | ⟨f1, f2, f3⟩
      · subst f3 f4 f5
        have g1 : (item : Int) % 2 = 0 := by omega
        have g2 : (item : Int) < 2 * k := by omega
        clear HF f1 f2
        go_wp2_with (first
          | (go_at_call 19; (with_reducible refine (C2.out _ _ _ HE.out).mono ?_); rintro e w4 ⟨rfl, hb4⟩; have hT := bc_then hT hb4)
          | (go_at_call 19; (with_reducible refine (C1.out _ _ _ HA.out).mono ?_); rintro e w3 ⟨rfl, hb3⟩; have hT := bc_then hT hb3; have HE : Veil _ := ⟨HE.out.below hb3⟩)
          | (go_at_call 11; (with_reducible refine (PG.out _ _ _ HE.out hT).mono ?_); rintro e w2 ⟨v2, rfl, hF, hb2⟩; have hT := bc_then hT hb2; have HE : Veil _ := ⟨HE.out.below hb2⟩; obtain ⟨p2, c2, rfl, hE2, -⟩ := hF.formI; have HA : Veil _ := ⟨hE2⟩; clear hE2 hF))
        go_ret
        first
            | exact ⟨rfl, hT⟩
            | exact ⟨ret_boolG (by simp; omega), hT⟩
      · subst f3 f4 f5
        have f1' : (item : Int) % 2 = 1 ∨ (item : Int) % 2 = 0 ∧ ¬ (item : Int) < 2 * k := by omega
        clear HF f1
        rcases f1' with g1 | ⟨g1, g2⟩
        all_goals
          go_wp2_with (first
            | (go_at_call 19; (with_reducible refine (C2.out _ _ _ HE.out).mono ?_); rintro e w4 ⟨rfl, hb4⟩; have hT := bc_then hT hb4)
            | (go_at_call 19; (with_reducible refine (C1.out _ _ _ HA.out).mono ?_); rintro e w3 ⟨rfl, hb3⟩; have hT := bc_then hT hb3; have HE : Veil _ := ⟨HE.out.below hb3⟩)
            | (go_at_call 11; (with_reducible refine (PG.out _ _ _ HE.out hT).mono ?_); rintro e w2 ⟨v2, rfl, hF, hb2⟩; have hT := bc_then hT hb2; have HE : Veil _ := ⟨HE.out.below hb2⟩; obtain ⟨p2, c2, rfl, hE2, -⟩ := hF.formI; have HA : Veil _ := ⟨hE2⟩; clear hE2 hF))
          go_ret
          first
            | exact ⟨rfl, hT⟩
            | exact ⟨ret_boolG (by simp; omega), hT⟩
      · subst f3
        have f1' : (item : Int) % 2 = 1 ∨ (item : Int) % 2 = 0 ∧ ¬ (item : Int) < 2 * k := by omega
        have f4 : ¬ (k : Int) < 20 := by omega
        clear HF f1 f2
        rcases f1' with g1 | ⟨g1, g2⟩
        all_goals
          go_wp2_with (go_at_call 11; (with_reducible refine (PG.out _ _ _ HE.out hT).mono ?_); rintro e w2 ⟨v2, rfl, hF, hb2⟩; have hT := bc_then hT hb2; obtain ⟨p2, c2, rfl, hE2, -⟩ := hF.formI; clear hE2 hF)
          go_ret
          first
            | exact ⟨rfl, hT⟩
            | exact ⟨ret_boolG (by simp; omega), hT⟩
end Go.Proofs.YtecalafjfbgbcaaDoor
