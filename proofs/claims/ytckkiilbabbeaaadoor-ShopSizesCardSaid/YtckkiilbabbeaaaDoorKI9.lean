/- Goods: the program's Right, Give, Take, Move. -/
import Derived.Test.YtckkiilbabbeaaaDoorKI93
import Derived.Test.YtckkiilbabbeaaaDoorKI95
import Derived.Test.YtckkiilbabbeaaaDoorKZ1
namespace Go.Proofs.YtckkiilbabbeaaaDoor
open Go Go.RowKit Sm
attribute [local go_sem] Oper.semAt_some

theorem GoodsPost.base {w w1 w2 : World} {L : List St} {v : Value} (hF : FreshE elS w1.heap.size w2 v L) (h : Below w.heap.size w w1) (hb : Below w1.heap.size w1 w2) : FreshE elS w.heap.size w2 v L ∧ Below w.heap.size w w2 := ⟨hF.base h.size, bc_then h hb⟩
theorem own_row1 (W : World) (n : Int) : OwnE elL (W.alloc (.cells #[.int .i64 n] 2)) W.heap.size (.slice (some ⟨W.heap.size, 0, none⟩) 1 1) [n] :=
  ⟨rfl, .inr ⟨W.heap.size, 1, _, rfl, Nat.le_refl _, heap_alloc_new _ _, Nat.le_refl _, by decide +kernel, by rfl, rfl⟩⟩

theorem gdright_any {w : World} {p : Option Addr} (l : List St) (c : Nat) (h : InL elS w p l c) (hl : l.length ≤ 1000) (hw : GdW l) :
    Calls Tryd.prog 31 #[.slice p l.length c] w fun e w' => e = .returned (.bool (rightG l)) ∧ Below w.heap.size w w' := by
  have HC : Veil _ := ⟨gdrightc_any (w := w) (p := p) l c [] (.slice none 0 0) w.heap.size (Nat.le_refl _) h.els (els_old h.els) hl hw (OwnE.nil _ _ _) (by decide)⟩
  rw [rightC_eq, List.all_nil, Bool.and_true] at HC
  generalize rightG l = r at HC ⊢
  go_enter Tryd.func31, Tryd.ntmps31
  go_wp2_with (go_at_call 46; refine HC.out.mono ?_; rintro e w1 ⟨rfl, hb1⟩)
  go_ret
  exact ⟨rfl, hb1⟩
theorem gdmore_any (a b : Int) (ha : I64 a) (hb : I64 b) (w : World) (hS : MSent w) :
    Calls Tryd.prog 52 #[.int .i64 a, .int .i64 b] w fun e w' => e = .returned (.tuple #[.int .i64 (addA a b).1, .int .i64 (addA a b).2]) ∧ Below w.heap.size w w' := by
  have HC : Veil _ := ⟨moadd_any a b ha hb w hS⟩
  generalize addA a b = r at HC ⊢
  go_enter Tryd.func52, Tryd.ntmps52
  go_wp2_with (go_at_call 66; refine HC.out.mono ?_; rintro e w1 ⟨rfl, hb1⟩)
  go_ret2
  exact ⟨rfl, hb1⟩
def lessG (a b : Int) : Int × Int := if (subA a b).2 = 0 then ((subA a b).1, 0) else (0, 122)
theorem gdless_any (a b : Int) (ha : I64 a) (hb : I64 b) (w : World) (hS : MSent w) :
    Calls Tryd.prog 48 #[.int .i64 a, .int .i64 b] w fun e w' => e = .returned (.tuple #[.int .i64 (lessG a b).1, .int .i64 (lessG a b).2]) ∧ Below w.heap.size w w' := by
  have HC : Veil _ := ⟨mosub_any a b ha hb w hS⟩
  unfold lessG
  generalize subA a b = r at HC ⊢
  obtain ⟨x, e0⟩ := r
  dsimp only at *
  by_cases h0 : e0 = 0
  · subst h0
    rw [if_pos rfl]
    go_enter Tryd.func48, Tryd.ntmps48
    go_wp2_with (go_at_call 65; refine HC.out.mono ?_; rintro e w1 ⟨rfl, hb1⟩)
    go_ret2
    exact ⟨rfl, hb1⟩
  · rw [if_neg h0]
    go_enter Tryd.func48, Tryd.ntmps48
    go_wp2_with (go_at_call 65; refine HC.out.mono ?_; rintro e w1 ⟨rfl, hb1⟩)
    go_ret2
    exact ⟨rfl, hb1⟩

/-- What a change comes to. -/
def chG (l : List St) (s : St) (x ec : Int) : List St × Int := if rightG l && amt1 s.n then (if ec = 0 then (if (withG l ⟨s.item, x⟩).length ≤ 20 then (withG l ⟨s.item, x⟩, 0) else ([], 121)) else ([], ec)) else ([], 120)

set_option maxRecDepth 20000 in
set_option maxHeartbeats 2000000 in
theorem gdchanged_any {w : World} {p : Option Addr} (l : List St) (c : Nat) (s : St) (h : InL elS w p l c) (hl : l.length ≤ 1000) (hi : s.item < 65536) (hw : GdW l) (cf : FuncId) (heg : ∀ args w, (callFunc cf args).run Tryd.prog w = .ok (.enter cf args) w) (x ec : Int)
    (hwork : rightG l = true → amt1 s.n = true → ∀ W, Below w.heap.size w W → Calls Tryd.prog cf #[.int .i64 (countG l s.item), .int .i64 s.n] W fun e w' => e = .returned (.tuple #[.int .i64 x, .int .i64 ec]) ∧ Below W.heap.size W w') :
    Calls Tryd.prog 47 #[.slice p l.length c, s.v, .func (.func cf) #[] #[]] w (GoodsPost w (chG l s x ec).1 (chG l s x ec).2) := by
  obtain ⟨R, hR⟩ : ∃ R, chG l s x ec = R := ⟨_, rfl⟩
  have HR : Veil _ := ⟨hR⟩
  rw [hR]
  clear hR
  obtain ⟨L, rc⟩ := R
  obtain ⟨si, sn⟩ := s
  unfold St.v
  unfold chG at HR
  dsimp only at *
  obtain ⟨N, hN⟩ : ∃ N, countG l si = N := ⟨_, rfl⟩
  obtain ⟨W1, hW1⟩ : ∃ W1, w.alloc (.cells #[.int .u16 si, .int .i64 sn] 25) = W1 := ⟨_, rfl⟩
  have hW0 : Below w.heap.size w W1 := by rw [← hW1]; exact below_al (Below.refl _ _) _
  have hz1 : W1.heap.size = w.heap.size + 1 := by rw [← hW1]; simp
  have HS : Veil (∀ W, Below W1.heap.size W1 W → W.cell? ⟨w.heap.size, 0, none⟩ = some (.int .u16 si) ∧ W.cell? ⟨w.heap.size, 1, none⟩ = some (.int .i64 sn)) := ⟨fun W hb => by
    have h1 := packG (heap_alloc_new w (.cells #[.int .u16 si, .int .i64 sn] 25))
    rw [hW1] at h1
    exact ⟨(hb.cell (World.block_lt_of_cell? _ _ h1.1.1)).trans h1.1.1, (hb.cell (World.block_lt_of_cell? _ _ h1.1.2)).trans h1.1.2⟩⟩
  have HRt : Veil (∀ g, g = W1.heap.size → Calls Tryd.prog 46 #[.slice p l.length c, .slice (some ⟨g, 0, none⟩) 1 1] (W1.alloc (.cells #[.int .i64 sn] 2)) fun e w' => e = .returned (.bool (rightG l && amt1 sn)) ∧ Below W1.heap.size W1 w') := ⟨fun g hg => by
    subst hg
    have hE := (h.els.below hW0).below (below_al (Below.refl _ _) (.cells #[.int .i64 sn] 2))
    have := gdrightc_any (w := W1.alloc (.cells #[.int .i64 sn] 2)) (p := p) l c [sn] (.slice (some ⟨W1.heap.size, 0, none⟩) 1 1) W1.heap.size (by simp) hE (fun hL a ha => Nat.lt_of_lt_of_le (els_old h.els hL a ha) hW0.size) hl hw (own_row1 W1 sn) (by simp)
    rw [rightC_eq] at this
    refine this.mono ?_
    rintro e w' ⟨h1, h2⟩
    refine ⟨by rw [h1]; simp, (below_al (Below.refl _ _) _).trans h2⟩⟩
  have HCt : Veil (∀ W, Below W1.heap.size W1 W → Calls Tryd.prog 63 #[.slice p l.length c, .int .u16 si] W fun e w' => e = .returned (.int .i64 N) ∧ Below W.heap.size W w') := ⟨fun W hb => by rw [← hN]; exact gdcount_any l c si hi (h.els.below (bc_then hW0 hb)) hl hw⟩
  have HST : Veil (∀ W, rightG l = true → Below W1.heap.size W1 W → Calls Tryd.prog 64 #[.slice p l.length c, .agg #[.int .u16 si, .int .i64 x]] W fun e w' => ∃ v, e = .returned v ∧ FreshE elS w.heap.size w' v (withG l ⟨si, x⟩) ∧ Below W.heap.size W w') := ⟨fun W hr hb => by
    refine (gdstacked_any l c ⟨si, x⟩ (h.below (bc_then hW0 hb)) hl hi hw).mono ?_
    rintro e w' ⟨v, h1, h2, h3⟩
    rw [stackedG_eq l _ ((rightG_iff l).1 hr).srt] at h2
    exact ⟨v, h1, h2.fresh (bc_then hW0 hb).size, h3⟩⟩
  by_cases hr : rightG l = true ∧ amt1 sn = true
  · have hwk := hwork hr.1 hr.2
    rw [hN] at hwk
    have HWk : Veil (∀ W, Below W1.heap.size W1 W → Calls Tryd.prog cf #[.int .i64 N, .int .i64 sn] W fun e w' => e = .returned (.tuple #[.int .i64 x, .int .i64 ec]) ∧ Below W.heap.size W w') := ⟨fun W hb => hwk W (bc_then hW0 hb)⟩
    have HST := HST.out
    have HST : Veil _ := ⟨fun W hb => HST W hr.1 hb⟩
    rw [hr.1, hr.2, Bool.and_true, if_pos rfl] at HR
    rw [hr.1, hr.2, Bool.and_true] at HRt
    have HB0 : Veil _ := ⟨hW0⟩
    clear hwork hwk h hw hN hr hW0
    by_cases h0 : ec = 0
    · subst h0
      rw [if_pos rfl] at HR
      revert HST HR
      generalize withG l ⟨si, x⟩ = th
      intro HST HR
      by_cases hm : th.length ≤ 20
      · rw [if_pos hm] at HR
        have hx : th = L ∧ (0 : Int) = rc := by have := HR.out; simpa using this
        obtain ⟨rfl, rfl⟩ := hx
        clear HR
        obtain ⟨d0, d1⟩ := HS.out _ (Below.refl _ _)
        go_enter Tryd.func47, Tryd.ntmps47
        go_wp2_with (first
          | (go_at_call 46; refine (HRt.out _ hz1.symm).mono ?_; rintro e w3 ⟨rfl, hb3⟩; have HB3 : Veil _ := ⟨hb3⟩; clear hb3))
        refine region_new [.is (.func (.func cf) #[] #[]), .is (.slice p l.length c), .is (.pointer (some ⟨w.heap.size, 0, none⟩)), .is (.int .u16 si), .is (.int .i64 N), .is (.pointer (some ⟨w.heap.size, 1, none⟩)), .is (.int .i64 sn), .is (.tuple #[.int .i64 x, .int .i64 0]), .is (.tuple #[.int .i64 x, .int .i64 0]), .is (.int .i64 x), .is (.int .i64 0), .is (.int .i64 x), .is (.int .i64 0)]
          [[], [], [], [(2, 20)], [(1, 19), (3, 21)], [], [(5, 23)], [(0, 18), (4, 22), (6, 24)], [(7, 25)], [(8, 17)], [(8, 17)], [(9, 26)], [(10, 27)]]
          [[], [], [], [2], [1, 3], [], [5], [0, 4, 6], [7], [8], [8], [0, 1, 2, 3, 4, 5, 6, 7, 8, 9], [0, 1, 2, 3, 4, 5, 6, 7, 8, 9, 10, 11]]
          [(0, 18), (1, 19), (2, 20), (3, 21), (4, 22), (5, 23), (6, 24), (7, 25), (8, 17), (9, 26), (10, 27), (11, 8), (12, 9)] rfl (by kernel_rfl) ⟨?_, ?_, ?_, ?_, ?_, ?_, ?_, ?_, ?_, ?_, ?_, ?_, ?_, trivial⟩ ?_
        · intro vals W hB _
          dsimp only [putsL, slotOf]
          go_wp2
          exact ⟨rfl, Below.refl _ _, rfl⟩
        · intro vals W hB _
          dsimp only [putsL, slotOf]
          go_wp2
          exact ⟨rfl, Below.refl _ _, rfl⟩
        · intro vals W hB _
          dsimp only [putsL, slotOf]
          go_wp2
          exact ⟨rfl, Below.refl _ _, rfl⟩
        · intro vals W hB ⟨h2, _⟩
          have h2 : vals 2 = _ := h2
          obtain ⟨d0, d1⟩ := HS.out _ (bc_then HB3.out hB)
          dsimp only [putsL, slotOf]
          rw [h2]
          go_wp2
          exact ⟨rfl, Below.refl _ _, rfl⟩
        · intro vals W hB ⟨h1, h3, _⟩
          have h1 : vals 1 = _ := h1
          have h3 : vals 3 = _ := h3
          dsimp only [putsL, slotOf]
          rw [h1, h3]
          go_wp2_with ((go_at_call 63; refine (HCt.out _ (bc_then HB3.out hB)).mono ?_; rintro e w4 ⟨rfl, hb4⟩))
          exact ⟨rfl, hb4, rfl⟩
        · intro vals W hB _
          dsimp only [putsL, slotOf]
          go_wp2
          exact ⟨rfl, Below.refl _ _, rfl⟩
        · intro vals W hB ⟨h5, _⟩
          have h5 : vals 5 = _ := h5
          obtain ⟨d0, d1⟩ := HS.out _ (bc_then HB3.out hB)
          dsimp only [putsL, slotOf]
          rw [h5]
          go_wp2
          exact ⟨rfl, Below.refl _ _, rfl⟩
        · intro vals W hB ⟨h0, h4, h6, _⟩
          have h0 : vals 0 = _ := h0
          have h4 : vals 4 = _ := h4
          have h6 : vals 6 = _ := h6
          dsimp only [putsL, slotOf]
          rw [h0, h4, h6]
          go_wp2_with ((refine (HWk.out _ (bc_then HB3.out hB)).mono ?_; rintro e w4 ⟨rfl, hb4⟩))
          exact ⟨rfl, hb4, rfl⟩
        · intro vals W hB ⟨h7, _⟩
          have h7 : vals 7 = _ := h7
          dsimp only [putsL, slotOf]
          rw [h7]
          go_wp2
          exact ⟨rfl, Below.refl _ _, rfl⟩
        · intro vals W hB ⟨h8, _⟩
          have h8 : vals 8 = _ := h8
          dsimp only [putsL, slotOf]
          rw [h8]
          go_wp2
          exact ⟨rfl, Below.refl _ _, rfl⟩
        · intro vals W hB ⟨h8, _⟩
          have h8 : vals 8 = _ := h8
          dsimp only [putsL, slotOf]
          rw [h8]
          go_wp2
          exact ⟨rfl, Below.refl _ _, rfl⟩
        · intro vals W hB ⟨h0, h1, h2, h3, h4, h5, h6, h7, h8, h9, _⟩
          have h9 : vals 9 = _ := h9
          dsimp only [putsL, slotOf]
          rw [h9]
          go_wp2
          exact ⟨rfl, Below.refl _ _, rfl⟩
        · intro vals W hB ⟨h0, h1, h2, h3, h4, h5, h6, h7, h8, h9, h10, h11, _⟩
          have h10 : vals 10 = _ := h10
          dsimp only [putsL, slotOf]
          rw [h10]
          go_wp2
          exact ⟨rfl, Below.refl _ _, rfl⟩
        rintro vals W hB ⟨q0, q1, q2, q3, q4, q5, q6, q7, q8, q9, q10, q11, q12, -⟩
        have h0 : vals 0 = _ := q0
        have h1 : vals 1 = _ := q1
        have h2 : vals 2 = _ := q2
        have h3 : vals 3 = _ := q3
        have h4 : vals 4 = _ := q4
        have h5 : vals 5 = _ := q5
        have h6 : vals 6 = _ := q6
        have h7 : vals 7 = _ := q7
        have h8 : vals 8 = _ := q8
        have h9 : vals 9 = _ := q9
        have h10 : vals 10 = _ := q10
        have h11 : vals 11 = _ := q11
        have h12 : vals 12 = _ := q12
        dsimp only [putsL]
        rw [h0, h1, h2, h3, h4, h5, h6, h7, h8, h9, h10, h11, h12]
        clear h0 q0 h1 q1 h2 q2 h3 q3 h4 q4 h5 q5 h6 q6 h7 q7 h8 q8 h9 q9 h10 q10 h11 q11 h12 q12
        simp only [List.length_cons, List.length_nil, Nat.reduceAdd, List.drop_succ_cons, List.drop_zero, List.setIfInBounds_toArray, List.set_cons_succ, List.set_cons_zero]
        have HBx : Veil _ := ⟨bc_then HB3.out hB⟩
        obtain ⟨d0, d1⟩ := HS.out _ HBx.out
        clear hB
        go_wp2_with (go_at_call 64; refine (HST.out _ HBx.out).mono ?_; rintro e w6 ⟨v6, rfl, hF6, hb6⟩; obtain ⟨p6, c6, rfl, -⟩ := hF6.form; have HF : Veil _ := ⟨hF6⟩; clear hF6)
        go_ret2
        exact ⟨_, rfl, HF.out, bc_then HB0.out (bc_then HBx.out hb6)⟩
      · rw [if_neg hm] at HR
        have hx : [] = L ∧ (121 : Int) = rc := by have := HR.out; simpa using this
        obtain ⟨rfl, rfl⟩ := hx
        clear HR
        obtain ⟨d0, d1⟩ := HS.out _ (Below.refl _ _)
        go_enter Tryd.func47, Tryd.ntmps47
        go_wp2_with (first
          | (go_at_call 46; refine (HRt.out _ hz1.symm).mono ?_; rintro e w3 ⟨rfl, hb3⟩; have HB3 : Veil _ := ⟨hb3⟩; clear hb3))
        refine region_new [.is (.func (.func cf) #[] #[]), .is (.slice p l.length c), .is (.pointer (some ⟨w.heap.size, 0, none⟩)), .is (.int .u16 si), .is (.int .i64 N), .is (.pointer (some ⟨w.heap.size, 1, none⟩)), .is (.int .i64 sn), .is (.tuple #[.int .i64 x, .int .i64 0]), .is (.tuple #[.int .i64 x, .int .i64 0]), .is (.int .i64 x), .is (.int .i64 0), .is (.int .i64 x), .is (.int .i64 0)]
          [[], [], [], [(2, 20)], [(1, 19), (3, 21)], [], [(5, 23)], [(0, 18), (4, 22), (6, 24)], [(7, 25)], [(8, 17)], [(8, 17)], [(9, 26)], [(10, 27)]]
          [[], [], [], [2], [1, 3], [], [5], [0, 4, 6], [7], [8], [8], [0, 1, 2, 3, 4, 5, 6, 7, 8, 9], [0, 1, 2, 3, 4, 5, 6, 7, 8, 9, 10, 11]]
          [(0, 18), (1, 19), (2, 20), (3, 21), (4, 22), (5, 23), (6, 24), (7, 25), (8, 17), (9, 26), (10, 27), (11, 8), (12, 9)] rfl (by kernel_rfl) ⟨?_, ?_, ?_, ?_, ?_, ?_, ?_, ?_, ?_, ?_, ?_, ?_, ?_, trivial⟩ ?_
        · intro vals W hB _
          dsimp only [putsL, slotOf]
          go_wp2
          exact ⟨rfl, Below.refl _ _, rfl⟩
        · intro vals W hB _
          dsimp only [putsL, slotOf]
          go_wp2
          exact ⟨rfl, Below.refl _ _, rfl⟩
        · intro vals W hB _
          dsimp only [putsL, slotOf]
          go_wp2
          exact ⟨rfl, Below.refl _ _, rfl⟩
        · intro vals W hB ⟨h2, _⟩
          have h2 : vals 2 = _ := h2
          obtain ⟨d0, d1⟩ := HS.out _ (bc_then HB3.out hB)
          dsimp only [putsL, slotOf]
          rw [h2]
          go_wp2
          exact ⟨rfl, Below.refl _ _, rfl⟩
        · intro vals W hB ⟨h1, h3, _⟩
          have h1 : vals 1 = _ := h1
          have h3 : vals 3 = _ := h3
          dsimp only [putsL, slotOf]
          rw [h1, h3]
          go_wp2_with ((go_at_call 63; refine (HCt.out _ (bc_then HB3.out hB)).mono ?_; rintro e w4 ⟨rfl, hb4⟩))
          exact ⟨rfl, hb4, rfl⟩
        · intro vals W hB _
          dsimp only [putsL, slotOf]
          go_wp2
          exact ⟨rfl, Below.refl _ _, rfl⟩
        · intro vals W hB ⟨h5, _⟩
          have h5 : vals 5 = _ := h5
          obtain ⟨d0, d1⟩ := HS.out _ (bc_then HB3.out hB)
          dsimp only [putsL, slotOf]
          rw [h5]
          go_wp2
          exact ⟨rfl, Below.refl _ _, rfl⟩
        · intro vals W hB ⟨h0, h4, h6, _⟩
          have h0 : vals 0 = _ := h0
          have h4 : vals 4 = _ := h4
          have h6 : vals 6 = _ := h6
          dsimp only [putsL, slotOf]
          rw [h0, h4, h6]
          go_wp2_with ((refine (HWk.out _ (bc_then HB3.out hB)).mono ?_; rintro e w4 ⟨rfl, hb4⟩))
          exact ⟨rfl, hb4, rfl⟩
        · intro vals W hB ⟨h7, _⟩
          have h7 : vals 7 = _ := h7
          dsimp only [putsL, slotOf]
          rw [h7]
          go_wp2
          exact ⟨rfl, Below.refl _ _, rfl⟩
        · intro vals W hB ⟨h8, _⟩
          have h8 : vals 8 = _ := h8
          dsimp only [putsL, slotOf]
          rw [h8]
          go_wp2
          exact ⟨rfl, Below.refl _ _, rfl⟩
        · intro vals W hB ⟨h8, _⟩
          have h8 : vals 8 = _ := h8
          dsimp only [putsL, slotOf]
          rw [h8]
          go_wp2
          exact ⟨rfl, Below.refl _ _, rfl⟩
        · intro vals W hB ⟨h0, h1, h2, h3, h4, h5, h6, h7, h8, h9, _⟩
          have h9 : vals 9 = _ := h9
          dsimp only [putsL, slotOf]
          rw [h9]
          go_wp2
          exact ⟨rfl, Below.refl _ _, rfl⟩
        · intro vals W hB ⟨h0, h1, h2, h3, h4, h5, h6, h7, h8, h9, h10, h11, _⟩
          have h10 : vals 10 = _ := h10
          dsimp only [putsL, slotOf]
          rw [h10]
          go_wp2
          exact ⟨rfl, Below.refl _ _, rfl⟩
        rintro vals W hB ⟨q0, q1, q2, q3, q4, q5, q6, q7, q8, q9, q10, q11, q12, -⟩
        have h0 : vals 0 = _ := q0
        have h1 : vals 1 = _ := q1
        have h2 : vals 2 = _ := q2
        have h3 : vals 3 = _ := q3
        have h4 : vals 4 = _ := q4
        have h5 : vals 5 = _ := q5
        have h6 : vals 6 = _ := q6
        have h7 : vals 7 = _ := q7
        have h8 : vals 8 = _ := q8
        have h9 : vals 9 = _ := q9
        have h10 : vals 10 = _ := q10
        have h11 : vals 11 = _ := q11
        have h12 : vals 12 = _ := q12
        dsimp only [putsL]
        rw [h0, h1, h2, h3, h4, h5, h6, h7, h8, h9, h10, h11, h12]
        clear h0 q0 h1 q1 h2 q2 h3 q3 h4 q4 h5 q5 h6 q6 h7 q7 h8 q8 h9 q9 h10 q10 h11 q11 h12 q12
        simp only [List.length_cons, List.length_nil, Nat.reduceAdd, List.drop_succ_cons, List.drop_zero, List.setIfInBounds_toArray, List.set_cons_succ, List.set_cons_zero]
        have HBx : Veil _ := ⟨bc_then HB3.out hB⟩
        obtain ⟨d0, d1⟩ := HS.out _ HBx.out
        clear hB
        go_wp2_with (go_at_call 64; refine (HST.out _ HBx.out).mono ?_; rintro e w6 ⟨v6, rfl, hF6, hb6⟩; obtain ⟨p6, c6, rfl, -⟩ := hF6.form; have HF : Veil _ := ⟨hF6⟩; clear hF6)
        go_ret2
        exact ⟨_, rfl, FreshE.nil _ _ _, bc_then HB0.out (bc_then HBx.out hb6)⟩
    · rw [if_neg h0] at HR
      have hx : [] = L ∧ ec = rc := by have := HR.out; simpa using this
      obtain ⟨rfl, rfl⟩ := hx
      clear HR HST
      obtain ⟨d0, d1⟩ := HS.out _ (Below.refl _ _)
      go_enter Tryd.func47, Tryd.ntmps47
      go_wp2_with (first
        | (go_at_call 46; refine (HRt.out _ hz1.symm).mono ?_; rintro e w3 ⟨rfl, hb3⟩; have HB3 : Veil _ := ⟨hb3⟩; clear hb3))
      refine region_new [.is (.func (.func cf) #[] #[]), .is (.slice p l.length c), .is (.pointer (some ⟨w.heap.size, 0, none⟩)), .is (.int .u16 si), .is (.int .i64 N), .is (.pointer (some ⟨w.heap.size, 1, none⟩)), .is (.int .i64 sn), .is (.tuple #[.int .i64 x, .int .i64 ec]), .is (.tuple #[.int .i64 x, .int .i64 ec]), .is (.int .i64 x), .is (.int .i64 ec), .is (.int .i64 x), .is (.int .i64 ec)]
        [[], [], [], [(2, 20)], [(1, 19), (3, 21)], [], [(5, 23)], [(0, 18), (4, 22), (6, 24)], [(7, 25)], [(8, 17)], [(8, 17)], [(9, 26)], [(10, 27)]]
        [[], [], [], [2], [1, 3], [], [5], [0, 4, 6], [7], [8], [8], [0, 1, 2, 3, 4, 5, 6, 7, 8, 9], [0, 1, 2, 3, 4, 5, 6, 7, 8, 9, 10, 11]]
        [(0, 18), (1, 19), (2, 20), (3, 21), (4, 22), (5, 23), (6, 24), (7, 25), (8, 17), (9, 26), (10, 27), (11, 8), (12, 9)] rfl (by kernel_rfl) ⟨?_, ?_, ?_, ?_, ?_, ?_, ?_, ?_, ?_, ?_, ?_, ?_, ?_, trivial⟩ ?_
      · intro vals W hB _
        dsimp only [putsL, slotOf]
        go_wp2
        exact ⟨rfl, Below.refl _ _, rfl⟩
      · intro vals W hB _
        dsimp only [putsL, slotOf]
        go_wp2
        exact ⟨rfl, Below.refl _ _, rfl⟩
      · intro vals W hB _
        dsimp only [putsL, slotOf]
        go_wp2
        exact ⟨rfl, Below.refl _ _, rfl⟩
      · intro vals W hB ⟨h2, _⟩
        have h2 : vals 2 = _ := h2
        obtain ⟨d0, d1⟩ := HS.out _ (bc_then HB3.out hB)
        dsimp only [putsL, slotOf]
        rw [h2]
        go_wp2
        exact ⟨rfl, Below.refl _ _, rfl⟩
      · intro vals W hB ⟨h1, h3, _⟩
        have h1 : vals 1 = _ := h1
        have h3 : vals 3 = _ := h3
        dsimp only [putsL, slotOf]
        rw [h1, h3]
        go_wp2_with ((go_at_call 63; refine (HCt.out _ (bc_then HB3.out hB)).mono ?_; rintro e w4 ⟨rfl, hb4⟩))
        exact ⟨rfl, hb4, rfl⟩
      · intro vals W hB _
        dsimp only [putsL, slotOf]
        go_wp2
        exact ⟨rfl, Below.refl _ _, rfl⟩
      · intro vals W hB ⟨h5, _⟩
        have h5 : vals 5 = _ := h5
        obtain ⟨d0, d1⟩ := HS.out _ (bc_then HB3.out hB)
        dsimp only [putsL, slotOf]
        rw [h5]
        go_wp2
        exact ⟨rfl, Below.refl _ _, rfl⟩
      · intro vals W hB ⟨h0, h4, h6, _⟩
        have h0 : vals 0 = _ := h0
        have h4 : vals 4 = _ := h4
        have h6 : vals 6 = _ := h6
        dsimp only [putsL, slotOf]
        rw [h0, h4, h6]
        go_wp2_with ((refine (HWk.out _ (bc_then HB3.out hB)).mono ?_; rintro e w4 ⟨rfl, hb4⟩))
        exact ⟨rfl, hb4, rfl⟩
      · intro vals W hB ⟨h7, _⟩
        have h7 : vals 7 = _ := h7
        dsimp only [putsL, slotOf]
        rw [h7]
        go_wp2
        exact ⟨rfl, Below.refl _ _, rfl⟩
      · intro vals W hB ⟨h8, _⟩
        have h8 : vals 8 = _ := h8
        dsimp only [putsL, slotOf]
        rw [h8]
        go_wp2
        exact ⟨rfl, Below.refl _ _, rfl⟩
      · intro vals W hB ⟨h8, _⟩
        have h8 : vals 8 = _ := h8
        dsimp only [putsL, slotOf]
        rw [h8]
        go_wp2
        exact ⟨rfl, Below.refl _ _, rfl⟩
      · intro vals W hB ⟨h0, h1, h2, h3, h4, h5, h6, h7, h8, h9, _⟩
        have h9 : vals 9 = _ := h9
        dsimp only [putsL, slotOf]
        rw [h9]
        go_wp2
        exact ⟨rfl, Below.refl _ _, rfl⟩
      · intro vals W hB ⟨h0, h1, h2, h3, h4, h5, h6, h7, h8, h9, h10, h11, _⟩
        have h10 : vals 10 = _ := h10
        dsimp only [putsL, slotOf]
        rw [h10]
        go_wp2
        exact ⟨rfl, Below.refl _ _, rfl⟩
      rintro vals W hB ⟨q0, q1, q2, q3, q4, q5, q6, q7, q8, q9, q10, q11, q12, -⟩
      have h0 : vals 0 = _ := q0
      have h1 : vals 1 = _ := q1
      have h2 : vals 2 = _ := q2
      have h3 : vals 3 = _ := q3
      have h4 : vals 4 = _ := q4
      have h5 : vals 5 = _ := q5
      have h6 : vals 6 = _ := q6
      have h7 : vals 7 = _ := q7
      have h8 : vals 8 = _ := q8
      have h9 : vals 9 = _ := q9
      have h10 : vals 10 = _ := q10
      have h11 : vals 11 = _ := q11
      have h12 : vals 12 = _ := q12
      dsimp only [putsL]
      rw [h0, h1, h2, h3, h4, h5, h6, h7, h8, h9, h10, h11, h12]
      clear h0 q0 h1 q1 h2 q2 h3 q3 h4 q4 h5 q5 h6 q6 h7 q7 h8 q8 h9 q9 h10 q10 h11 q11 h12 q12
      simp only [List.length_cons, List.length_nil, Nat.reduceAdd, List.drop_succ_cons, List.drop_zero, List.setIfInBounds_toArray, List.set_cons_succ, List.set_cons_zero]
      have HBx : Veil _ := ⟨bc_then HB3.out hB⟩
      clear hB
      go_wp2
      go_ret2
      exact ⟨_, rfl, FreshE.nil _ _ _, bc_then HB0.out HBx.out⟩
  · have hrf : (rightG l && amt1 sn) = false := by
      cases h1 : rightG l with
      | false => rfl
      | true => cases h2 : amt1 sn with
        | false => rfl
        | true => exact absurd ⟨h1, h2⟩ hr
    rw [hrf, if_neg (by decide)] at HR
    rw [hrf] at HRt
    have hx : [] = L ∧ (120 : Int) = rc := by have := HR.out; simpa using this
    obtain ⟨rfl, rfl⟩ := hx
    have HB0 : Veil _ := ⟨hW0⟩
    clear hwork h hw hN hr hrf HST HR HCt hW0
    obtain ⟨d0, d1⟩ := HS.out _ (Below.refl _ _)
    go_enter Tryd.func47, Tryd.ntmps47
    go_wp2_with (first
      | (go_at_call 46; refine (HRt.out _ hz1.symm).mono ?_; rintro e w3 ⟨rfl, hb3⟩; have HB3 : Veil _ := ⟨hb3⟩; clear hb3))
    go_ret2
    exact ⟨_, rfl, FreshE.nil _ _ _, bc_then HB0.out HB3.out⟩

theorem giveG_ch (l : List St) (s : St) : chG l s (addA (countG l s.item) s.n).1 (addA (countG l s.item) s.n).2 = giveG l s := by
  unfold chG
  by_cases hr : rightG l = true ∧ amt1 s.n = true
  · obtain ⟨h1, h2⟩ := hr
    have hN := countG_le l s.item h1
    have hs := (amt1_iff _).1 h2
    have hok := (rightG_iff l).1 h1
    rw [h1, h2, Bool.and_true, if_pos rfl]
    have ha : (amt (countG l s.item) && amt s.n) = true := by rw [(amt_iff _).2 hN, (amt_iff s.n).2 (by omega)]; rfl
    unfold addA
    rw [ha, if_pos rfl]
    by_cases hle : countG l s.item + s.n ≤ 1152921504606846976
    · rw [(amt_iff (countG l s.item + s.n)).2 (by omega), if_pos rfl, if_pos rfl]
      by_cases hroom : countG l s.item = 0 ∧ l.length = 20
      · have e := withG_some l s.item (countG l s.item + s.n) (by omega) hok.srt
        have hlen : (lo l s.item).length + (hi l s.item).length = 20 := by
          rcases goods_parts l s.item hok with ⟨-, hp⟩ | ⟨hp, -⟩
          · rw [← List.length_append, ← hp]; exact hroom.2
          · omega
        rw [if_neg (by rw [e, List.length_append, List.length_cons]; omega)]
        unfold giveG
        rw [h1, h2, Bool.and_true, if_pos rfl, if_pos hle, if_pos hroom]
      · have hg := giveG_of l s h1 h2 hle hroom
        have hl := (sizes_ok l s).1
        rw [hg] at hl ⊢
        rw [if_pos hl]
    · have hf : amt (countG l s.item + s.n) = false := by
        cases h : amt (countG l s.item + s.n) with
        | false => rfl
        | true => have := (amt_iff _).1 h; omega
      rw [hf, if_neg (by simp)]
      unfold giveG
      rw [h1, h2, Bool.and_true, if_pos rfl, if_neg hle]
      rfl
  · have hrf : (rightG l && amt1 s.n) = false := by
      cases h1 : rightG l with
      | false => rfl
      | true => cases h2 : amt1 s.n with
        | false => rfl
        | true => exact absurd ⟨h1, h2⟩ hr
    unfold giveG
    rw [hrf, if_neg (by decide), if_neg (by decide)]
theorem takeG_ch (l : List St) (s : St) : chG l s (lessG (countG l s.item) s.n).1 (lessG (countG l s.item) s.n).2 = takeG l s := by
  unfold chG
  by_cases hr : rightG l = true ∧ amt1 s.n = true
  · obtain ⟨h1, h2⟩ := hr
    have hN := countG_le l s.item h1
    have hs := (amt1_iff _).1 h2
    rw [h1, h2, Bool.and_true, if_pos rfl]
    have ha : (amt (countG l s.item) && amt s.n) = true := by rw [(amt_iff _).2 hN, (amt_iff s.n).2 (by omega)]; rfl
    unfold lessG subA
    rw [ha, if_pos rfl]
    by_cases hle : s.n ≤ countG l s.item
    · rw [if_pos hle, if_pos rfl, if_pos rfl]
      have hg := takeG_of l s h1 h2 hle
      have hl := (sizes_ok l s).2
      rw [hg] at hl ⊢
      rw [if_pos hl]
    · rw [if_neg hle, if_neg (by decide), if_neg (by decide)]
      unfold takeG
      rw [h1, h2, Bool.and_true, if_pos rfl, if_neg hle]
  · have hrf : (rightG l && amt1 s.n) = false := by
      cases h1 : rightG l with
      | false => rfl
      | true => cases h2 : amt1 s.n with
        | false => rfl
        | true => exact absurd ⟨h1, h2⟩ hr
    unfold takeG
    rw [hrf, if_neg (by decide), if_neg (by decide)]
theorem i64_count (l : List St) (i : Nat) (h : rightG l = true) : I64 (countG l i) := by
  have := countG_le l i h
  unfold I64
  omega

set_option maxRecDepth 20000 in
set_option maxHeartbeats 1000000 in
theorem gdgive_any {w : World} {p : Option Addr} (l : List St) (c : Nat) (s : St) (h : InL elS w p l c) (hl : l.length ≤ 1000) (hi : s.item < 65536) (hs : I64 s.n) (hw : GdW l) (hS : MSent w) :
    Calls Tryd.prog 37 #[.slice p l.length c, s.v] w (GoodsPost w (giveG l s).1 (giveG l s).2) := by
  have HC : Veil (∀ W, Below w.heap.size w W → Calls Tryd.prog 47 #[.slice p l.length c, s.v, .func (.func 52) #[] #[]] W (GoodsPost W (giveG l s).1 (giveG l s).2)) := ⟨fun W hb => by
    rw [← giveG_ch]
    exact gdchanged_any l c s (h.below hb) hl hi hw _ (enters_of Tryd.func52 (by kernel_rfl) rfl) _ _ (fun hr _ V hV => gdmore_any _ _ (i64_count l s.item hr) hs V ((hS.below hb).below hV))⟩
  generalize giveG l s = r at HC ⊢
  obtain ⟨L, ec⟩ := r
  obtain ⟨si, sn⟩ := s
  unfold St.v at *
  dsimp only at *
  clear h
  go_enter Tryd.func37, Tryd.ntmps37
  go_wp2_with (go_at_call 47; refine (HC.out _ (below_al (Below.refl _ _) _)).mono ?_; rintro e w1 ⟨v, rfl, hF, hb1⟩)
  go_ret2
  exact ⟨_, rfl, hF.base (by simp), bc_then (below_al (Below.refl _ _) _) hb1⟩

set_option maxRecDepth 20000 in
set_option maxHeartbeats 1000000 in
theorem gdtake_any {w : World} {p : Option Addr} (l : List St) (c : Nat) (s : St) (h : InL elS w p l c) (hl : l.length ≤ 1000) (hi : s.item < 65536) (hs : I64 s.n) (hw : GdW l) (hS : MSent w) :
    Calls Tryd.prog 35 #[.slice p l.length c, s.v] w (GoodsPost w (takeG l s).1 (takeG l s).2) := by
  have HC : Veil (∀ W, Below w.heap.size w W → Calls Tryd.prog 47 #[.slice p l.length c, s.v, .func (.func 48) #[] #[]] W (GoodsPost W (takeG l s).1 (takeG l s).2)) := ⟨fun W hb => by
    rw [← takeG_ch]
    exact gdchanged_any l c s (h.below hb) hl hi hw _ (enters_of Tryd.func48 (by kernel_rfl) rfl) _ _ (fun hr _ V hV => gdless_any _ _ (i64_count l s.item hr) hs V ((hS.below hb).below hV))⟩
  generalize takeG l s = r at HC ⊢
  obtain ⟨L, ec⟩ := r
  obtain ⟨si, sn⟩ := s
  unfold St.v at *
  dsimp only at *
  clear h
  go_enter Tryd.func35, Tryd.ntmps35
  go_wp2_with (go_at_call 47; refine (HC.out _ (below_al (Below.refl _ _) _)).mono ?_; rintro e w1 ⟨v, rfl, hF, hb1⟩)
  go_ret2
  exact ⟨_, rfl, hF.base (by simp), bc_then (below_al (Below.refl _ _) _) hb1⟩

end Go.Proofs.YtckkiilbabbeaaaDoor
