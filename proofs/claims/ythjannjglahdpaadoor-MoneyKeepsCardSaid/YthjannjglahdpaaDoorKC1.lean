/- Money: the document's own Right, Add, Sub, Mul, Move. -/
import Derived.OwnWalk
import Derived.Test.YthjannjglahdpaaDoorKC0
namespace Go.Proofs.YthjannjglahdpaaDoor
open Go Go.RowKit Sm
attribute [local go_sem] Oper.semAt_some

theorem refamt_any (n : Int) (w : World) : Calls Tryd.prog 20 #[.int .i64 n] w fun e w' => e = .returned (.bool (amt n)) ∧ Below w.heap.size w w' := by
  have HR : Veil _ := ⟨amt_iff n⟩
  obtain ⟨r, hr⟩ : ∃ r, amt n = r := ⟨_, rfl⟩
  rw [hr] at HR ⊢
  clear hr
  go_enter Tryd.func20, Tryd.ntmps20
  go_wp2
  all_goals
    go_ret
    refine ⟨?_, Below.refl _ _⟩
    refine (show Ending.returned (Value.bool _) = Ending.returned (Value.bool _) from congrArg (fun x => Ending.returned (Value.bool x)) ?_)
    have hr := HR.out
    cases r <;> simp at hr ⊢ <;> omega

theorem refaddA_any (a b : Int) (_ : I64 a) (_ : I64 b) (w : World) : Calls Tryd.prog 12 #[.int .i64 a, .int .i64 b] w fun e w' => e = .returned (.tuple #[.int .i64 (addA a b).1, .int .i64 (addA a b).2]) ∧ Below w.heap.size w w' := by
  obtain ⟨v, hv⟩ : ∃ v, (addA a b).1 = v := ⟨_, rfl⟩
  obtain ⟨c, hc⟩ : ∃ c, (addA a b).2 = c := ⟨_, rfl⟩
  have HR : Veil (addA a b = (v, c)) := ⟨by rw [← hv, ← hc]⟩
  rw [hv, hc]
  clear hv hc
  go_enter Tryd.func12, Tryd.ntmps12
  go_wp2
  all_goals
    go_ret2
    refine ⟨ret2 ?_, Below.refl _ _⟩
    rw [← HR.out]
    first | exact addA_bad (by omega) | exact addA_over (by omega) (by omega) | exact addA_fine (by omega) (by omega)

theorem refsubA_any (a b : Int) (_ : I64 a) (_ : I64 b) (w : World) : Calls Tryd.prog 14 #[.int .i64 a, .int .i64 b] w fun e w' => e = .returned (.tuple #[.int .i64 (subA a b).1, .int .i64 (subA a b).2]) ∧ Below w.heap.size w w' := by
  obtain ⟨v, hv⟩ : ∃ v, (subA a b).1 = v := ⟨_, rfl⟩
  obtain ⟨c, hc⟩ : ∃ c, (subA a b).2 = c := ⟨_, rfl⟩
  have HR : Veil (subA a b = (v, c)) := ⟨by rw [← hv, ← hc]⟩
  rw [hv, hc]
  clear hv hc
  go_enter Tryd.func14, Tryd.ntmps14
  go_wp2
  all_goals
    go_ret2
    refine ⟨ret2 ?_, Below.refl _ _⟩
    rw [← HR.out]
    first | exact subA_bad (by omega) | exact subA_over (by omega) (by omega) | exact subA_fine (by omega) (by omega)

theorem refmulA_any (a b : Int) (_ : I64 a) (_ : I64 b) (w : World) : Calls Tryd.prog 16 #[.int .i64 a, .int .i64 b] w fun e w' => e = .returned (.tuple #[.int .i64 (mulA a b).1, .int .i64 (mulA a b).2]) ∧ Below w.heap.size w w' := by
  obtain ⟨v, hv⟩ : ∃ v, (mulA a b).1 = v := ⟨_, rfl⟩
  obtain ⟨c, hc⟩ : ∃ c, (mulA a b).2 = c := ⟨_, rfl⟩
  have HR : Veil (mulA a b = (v, c)) := ⟨by rw [← hv, ← hc]⟩
  rw [hv, hc]
  clear hv hc
  by_cases hin : 0 ≤ a ∧ a ≤ 1152921504606846976 ∧ 0 ≤ b ∧ b ≤ 1152921504606846976
  · have HT : Veil _ := ⟨mul_test a b ((amt_iff a).2 ⟨hin.1, hin.2.1⟩) ((amt_iff b).2 hin.2.2)⟩
    have hm0 : 0 ≤ a * b := Int.mul_nonneg hin.1 hin.2.2.1
    obtain ⟨h1, h2, h3, h4⟩ := hin
    have HI : Veil (0 ≤ a ∧ a ≤ 1152921504606846976 ∧ 0 ≤ b ∧ b ≤ 1152921504606846976) := ⟨⟨h1, h2, h3, h4⟩⟩
    by_cases hb : 0 < b
    · by_cases hq : 1152921504606846976 / b < a
      · have HE : Veil (v = 0 ∧ c = 111) := ⟨by have := (mulA_over HI.out (HT.out.1 ⟨hb, hq⟩)).trans HR.out; simp only [Prod.mk.injEq] at this; exact ⟨this.1.symm, this.2.symm⟩⟩
        go_enter Tryd.func16, Tryd.ntmps16
        go_wp2
        go_ret2
        exact ⟨ret2 (by rw [HE.out.1, HE.out.2]), Below.refl _ _⟩
      · have hf : amt (a * b) = true := by
          cases h : amt (a * b) with
          | true => rfl
          | false => exact absurd (HT.out.2 h).2 hq
        have hm1 : a * b ≤ 1152921504606846976 := ((amt_iff _).1 hf).2
        have HE : Veil (v = a * b ∧ c = 0) := ⟨by have := (mulA_fine HI.out hf).trans HR.out; simp only [Prod.mk.injEq] at this; exact ⟨this.1.symm, this.2.symm⟩⟩
        clear hf
        go_enter Tryd.func16, Tryd.ntmps16
        go_wp2
        go_ret2
        exact ⟨ret2 (by rw [HE.out.1, HE.out.2]), Below.refl _ _⟩
    · have hz : b = 0 := by omega
      subst hz
      have HE : Veil (v = 0 ∧ c = 0) := ⟨by have := (mulA_fine HI.out (by rw [Int.mul_zero]; rfl)).trans HR.out; simp only [Prod.mk.injEq, Int.mul_zero] at this; exact ⟨this.1.symm, this.2.symm⟩⟩
      clear hm0 hb h3 h4
      go_enter Tryd.func16, Tryd.ntmps16
      go_wp2
      go_ret2
      exact ⟨ret2 (by rw [HE.out.1, HE.out.2]), Below.refl _ _⟩
  · have HE : Veil (v = 0 ∧ c = 110) := ⟨by have := (mulA_bad hin).trans HR.out; simp only [Prod.mk.injEq] at this; exact ⟨this.1.symm, this.2.symm⟩⟩
    by_cases h1 : a < 0
    · go_enter Tryd.func16, Tryd.ntmps16
      go_wp2
      go_ret2
      exact ⟨ret2 (by rw [HE.out.1, HE.out.2]), Below.refl _ _⟩
    by_cases h2 : b < 0
    · go_enter Tryd.func16, Tryd.ntmps16
      go_wp2
      go_ret2
      exact ⟨ret2 (by rw [HE.out.1, HE.out.2]), Below.refl _ _⟩
    by_cases h3 : 1152921504606846976 < a
    · go_enter Tryd.func16, Tryd.ntmps16
      go_wp2
      go_ret2
      exact ⟨ret2 (by rw [HE.out.1, HE.out.2]), Below.refl _ _⟩
    · have h4 : 1152921504606846976 < b := by omega
      go_enter Tryd.func16, Tryd.ntmps16
      go_wp2
      go_ret2
      exact ⟨ret2 (by rw [HE.out.1, HE.out.2]), Below.refl _ _⟩

theorem refmovA_any (f t n : Int) (hf : I64 f) (ht : I64 t) (hn : I64 n) (w : World) : Calls Tryd.prog 18 #[.int .i64 f, .int .i64 t, .int .i64 n] w fun e w' => e = .returned (.tuple #[.int .i64 (movA f t n).1, .int .i64 (movA f t n).2.1, .int .i64 (movA f t n).2.2]) ∧ Below w.heap.size w w' := by
  obtain ⟨x, hx⟩ : ∃ x, subA f n = x := ⟨_, rfl⟩
  obtain ⟨y, hy⟩ : ∃ y, addA t n = y := ⟨_, rfl⟩
  have HS : Veil (∀ w, Calls Tryd.prog 14 #[.int .i64 f, .int .i64 n] w fun e w' => e = .returned (.tuple #[.int .i64 x.1, .int .i64 x.2]) ∧ Below w.heap.size w w') := ⟨by rw [← hx]; exact refsubA_any f n hf hn⟩
  have HA : Veil (∀ w, Calls Tryd.prog 12 #[.int .i64 t, .int .i64 n] w fun e w' => e = .returned (.tuple #[.int .i64 y.1, .int .i64 y.2]) ∧ Below w.heap.size w w') := ⟨by rw [← hy]; exact refaddA_any t n ht hn⟩
  have HM : Veil (movA f t n = if x.2 = 0 then (if y.2 = 0 then (x.1, y.1, 0) else (0, 0, y.2)) else (0, 0, x.2)) := ⟨by rw [movA_eq, hx, hy]⟩
  rw [HM.out]
  obtain ⟨x1, x2⟩ := x
  obtain ⟨y1, y2⟩ := y
  dsimp only at *
  clear hx hy HM
  by_cases h1 : x2 = 0
  · subst h1
    rw [if_pos rfl]
    by_cases h2 : y2 = 0
    · subst h2
      rw [if_pos rfl]
      go_enter Tryd.func18, Tryd.ntmps18
      go_wp2_with (first
        | (go_at_call 12; refine (HA.out _).mono ?_; rintro e w2 ⟨rfl, hb2⟩)
        | (go_at_call 14; refine (HS.out _).mono ?_; rintro e w1 ⟨rfl, hb1⟩))
      refine bodyPost_ret (results_tmp3 rfl _ _ _) rfl ?_
      exact ⟨rfl, bc_then hb1 hb2⟩
    · rw [if_neg h2]
      go_enter Tryd.func18, Tryd.ntmps18
      go_wp2_with (first
        | (go_at_call 12; refine (HA.out _).mono ?_; rintro e w2 ⟨rfl, hb2⟩)
        | (go_at_call 14; refine (HS.out _).mono ?_; rintro e w1 ⟨rfl, hb1⟩))
      refine bodyPost_ret (results_tmp3 rfl _ _ _) rfl ?_
      exact ⟨rfl, bc_then hb1 hb2⟩
  · rw [if_neg h1]
    go_enter Tryd.func18, Tryd.ntmps18
    go_wp2_with (go_at_call 14; refine (HS.out _).mono ?_; rintro e w1 ⟨rfl, hb1⟩)
    refine bodyPost_ret (results_tmp3 rfl _ _ _) rfl ?_
    exact ⟨rfl, hb1⟩
end Go.Proofs.YthjannjglahdpaaDoor
