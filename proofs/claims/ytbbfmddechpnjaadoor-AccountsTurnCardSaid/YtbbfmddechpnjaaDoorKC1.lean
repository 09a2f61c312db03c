/- Money: the document's own Right, Add, Sub, Mul, Move. -/
import Derived.OwnWalk
import Derived.Test.YtbbfmddechpnjaaDoorKC0
namespace Go.Proofs.YtbbfmddechpnjaaDoor
open Go Go.RowKit Sm
attribute [local go_sem] Oper.semAt_some

theorem refamt_any (n : Int) (w : World) : Calls Tryd.prog 46 #[.int .i64 n] w fun e w' => e = .returned (.bool (amt n)) ∧ Below w.heap.size w w' := by
  have HR : Veil _ := ⟨amt_iff n⟩
  obtain ⟨r, hr⟩ : ∃ r, amt n = r := ⟨_, rfl⟩
  rw [hr] at HR ⊢
  clear hr
  go_enter Tryd.func46, Tryd.ntmps46
  go_wp2
  all_goals
    go_ret
    refine ⟨?_, Below.refl _ _⟩
    refine (show Ending.returned (Value.bool _) = Ending.returned (Value.bool _) from congrArg (fun x => Ending.returned (Value.bool x)) ?_)
    have hr := HR.out
    cases r <;> simp at hr ⊢ <;> omega

theorem refaddA_any (a b : Int) (_ : I64 a) (_ : I64 b) (w : World) : Calls Tryd.prog 32 #[.int .i64 a, .int .i64 b] w fun e w' => e = .returned (.tuple #[.int .i64 (addA a b).1, .int .i64 (addA a b).2]) ∧ Below w.heap.size w w' := by
  obtain ⟨v, hv⟩ : ∃ v, (addA a b).1 = v := ⟨_, rfl⟩
  obtain ⟨c, hc⟩ : ∃ c, (addA a b).2 = c := ⟨_, rfl⟩
  have HR : Veil (addA a b = (v, c)) := ⟨by rw [← hv, ← hc]⟩
  rw [hv, hc]
  clear hv hc
  go_enter Tryd.func32, Tryd.ntmps32
  go_wp2
  all_goals
    go_ret2
    refine ⟨ret2 ?_, Below.refl _ _⟩
    rw [← HR.out]
    first | exact addA_bad (by omega) | exact addA_over (by omega) (by omega) | exact addA_fine (by omega) (by omega)

theorem refsubA_any (a b : Int) (_ : I64 a) (_ : I64 b) (w : World) : Calls Tryd.prog 34 #[.int .i64 a, .int .i64 b] w fun e w' => e = .returned (.tuple #[.int .i64 (subA a b).1, .int .i64 (subA a b).2]) ∧ Below w.heap.size w w' := by
  obtain ⟨v, hv⟩ : ∃ v, (subA a b).1 = v := ⟨_, rfl⟩
  obtain ⟨c, hc⟩ : ∃ c, (subA a b).2 = c := ⟨_, rfl⟩
  have HR : Veil (subA a b = (v, c)) := ⟨by rw [← hv, ← hc]⟩
  rw [hv, hc]
  clear hv hc
  go_enter Tryd.func34, Tryd.ntmps34
  go_wp2
  all_goals
    go_ret2
    refine ⟨ret2 ?_, Below.refl _ _⟩
    rw [← HR.out]
    first | exact subA_bad (by omega) | exact subA_over (by omega) (by omega) | exact subA_fine (by omega) (by omega)

theorem refmovA_any (f t n : Int) (hf : I64 f) (ht : I64 t) (hn : I64 n) (w : World) : Calls Tryd.prog 29 #[.int .i64 f, .int .i64 t, .int .i64 n] w fun e w' => e = .returned (.tuple #[.int .i64 (movA f t n).1, .int .i64 (movA f t n).2.1, .int .i64 (movA f t n).2.2]) ∧ Below w.heap.size w w' := by
  obtain ⟨x, hx⟩ : ∃ x, subA f n = x := ⟨_, rfl⟩
  obtain ⟨y, hy⟩ : ∃ y, addA t n = y := ⟨_, rfl⟩
  have HS : Veil (∀ w, Calls Tryd.prog 34 #[.int .i64 f, .int .i64 n] w fun e w' => e = .returned (.tuple #[.int .i64 x.1, .int .i64 x.2]) ∧ Below w.heap.size w w') := ⟨by rw [← hx]; exact refsubA_any f n hf hn⟩
  have HA : Veil (∀ w, Calls Tryd.prog 32 #[.int .i64 t, .int .i64 n] w fun e w' => e = .returned (.tuple #[.int .i64 y.1, .int .i64 y.2]) ∧ Below w.heap.size w w') := ⟨by rw [← hy]; exact refaddA_any t n ht hn⟩
  have HM : Veil (movA f t n = if x.2 = 0 then (if y.2 = 0 then (x.1, y.1, 0) else (0, 0, y.2)) else (0, 0, x.2)) := ⟨by rw [movA_eq, hx, hy]⟩
  rw [HM.out]
  obtain ⟨x1, x2⟩ := x
  obtain ⟨y1, y2⟩ := y
  dsimp only at *
  clear hx hy HM
  by_cases h1 : x2 = 0
  · subst h1
    rw [if_pos rfl]
    by_cases h2 : y2 = 0
    · subst h2
      rw [if_pos rfl]
      go_enter Tryd.func29, Tryd.ntmps29
      go_wp2_with (first
        | (go_at_call 32; refine (HA.out _).mono ?_; rintro e w2 ⟨rfl, hb2⟩)
        | (go_at_call 34; refine (HS.out _).mono ?_; rintro e w1 ⟨rfl, hb1⟩))
      refine bodyPost_ret (results_tmp3 rfl _ _ _) rfl ?_
      exact ⟨rfl, bc_then hb1 hb2⟩
    · rw [if_neg h2]
      go_enter Tryd.func29, Tryd.ntmps29
      go_wp2_with (first
        | (go_at_call 32; refine (HA.out _).mono ?_; rintro e w2 ⟨rfl, hb2⟩)
        | (go_at_call 34; refine (HS.out _).mono ?_; rintro e w1 ⟨rfl, hb1⟩))
      refine bodyPost_ret (results_tmp3 rfl _ _ _) rfl ?_
      exact ⟨rfl, bc_then hb1 hb2⟩
  · rw [if_neg h1]
    go_enter Tryd.func29, Tryd.ntmps29
    go_wp2_with (go_at_call 34; refine (HS.out _).mono ?_; rintro e w1 ⟨rfl, hb1⟩)
    refine bodyPost_ret (results_tmp3 rfl _ _ _) rfl ?_
    exact ⟨rfl, hb1⟩
end Go.Proofs.YtbbfmddechpnjaaDoor
