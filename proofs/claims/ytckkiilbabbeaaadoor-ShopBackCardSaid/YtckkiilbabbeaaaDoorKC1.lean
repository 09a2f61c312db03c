/- Money: the document's own Right, Add, Sub, Mul, Move. -/
import Derived.OwnWalk
import Derived.Test.YtckkiilbabbeaaaDoorKC0
namespace Go.Proofs.YtckkiilbabbeaaaDoor
open Go Go.RowKit Sm
attribute [local go_sem] Oper.semAt_some

theorem refamt_any (n : Int) (w : World) : Calls Tryd.prog 33 #[.int .i64 n] w fun e w' => e = .returned (.bool (amt n)) ∧ Below w.heap.size w w' := by
  have HR : Veil _ := ⟨amt_iff n⟩
  obtain ⟨r, hr⟩ : ∃ r, amt n = r := ⟨_, rfl⟩
  rw [hr] at HR ⊢
  clear hr
  go_enter Tryd.func33, Tryd.ntmps33
  go_wp2
  all_goals
    go_ret
    refine ⟨?_, Below.refl _ _⟩
    refine (show Ending.returned (Value.bool _) = Ending.returned (Value.bool _) from congrArg (fun x => Ending.returned (Value.bool x)) ?_)
    have hr := HR.out
    cases r <;> simp at hr ⊢ <;> omega

theorem refaddA_any (a b : Int) (_ : I64 a) (_ : I64 b) (w : World) : Calls Tryd.prog 71 #[.int .i64 a, .int .i64 b] w fun e w' => e = .returned (.tuple #[.int .i64 (addA a b).1, .int .i64 (addA a b).2]) ∧ Below w.heap.size w w' := by
  obtain ⟨v, hv⟩ : ∃ v, (addA a b).1 = v := ⟨_, rfl⟩
  obtain ⟨c, hc⟩ : ∃ c, (addA a b).2 = c := ⟨_, rfl⟩
  have HR : Veil (addA a b = (v, c)) := ⟨by rw [← hv, ← hc]⟩
  rw [hv, hc]
  clear hv hc
  go_enter Tryd.func71, Tryd.ntmps71
  go_wp2
  all_goals
    go_ret2
    refine ⟨ret2 ?_, Below.refl _ _⟩
    rw [← HR.out]
    first | exact addA_bad (by omega) | exact addA_over (by omega) (by omega) | exact addA_fine (by omega) (by omega)

theorem refsubA_any (a b : Int) (_ : I64 a) (_ : I64 b) (w : World) : Calls Tryd.prog 72 #[.int .i64 a, .int .i64 b] w fun e w' => e = .returned (.tuple #[.int .i64 (subA a b).1, .int .i64 (subA a b).2]) ∧ Below w.heap.size w w' := by
  obtain ⟨v, hv⟩ : ∃ v, (subA a b).1 = v := ⟨_, rfl⟩
  obtain ⟨c, hc⟩ : ∃ c, (subA a b).2 = c := ⟨_, rfl⟩
  have HR : Veil (subA a b = (v, c)) := ⟨by rw [← hv, ← hc]⟩
  rw [hv, hc]
  clear hv hc
  go_enter Tryd.func72, Tryd.ntmps72
  go_wp2
  all_goals
    go_ret2
    refine ⟨ret2 ?_, Below.refl _ _⟩
    rw [← HR.out]
    first | exact subA_bad (by omega) | exact subA_over (by omega) (by omega) | exact subA_fine (by omega) (by omega)

end Go.Proofs.YtckkiilbabbeaaaDoor
