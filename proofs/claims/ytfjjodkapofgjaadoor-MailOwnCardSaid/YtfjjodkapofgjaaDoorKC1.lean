/- Money: the document's own Right, Add, Sub, Mul, Move. -/
import Derived.OwnWalk
import Derived.Test.YtfjjodkapofgjaaDoorKC0
namespace Go.Proofs.YtfjjodkapofgjaaDoor
open Go Go.RowKit Sm
attribute [local go_sem] Oper.semAt_some

theorem refamt_any (n : Int) (w : World) : Calls Tryd.prog 28 #[.int .i64 n] w fun e w' => e = .returned (.bool (amt n)) ∧ Below w.heap.size w w' := by
  have HR : Veil _ := ⟨amt_iff n⟩
  obtain ⟨r, hr⟩ : ∃ r, amt n = r := ⟨_, rfl⟩
  rw [hr] at HR ⊢
  clear hr
  go_enter Tryd.func28, Tryd.ntmps28
  go_wp2
  all_goals
    go_ret
    refine ⟨?_, Below.refl _ _⟩
    refine (show Ending.returned (Value.bool _) = Ending.returned (Value.bool _) from congrArg (fun x => Ending.returned (Value.bool x)) ?_)
    have hr := HR.out
    cases r <;> simp at hr ⊢ <;> omega

end Go.Proofs.YtfjjodkapofgjaaDoor
