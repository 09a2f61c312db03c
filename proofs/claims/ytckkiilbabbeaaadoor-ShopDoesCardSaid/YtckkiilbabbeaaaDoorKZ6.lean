/- Money: what the laid sentinels give; a world that has them laid. -/
import Derived.Test.YtckkiilbabbeaaaDoorRows
import Derived.Stop.LaidTwo
import Derived.LaidMore
import Derived.Stop.Joined
import Derived.Test.YtckkiilbabbeaaaDoorKZ1
namespace Go.Proofs.YtckkiilbabbeaaaDoor
open Go Go.RowKit Go.ChangeShapes

theorem gAmount : Tryd.prog.globalNamed "bazaar/money.errAmount" = some 0 := by kernel_rfl
theorem gMore : Tryd.prog.globalNamed "bazaar/money.errMore" = some 1 := by kernel_rfl
theorem gLess : Tryd.prog.globalNamed "bazaar/money.errLess" = some 2 := by kernel_rfl
theorem tAmount : (Tryd.prog.globals[0]?).map (·.type) = some 88 := by kernel_rfl
theorem tMore : (Tryd.prog.globals[1]?).map (·.type) = some 88 := by kernel_rfl
theorem tLess : (Tryd.prog.globals[2]?).map (·.type) = some 88 := by kernel_rfl
theorem cellsES : Tryd.prog.cellsOf 161 = 1 := by kernel_rfl
theorem cellsStr : Tryd.prog.cellsOf 9 = 1 := by kernel_rfl
theorem starES : "*" ++ "errors.errorString" = "*errors.errorString" := by decide
theorem rowES (u : TypeId) (h : Tryd.prog.typeName? 3 u = some "*errors.errorString") : u = 136 :=
  typeName_ptr_named (nm := "errors.errorString") (by rw [starES]; kernel_rfl) (by kernel_rfl) (by decide) u (by rw [starES]; exact h)
def laidM : List (String × DataW Unit) := [("bazaar/money.errAmount", Rows.laid_bazaar_money_errAmount), ("bazaar/money.errMore", Rows.laid_bazaar_money_errMore), ("bazaar/money.errLess", Rows.laid_bazaar_money_errLess)]
theorem msent_of {W : World} {r : List (String × DataW Unit)} (h : laidMet Tryd.prog (("bazaar/money.errAmount", Rows.laid_bazaar_money_errAmount) :: ("bazaar/money.errMore", Rows.laid_bazaar_money_errMore) :: ("bazaar/money.errLess", Rows.laid_bazaar_money_errLess) :: r) W) : MSent W := by
  obtain ⟨a0, a1, s0, s1, c0, c1, t0, t1, hv0, hv1, hc0, hs0, hz0, hc1, hs1, hz1, hne, hb0, hb1⟩ := laid_sentinels2 h gAmount tAmount gMore tMore Tryd.underlying88 rowES Tryd.underlying136 Tryd.underlying161 rfl rfl Tryd.underlying9 cellsES cellsStr
  obtain ⟨a1', a2, s1', s2, c1', c2, t1', t2, hv1', hv2, hc1', hs1', hz1', hc2, hs2, hz2, hne2, hb1', hb2⟩ := laid_sentinels2 (laidMet.tail h) gMore tMore gLess tLess Tryd.underlying88 rowES Tryd.underlying136 Tryd.underlying161 rfl rfl Tryd.underlying9 cellsES cellsStr
  obtain rfl : a1 = a1' := by
    rw [hv1] at hv1'
    simpa using hv1'
  have h02 : a0 ≠ a2 := by
    rintro rfl
    rw [hc0] at hc2
    have : s0 = s2 := by simpa using hc2
    rw [← this, hs0] at hs2
    exact absurd hs2 (by decide)
  refine ⟨fun | 0 => a0 | 1 => a1 | _ => a2, ⟨?_, c0, t0, hb0⟩, ⟨?_, c1, t1, hb1⟩, ⟨?_, c2, t2, hb2⟩, hne, h02, hne2⟩
  · simpa using World.var?_cell gAmount hv0 0
  · simpa using World.var?_cell gMore hv1 0
  · simpa using World.var?_cell gLess hv2 0
theorem laidM_plain {W : World} (h : laidMetH Tryd.prog laidM W) : MSent W := by
  rw [MakeChecks.laidMetH_plain _ _ _ (by kernel_rfl)] at h
  exact msent_of h
theorem doorM (os : Os) (args : Array Value) : laidMetH Tryd.prog laidM ((World.doorLaid Tryd.prog 400 os).forCall (fun _ _ => 0) ⟨#[], args, []⟩).memory :=
  laidMetH_of_parts3 (fuel := 8) (laidMet_of_run' 8 (by kernel_rfl) (by kernel_rfl)) (by kernel_rfl) (by kernel_rfl)
theorem ownM : ownKnob Tryd.prog.godebug = none := by kernel_rfl
theorem laidOutM : laidOutB Tryd.prog = true := by kernel_rfl
end Go.Proofs.YtckkiilbabbeaaaDoor
