/- Sentinels: package-level errors that stand in memory; errors.Is of one and another, and of one and itself. -/
import Derived.Test.YtckkiilbabbeaaaDoorProg
import Derived.LaidEql
import Derived.Stop.Asserts
import Derived.RowKitTokens
import Derived.Test.YtckkiilbabbeaaaDoorKD0
import Derived.Test.YtckkiilbabbeaaaDoorKS3
namespace Go.Proofs.YtckkiilbabbeaaaDoor
open Go Go.RowKit Sm

/-- A package-level variable (number g) holds a pointer to an errors.errorString. -/
structure Sen (w : World) (g : Nat) (a : Addr) : Prop where
  cell : w.cell? ⟨g, 0, none⟩ = some (.iface 136 (.pointer (some a)))
  row : ∃ c t, w.heap[a.block]? = some (.cells c t (0, 0))
theorem Sen.below {w w' : World} {B g : Nat} {a : Addr} (h : Sen w g a) (hB : w.heap.size ≤ B) (hb : Below B w w') : Sen w' g a := by
  refine ⟨(hb.cell (Nat.lt_of_lt_of_le (World.block_lt_of_cell? _ _ h.cell) hB)).trans h.cell, ?_⟩
  obtain ⟨c, t, hr⟩ := h.row
  exact ⟨c, t, (hb.block _ (Nat.lt_of_lt_of_le (Array.getElem?_eq_some_iff.1 hr).1 hB)).trans hr⟩

theorem isTypes : ∃ k : Nat, (∀ (v : Value) (w : World), (callFunc 88 #[.iface 136 v]).run Tryd.prog w = .ok (.value (.iface 127 (.agg #[.pointer (some ⟨k, 136, none⟩)]))) w) ∧
    ∀ w : World, (callFunc 112 #[.agg #[.pointer (some ⟨k, 136, none⟩)]]).run Tryd.prog w = .ok (.value (.bool true)) w :=
  ⟨Tryd.prog.globals.size, fun v w => by kernel_rfl, fun w => by kernel_rfl⟩
theorem isMethodComparable (n : Nat) (v : Value) (w : World) : (Go.method (n + 1) 127 v "Comparable").run Tryd.prog w = .ok (112, v) w := by kernel_rfl
theorem isComp : (Tryd.prog.info? 136).map (·.comparable) = some true := by kernel_rfl
theorem isSize : (Tryd.prog.info? 161).map (·.size) = some 1 := by kernel_rfl
theorem noIsE (v : Value) (xT : TypeId) (w : World) : (Instr.typeAssert (.iface 136 v) xT 129 true).run Tryd.prog w = .ok (.tuple #[.nilIface, .bool false]) w := run_typeAssert_lacksB Tryd.underlying129 (by kernel_rfl) (by kernel_rfl) v xT w
theorem noUnwrapE (v : Value) (xT : TypeId) (w : World) : (Instr.typeAssert (.iface 136 v) xT 132 true).run Tryd.prog w = .ok (.tuple #[.nilIface, .bool false]) w := run_typeAssert_lacksB Tryd.underlying132 (by kernel_rfl) (by kernel_rfl) v xT w
theorem noUnwrapsE (v : Value) (xT : TypeId) (w : World) : (Instr.typeAssert (.iface 136 v) xT 133 true).run Tryd.prog w = .ok (.tuple #[.nilIface, .bool false]) w := run_typeAssert_lacksB Tryd.underlying133 (by kernel_rfl) (by kernel_rfl) v xT w

/-- errors.is of two sentinels. -/
theorem eis_same (a : Addr) (w : World) : Calls Tryd.prog 89 #[.iface 136 (.pointer (some a)), .iface 136 (.pointer (some a)), .bool true] w fun e w' => e = .returned (.bool true) ∧ w' = w := by
  obtain ⟨i, hi, hcmp⟩ := Option.map_eq_some_iff.1 isComp
  obtain ⟨j, hj, hjs⟩ := Option.map_eq_some_iff.1 isSize
  have heq := run_eql_iface_ptr_same (P := Tryd.prog) w a Tryd.underlying88 Tryd.underlying136 hi hcmp hj
  go_enter Tryd.func89, Tryd.ntmps89
  go_wp2
  refine wp_loop_rounds 1 ?_
  rw [rounds_succ]
  go_wp2
  go_ret
  exact ⟨rfl, rfl⟩
theorem eis_other (a b : Addr) (ca cb : Array Value) (ta tb : TypeId) (w : World) (hne : a ≠ b) (ha : w.heap[a.block]? = some (.cells ca ta (0, 0))) (hb : w.heap[b.block]? = some (.cells cb tb (0, 0))) :
    Calls Tryd.prog 89 #[.iface 136 (.pointer (some a)), .iface 136 (.pointer (some b)), .bool true] w fun e w' => e = .returned (.bool false) ∧ w' = w := by
  obtain ⟨i, hi, hcmp⟩ := Option.map_eq_some_iff.1 isComp
  obtain ⟨j, hj, hjs⟩ := Option.map_eq_some_iff.1 isSize
  have nE := noIsE
  have uE := noUnwrapE
  have vE := noUnwrapsE
  have heq := run_eql_iface_ptr_other (P := Tryd.prog) w Tryd.underlying88 Tryd.underlying136 hi hcmp hj (by rw [hjs]; decide) hne ha hb
  go_enter Tryd.func89, Tryd.ntmps89
  go_wp2
  refine wp_loop_rounds 1 ?_
  rw [rounds_succ]
  go_wp2
  go_ret
  exact ⟨rfl, rfl⟩
/-- errors.Is of a sentinel and of itself, of another one. -/
theorem is_same (a : Addr) (w : World) : Calls Tryd.prog 73 #[.iface 136 (.pointer (some a)), .iface 136 (.pointer (some a))] w fun e w' => e = .returned (.bool true) ∧ w' = w := by
  obtain ⟨k, tT, cT⟩ := isTypes
  have mR := isMethodComparable
  go_enter Tryd.func73, Tryd.ntmps73
  go_wp2_with (go_at_call 89; refine (eis_same _ _).mono ?_; rintro e w' ⟨rfl, rfl⟩)
  go_ret
  exact ⟨rfl, rfl⟩
theorem is_other (a b : Addr) (ca cb : Array Value) (ta tb : TypeId) (w : World) (hne : a ≠ b) (ha : w.heap[a.block]? = some (.cells ca ta (0, 0))) (hb : w.heap[b.block]? = some (.cells cb tb (0, 0))) :
    Calls Tryd.prog 73 #[.iface 136 (.pointer (some a)), .iface 136 (.pointer (some b))] w fun e w' => e = .returned (.bool false) ∧ w' = w := by
  obtain ⟨k, tT, cT⟩ := isTypes
  have mR := isMethodComparable
  have HE : Veil _ := ⟨fun w ha hb => eis_other a b ca cb ta tb w hne ha hb⟩
  go_enter Tryd.func73, Tryd.ntmps73
  go_wp2_with (go_at_call 89; refine (HE.out _ ?_ ?_).mono ?_; exact ha; exact hb; rintro e w' ⟨rfl, rfl⟩)
  go_ret
  exact ⟨rfl, rfl⟩
end Go.Proofs.YtckkiilbabbeaaaDoor
