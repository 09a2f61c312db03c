/- DiskNone: a nil disk has nothing, whatever the act. -/
import Derived.Test.YtlpgffoeohcegaaDC
namespace Go.Proofs.Ytlpgffoeohcegaa
open Go.RowKit

set_option maxHeartbeats 2000000 in
set_option maxRecDepth 100000 in
theorem none_any (x0 x1 : Int) (s : ByteArray) (p : Option Addr) (n cap : Nat) (w : World) : Calls Try.prog 4 #[.agg #[.int .i64 x0, .int .i64 x1, .string s, .slice p n cap]] w fun e w' => e = .returned (.bool true) ∧ Below w.heap.size w w' := by
  go_enter Try.func4, Try.ntmps4
  go_wp2_with fail
  refine (shown_any _).mono ?_
  rintro e w0 ⟨rfl, hb0⟩
  have b0 : Below w.heap.size w w0 := (below_al (Below.refl _ w) _).trans (hb0.mono (by simp))
  have hx0 : w0.heap[w.heap.size]? = some (.cells #[.int .i64 x0, .int .i64 x1, .string s, .slice p n cap] 34) := by

    rw [hb0.block _ (by simp), heap_alloc_if, if_pos rfl]
  have B0 := Lib.hid b0
  have X0 := Lib.hid hx0
  clear hb0 b0
  have c1 : w0.cell? ⟨w.heap.size, 1, none⟩ = some (.int .i64 x1) := by simp [World.cell?, hx0]
  have c2 : w0.cell? ⟨w.heap.size, 2, none⟩ = some (.string s) := by simp [World.cell?, hx0]
  clear hx0
  go_wp2_with fail
  refine (read_nil x1 _).mono ?_
  rintro e w1 ⟨rfl, rfl⟩
  go_wp2_with fail
  refine (write_nil x1 s _).mono ?_
  rintro e w1 ⟨rfl, rfl⟩
  go_wp2_with fail
  refine (sync_nil _).mono ?_
  rintro e w2 ⟨rfl, hb2⟩
  have hx2 := (hb2.block _ (lt_of_heap X0.out)).trans X0.out
  have B2 := Lib.hid (B0.out.trans (hb2.mono B0.out.size))
  clear c1 c2
  have c3 : w2.cell? ⟨w.heap.size, 3, none⟩ = some (.slice p n cap) := by simp [World.cell?, hx2]
  clear hx2 hb2
  go_wp2_with fail
  refine (crash_nil p n cap _).mono ?_
  rintro e w3 ⟨rfl, hb3⟩
  have B3 := Lib.hid (B2.out.trans (hb3.mono B2.out.size))
  clear c3 hb3
  go_wp2_with fail
  refine (unsynced_nil _).mono ?_
  rintro e w4 ⟨rfl, rfl⟩
  go_wp2_with fail
  refine (sectors_nil _).mono ?_
  rintro e w4 ⟨rfl, rfl⟩
  go_wp2_with fail
  refine (ops_nil _).mono ?_
  rintro e w4 ⟨rfl, rfl⟩
  go_wp2_with fail
  go_ret
  exact ⟨rfl, B3.out⟩
end Go.Proofs.Ytlpgffoeohcegaa
