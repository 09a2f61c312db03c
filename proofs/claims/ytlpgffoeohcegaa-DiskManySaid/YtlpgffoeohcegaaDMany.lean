/- DiskMany: for every number n, there may be from 1 to 65536 sectors and no more (the law tries n from 65530 to 65540). -/
import Derived.Test.YtlpgffoeohcegaaDC
namespace Go.Proofs.Ytlpgffoeohcegaa
open Go.RowKit

set_option maxHeartbeats 1000000 in
set_option maxRecDepth 100000 in
theorem many_any (n : Int) (w : World) : Calls Try.prog 7 #[.int .i64 n] w fun e w' => e = .returned (.bool true) ∧ Below w.heap.size w w' := by
  go_enter Try.func7, Try.ntmps7
  go_wp2_with fail
  refine (shown_any w).mono ?_
  rintro e w1 ⟨rfl, hb1⟩
  by_cases h1 : n < 65530
  · go_wp2
    go_ret
    exact ⟨rfl, hb1⟩
  · by_cases h2 : 65540 < n
    · go_wp2
      go_ret
      exact ⟨rfl, hb1⟩
    · by_cases h3 : n ≤ 65536
      · obtain ⟨m, rfl⟩ : ∃ m : Nat, n = m := ⟨n.toNat, by omega⟩
        have hm : m ≤ 65536 := by omega
        go_wp2_with fail
        refine (new_any m (by omega) hm w1).mono ?_
        rintro e w2 ⟨d, kb, sb, rfl, hD, hb2, -, -, -⟩
        have hn : (Dk.new m).kept.length = m := by simp [Dk.new]
        have hs := sectors_any hD
        rw [hn] at hs
        have HS := Lib.hid hs
        have HB := Lib.hid (hb1.trans (hb2.mono hb1.size))
        clear hs hn hD hb2 hb1
        go_wp2_with (go_at_call 16; refine HS.out.mono ?_; rintro e w3 ⟨rfl, rfl⟩)
        go_ret
        exact ⟨rfl, HB.out⟩
      · go_wp2_with fail
        refine (new_bad n (by omega) w1).mono ?_
        rintro e w2 ⟨rfl, hb2⟩
        go_wp2
        go_ret
        exact ⟨by show Ending.returned (.bool (!decide (n ≤ 65536))) = _; simp [h3], hb1.trans (hb2.mono hb1.size)⟩
end Go.Proofs.Ytlpgffoeohcegaa
