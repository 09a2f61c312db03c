/- The sectors of a page's place: the iterator. -/
import Derived.Test.YtbmdodkgaehgnaaPA
import Derived.Test.YtbmdodkgaehgnaaDE
import Derived.Test.YtbmdodkgaehgnaaS3
namespace Go.Proofs.Ytbmdodkgaehgnaa
open Go Go.RowKit
attribute [local go_sem] Oper.semAt_some

theorem place_any (id : Nat) (w : World) : Calls Try.prog 42 #[.int .u32 id] w fun e w' => e = .returned (.func (.func 65) #[] #[.pointer (some ⟨w.heap.size, 0, none⟩)]) ∧ w.alloc (.cells #[.int .u32 id] 22) = w' := by
  go_enter Try.func42, Try.ntmps42
  go_wp2
  go_ret
  exact ⟨rfl, rfl⟩

/-- What the iterator hands over. -/
def handsP (id k : Nat) : Array Value := #[.int .i64 k, .int .i64 ((id * 4 + k : Nat) : Int)]

set_option maxRecDepth 20000 in
set_option maxHeartbeats 1000000 in
theorem place_seq (Bx id : Nat) (hid : id < 4294967296) :
    Seq Try.prog 65 #[.pointer (some ⟨Bx, 0, none⟩)] (handsP id) 4 (fun W => W.cell? ⟨Bx, 0, none⟩ = some (.int .u32 id)) := by
  intro l n J Jx W hJ hJx hF hY h0
  have hf1 := hF 0 W h0
  refine callsIn_of_wp Try.func65 rfl trivial ?_
  simp only [Try.ntmps65, List.size_toArray, List.length_cons, List.length_nil, Nat.reduceAdd, Nat.reduceSub, Array.replicate_succ, Array.replicate_zero, List.push_toArray, List.append_toArray, List.nil_append, List.cons_append]
  gi_wp2
  gi_loopw [4] (fun i wr => ∃ k : Nat, k ≤ 4 ∧ i = .int .i64 k ∧ J k wr) (fun i _ => 4 - (intOf i).toNat)
  case atStart => exact ⟨0, Nat.zero_le _, rfl, h0⟩
  case round =>
    obtain ⟨k, hk, rfl, hj⟩ := hrel
    clear hf1
    by_cases hlt : k < 4
    · have hf2 := hF k wr hj
      have hYk := hY k wr hlt hj
      have e : ((id * 4 + k : Nat) : Int) = (id : Int) * 4 + k := by omega
      simp only [handsP, e] at hYk
      obtain ⟨fn, tmps, assign, body, hy, hR⟩ := hYk
      gi_wp2
      refine hR.mono ?_
      rintro e W3 (⟨rfl, hj'⟩ | ⟨rfl, hjx⟩)
      · gi_wp2
        go_roundw
        case rel => exact ⟨k + 1, by omega, by go_num, hj'⟩
        case measure => simp [intOf]; omega
      · gi_wp2
        refine bodyPost_ret (results_none rfl _ _ _) rfl ?_
        exact ⟨⟨_, rfl⟩, .inr ⟨k, hlt, hjx⟩⟩
    · obtain rfl : k = 4 := by omega
      gi_wp2
      go_end0
      exact ⟨⟨_, rfl⟩, .inl hj⟩
end Go.Proofs.Ytbmdodkgaehgnaa
