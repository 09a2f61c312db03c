/- The iterator over a string's bytes. -/
import Derived.OwnWalkIn
import Derived.TacticsInMore
import Derived.LoopNIn
import Derived.LoopIn
import Derived.Test.YtapmppiiphbcpaaKS1
import Derived.Test.YtapmppiiphbcpaaKR
namespace Go.Proofs.Ytapmppiiphbcpaa.Sm
open Go.RowKit

theorem each_any (s : List UInt8) (w : World) : Calls Try.prog 104 #[.string ⟨s.toArray⟩] w fun e w' => e = .returned (.func (.func 108) #[] #[.pointer (some ⟨w.heap.size, 0, none⟩)]) ∧ w.alloc (.cells #[.string ⟨s.toArray⟩] 9) = w' := by
  go_enter Try.func104, Try.ntmps104
  go_wp2
  go_ret
  exact ⟨rfl, rfl⟩

/-- What the iterator hands over. -/
def hands (s : List UInt8) (k : Nat) : Array Value := #[.int .i64 k, .int .u8 (s.getD k 0).toNat]

set_option maxHeartbeats 1000000 in
theorem each_seq (Bx : Nat) (s : List UInt8) (hs : s.length ≤ 9223372036854775807) :
    Seq Try.prog 108 #[.pointer (some ⟨Bx, 0, none⟩)] (hands s) s.length (fun W => W.cell? ⟨Bx, 0, none⟩ = some (.string ⟨s.toArray⟩)) := by
  intro l n J Jx W hJ hJx hF hY h0
  have hf1 := hF 0 W h0
  refine callsIn_of_wp Try.func108 rfl trivial ?_
  simp only [Try.ntmps108, List.size_toArray, List.length_cons, List.length_nil, Nat.reduceAdd, Nat.reduceSub, Array.replicate_succ, Array.replicate_zero, List.push_toArray, List.append_toArray, List.nil_append, List.cons_append]
  gi_wp2
  gi_loopw [6] (fun i wr => ∃ k : Nat, k ≤ s.length ∧ i = .int .i64 k ∧ J k wr) (fun i _ => s.length - (intOf i).toNat)
  case atStart => exact ⟨0, Nat.zero_le _, rfl, h0⟩
  case round =>
    obtain ⟨k, hk, rfl, hj⟩ := hrel
    clear hf1
    by_cases hlt : k < s.length
    · have hf2 := hF k wr hj
      have hYk := hY k wr hlt hj
      have e : s.getD k 0 = (⟨s.toArray⟩ : ByteArray)[k]'(by simpa [ByteArray.size] using hlt) := by
        simp [List.getD, hlt]
        rfl
      simp only [hands, e] at hYk
      obtain ⟨fn, tmps, assign, body, hy, hR⟩ := hYk
      gi_wp2
      refine hR.mono ?_
      rintro e W3 (⟨rfl, hj'⟩ | ⟨rfl, hjx⟩)
      · gi_wp2
        go_roundw
        case rel => exact ⟨k + 1, by omega, by go_num, hj'⟩
        case measure => simp [intOf]; omega
      · gi_wp2
        refine bodyPost_ret (results_none rfl _ _ _) rfl ?_
        exact ⟨⟨_, rfl⟩, .inr ⟨k, hlt, hjx⟩⟩
    · obtain rfl : k = s.length := by omega
      gi_wp2
      go_end0
      exact ⟨⟨_, rfl⟩, .inl hj⟩
end Go.Proofs.Ytapmppiiphbcpaa.Sm
