/- The law on sums: SumSums. -/
import Derived.Test.YtecpickpimcoaaaSX
import Derived.DataShut
namespace Go.Proofs.Ytecpickpimcoaaa
open Go Go.RowKit
attribute [local go_sem] Oper.semAt_some

theorem moreR_form (n : Nat) (s : List UInt8) : ∃ P E : Int, moreR n s = .tuple #[.int .u32 P, .int .i64 E] := by
  unfold moreR
  split
  · exact ⟨_, _, rfl⟩
  · exact ⟨_, _, rfl⟩
theorem joinR_form (a b : Nat) (n : Int) : ∃ P E : Int, joinR a b n = .tuple #[.int .u32 P, .int .i64 E] := by
  unfold joinR
  split
  · exact ⟨_, _, rfl⟩
  · exact ⟨_, _, rfl⟩
theorem lo32 {n : Int} (h : (Lit.int IntKind.u32 n).wf = true) : 0 ≤ n := by
  have := (Lit.wf_int_iff .u32 n).1 h
  simp [IntKind.min, IntKind.signed, IntKind.max, IntKind.bits] at this
  omega
theorem hi32 {n : Int} (h : (Lit.int IntKind.u32 n).wf = true) : n < 4294967296 := by
  have := (Lit.wf_int_iff .u32 n).1 h
  simp [IntKind.min, IntKind.signed, IntKind.max, IntKind.bits] at this
  omega

set_option maxHeartbeats 2000000 in
theorem sums_nat (a b : Nat) (ha : a < 4294967296) (hb : b < 4294967296) (s : List UInt8) (n : Int) (w : World) : Calls Try.prog 3 #[.int .u32 (a : Int), .int .u32 (b : Int), .string ⟨s.toArray⟩, .int .i64 n] w fun e w' => e = .returned (.bool true) ∧ Below w.heap.size w w' := by
  go_enter Try.func3, Try.ntmps3
  have h1 : (s.take 3000).length ≤ 3000 := by rw [List.length_take]; omega
  obtain ⟨s', hs'⟩ : ∃ s', s.take 3000 = s' := ⟨_, rfl⟩
  rw [hs'] at h1
  obtain ⟨P, E, hm⟩ := moreR_form a s'
  obtain ⟨Q, F, hj⟩ := joinR_form a b n
  have CM : Veil (∀ w, Calls Try.prog 12 #[.int .u32 (a : Int), .string ⟨s'.toArray⟩] w fun e w' => e = .returned (.tuple #[.int .u32 P, .int .i64 E]) ∧ Below w.heap.size w w') := ⟨fun w => by rw [← hm]; exact more_any a ⟨ha⟩ s' ⟨by omega⟩ w⟩
  have RM : Veil (∀ w, Calls Try.prog 14 #[.int .u32 (a : Int), .string ⟨s'.toArray⟩] w fun e w' => e = .returned (.tuple #[.int .u32 P, .int .i64 E]) ∧ w = w') := ⟨fun w => by rw [← hm]; exact refmore_any a ⟨ha⟩ s' ⟨by omega⟩ w⟩
  have CJ : Veil (∀ w, Calls Try.prog 15 #[.int .u32 (a : Int), .int .u32 (b : Int), .int .i64 n] w fun e w' => e = .returned (.tuple #[.int .u32 Q, .int .i64 F]) ∧ Below w.heap.size w w') := ⟨fun w => by rw [← hj]; exact join_any a b ⟨ha⟩ ⟨hb⟩ n w⟩
  have RJ : Veil (∀ w, Calls Try.prog 16 #[.int .u32 (a : Int), .int .u32 (b : Int), .int .i64 n] w fun e w' => e = .returned (.tuple #[.int .u32 Q, .int .i64 F]) ∧ w = w') := ⟨fun w => by rw [← hj]; exact refjoin_any a b ⟨ha⟩ ⟨hb⟩ n w⟩
  have CS := sum_ok s' (Nat.le_trans h1 (by decide))
  have RS : Veil (∀ w, Calls Try.prog 18 #[.string ⟨s'.toArray⟩] w fun e w' => e = .returned (.int .u32 (sumN s')) ∧ w = w') := ⟨fun w => refsum_any s' ⟨by omega⟩ w⟩
  have CC : Veil (∀ w, Calls Try.prog 13 #[.string ⟨s.toArray⟩] w fun e w' => e = .returned (.string ⟨s'.toArray⟩) ∧ w = w') := ⟨fun w => by rw [← hs']; exact cut_any s w⟩
  clear hs' h1 hm hj ha hb
  go_wp2_with (first
    | (go_at_call 18; refine (RS.out _).mono ?_; rintro e w9 ⟨rfl, rfl⟩)
    | (go_at_call 17; refine (CS.out _).mono ?_; rintro e w8 ⟨rfl, hb8⟩)
    | (go_at_call 16; refine (RJ.out _).mono ?_; rintro e w7 ⟨rfl, rfl⟩)
    | (go_at_call 15; refine (CJ.out _).mono ?_; rintro e w6 ⟨rfl, hb6⟩)
    | (go_at_call 14; refine (RM.out _).mono ?_; rintro e w5 ⟨rfl, rfl⟩)
    | (go_at_call 12; refine (CM.out _).mono ?_; rintro e w4 ⟨rfl, hb4⟩)
    | (go_at_call 13; refine (CC.out _).mono ?_; rintro e w3 ⟨rfl, rfl⟩)
    | (go_at_call 11; refine (shown_any _).mono ?_; rintro e w2 ⟨rfl, hb2⟩))
  go_ret
  have b4 := below_then hb2 hb4
  have b6 := below_then b4 hb6
  exact ⟨rfl, below_then b6 hb8⟩

theorem sums_law (a b : Int) (ha0 : 0 ≤ a) (ha : a < 4294967296) (hb0 : 0 ≤ b) (hb : b < 4294967296) (s : List UInt8) (n : Int) (w : World) : Calls Try.prog 3 #[.int .u32 a, .int .u32 b, .string ⟨s.toArray⟩, .int .i64 n] w fun e w' => e = .returned (.bool true) ∧ Below w.heap.size w w' := by
  have := sums_nat a.toNat b.toNat (by omega) (by omega) s n w
  rwa [show ((a.toNat : Nat) : Int) = a by omega, show ((b.toNat : Nat) : Int) = b by omega] at this
end Go.Proofs.Ytecpickpimcoaaa
