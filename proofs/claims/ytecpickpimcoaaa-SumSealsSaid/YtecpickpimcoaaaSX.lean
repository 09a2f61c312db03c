/- The walk of the document's own Join. -/
import Derived.Test.YtecpickpimcoaaaSW
namespace Go.Proofs.Ytecpickpimcoaaa
open Go Go.RowKit
attribute [local go_sem] Oper.semAt_some

set_option maxHeartbeats 1000000 in
theorem refjoin_any (a b : Nat) (ha : Veil (a < 4294967296)) (hb : Veil (b < 4294967296)) (n : Int) (w : World) : Calls Try.prog 16 #[.int .u32 a, .int .u32 b, .int .i64 n] w fun e w' => e = .returned (joinR a b n) ∧ w = w' := by
  go_enter Try.func16, Try.ntmps16
  cases hoa : okS a
  · have HOA : Veil _ := ⟨hoa⟩
    clear hoa
    go_wp2_with (go_at_call 29; refine (right_any a _).mono ?_; rintro e w2 ⟨rfl, rfl⟩; rw [HOA.out])
    go_ret2
    exact ⟨by rw [joinR, if_neg (by intro h; simp [HOA.out] at h)]; rfl, rfl⟩
  · have HOA : Veil _ := ⟨hoa⟩
    cases hob : okS b
    · have HOB : Veil _ := ⟨hob⟩
      clear hoa hob
      go_wp2_with (first | (go_at_call 29; have mk := firstCallDone; refine (right_any b _).mono ?_; rintro e w2 ⟨rfl, rfl⟩; rw [HOB.out]) | (go_at_call 29; refine (right_any a _).mono ?_; rintro e w2 ⟨rfl, rfl⟩; rw [HOA.out]; have firstCallDone := True.intro))
      go_ret2
      exact ⟨by rw [joinR, if_neg (by intro h; simp [HOB.out] at h)]; rfl, rfl⟩
    · have HOB : Veil _ := ⟨hob⟩
      have hoA : Veil (okS a = true) := ⟨hoa⟩
      have hoB : Veil (okS b = true) := ⟨hob⟩
      clear hoa hob
      have hn3 : n < 0 ∨ (0 ≤ n ∧ 1048576 < n) ∨ (0 ≤ n ∧ n ≤ 1048576) := by omega
      rcases hn3 with hn1 | ⟨hn0, hn1⟩ | ⟨hn1, hn2⟩
      · go_wp2_with (first | (go_at_call 29; have mk := firstCallDone; refine (right_any b _).mono ?_; rintro e w2 ⟨rfl, rfl⟩; rw [HOB.out]) | (go_at_call 29; refine (right_any a _).mono ?_; rintro e w2 ⟨rfl, rfl⟩; rw [HOA.out]; have firstCallDone := True.intro))
        go_ret2
        exact ⟨by rw [joinR, if_neg (by intro h; simp at h; omega)]; rfl, rfl⟩
      · go_wp2_with (first | (go_at_call 29; have mk := firstCallDone; refine (right_any b _).mono ?_; rintro e w2 ⟨rfl, rfl⟩; rw [HOB.out]) | (go_at_call 29; refine (right_any a _).mono ?_; rintro e w2 ⟨rfl, rfl⟩; rw [HOA.out]; have firstCallDone := True.intro))
        go_ret2
        exact ⟨by rw [joinR, if_neg (by intro h; simp at h; omega)]; rfl, rfl⟩
      · obtain ⟨C, D, E, F, M, S, T, V, e1, e2, e3, e4, e5, e6, e7, e8, ⟨c1, c2⟩, ⟨c3, c4⟩, ⟨c5, c6⟩, ⟨c7, c8⟩, ⟨c9, c10⟩, ⟨c11, c12⟩, ⟨c13, c14⟩, ⟨c15, c16⟩, hv⟩ := join_nums a b n hoA.out hoB.out hn1
        have a0 : 0 ≤ (a : Int) := by omega
        have b0 : 0 ≤ (b : Int) := by omega
        have HV : Veil _ := ⟨hv⟩
        clear hv
        have RA : Veil (∀ w, Calls Try.prog 29 #[.int .u32 (a : Int)] w fun e w' => e = .returned (.bool true) ∧ w = w') := ⟨fun w => by have := right_any a w; rwa [hoA.out] at this⟩
        have RB : Veil (∀ w, Calls Try.prog 29 #[.int .u32 (b : Int)] w fun e w' => e = .returned (.bool true) ∧ w = w') := ⟨fun w => by have := right_any b w; rwa [hoB.out] at this⟩
        have HR : Veil (joinR a b n = .tuple #[.int .u32 V, .int .i64 0]) := ⟨by
          rw [joinR, if_pos (by rw [hoA.out, hoB.out]; simp [hn1, hn2]), HV.out]; rfl⟩
        revert HR
        obtain ⟨R, hR⟩ : ∃ R, joinR a b n = R := ⟨_, rfl⟩
        rw [hR]
        intro HR
        clear hR HOA HOB hoA hoB HV ha hb
        revert e1 e2 e3 e4 a0 b0 RA RB
        generalize (a : Int) = A
        generalize (b : Int) = B
        intro e1 e2 e3 e4 a0 b0 RA RB
        go_wp2_with (first | (go_at_call 29; have mk := firstCallDone; refine (RB.out _).mono ?_; rintro e w2 ⟨rfl, rfl⟩) | (go_at_call 29; refine (RA.out _).mono ?_; rintro e w2 ⟨rfl, rfl⟩; have firstCallDone := True.intro))
        go_ret2
        exact ⟨by rw [HR.out]; rfl, rfl⟩
end Go.Proofs.Ytecpickpimcoaaa
