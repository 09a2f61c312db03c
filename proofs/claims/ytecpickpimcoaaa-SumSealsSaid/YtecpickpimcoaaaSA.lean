/- The walks of cut and of the known sums. -/
import Derived.Test.YtecpickpimcoaaaSM
namespace Go.Proofs.Ytecpickpimcoaaa
open Go Go.RowKit
attribute [local go_sem] Oper.semAt_some

theorem cut_any (s : List UInt8) (w : World) : Calls Try.prog 13 #[.string ⟨s.toArray⟩] w fun e w' => e = .returned (.string ⟨(s.take 3000).toArray⟩) ∧ w = w' := by
  go_enter Try.func13, Try.ntmps13
  go_wp2
  all_goals
    go_ret
    refine ⟨congrArg (fun x => Ending.returned (Value.string x)) ?_, rfl⟩
    first | (rw [extract_mid, List.drop_zero, Nat.sub_zero]; done) | (rw [extract_mid, List.drop_zero, Nat.sub_zero, List.take_of_length_le (Nat.le_refl _), List.take_of_length_le (show s.length ≤ 3000 by omega)])

theorem more_known : moreR 65521 [] = .tuple #[.int .u32 0, .int .i64 2] := by
  have h : okS 65521 = false := by decide +kernel
  simp [moreR, h]
theorem sum_known : sumN [87, 105, 107, 105, 112, 101, 100, 105, 97] = 300286872 := by decide +kernel
theorem sum_none : sumN [] = 1 := by decide +kernel
theorem open_none : openR [] = .tuple #[.string ⟨#[]⟩, .int .i64 20] := by simp [openR, opens]

set_option maxHeartbeats 1000000 in
theorem shown_any (w : World) : Calls Try.prog 11 #[] w fun e w' => e = .returned (.bool true) ∧ Below w.heap.size w w' := by
  have ho := fun w => open_any [] ⟨by decide⟩ w
  have hm := fun w => more_any 65521 ⟨by decide⟩ [] ⟨by decide⟩ w
  have h1 := fun w => sum_any [87, 105, 107, 105, 112, 101, 100, 105, 97] ⟨by decide⟩ w
  have h0 := fun w => sum_any [] ⟨by decide⟩ w
  rw [open_none] at ho
  rw [more_known] at hm
  rw [sum_known] at h1
  rw [sum_none] at h0
  have HO : Veil _ := ⟨ho⟩
  have HM : Veil _ := ⟨hm⟩
  have H1 : Veil _ := ⟨h1⟩
  have H0 : Veil _ := ⟨h0⟩
  clear ho hm h1 h0
  go_enter Try.func11, Try.ntmps11
  go_wp2_with (first | (go_at_call 19; refine (HO.out _).mono ?_; rintro e w2 ⟨rfl, hb2⟩) | (go_at_call 12; refine (HM.out _).mono ?_; rintro e w3 ⟨rfl, hb3⟩) | (go_at_call 17; refine (H1.out w3).mono ?_; rintro e w4 ⟨rfl, hb4⟩; unfold u32v) | (go_at_call 17; refine (H0.out w4).mono ?_; rintro e w5 ⟨rfl, hb5⟩; unfold u32v))
  go_ret
  have b3 := below_then hb2 hb3
  have b4 := below_then b3 hb4
  exact ⟨rfl, below_then b4 hb5⟩

/-! ### The calls of the laws -/
theorem sum_ok (s : List UInt8) (h : s.length ≤ 10000) : Veil (∀ w, Calls Try.prog 17 #[.string ⟨s.toArray⟩] w fun e w' => e = .returned (.int .u32 (sumN s)) ∧ Below w.heap.size w w') :=
  ⟨fun w => sum_any s ⟨by omega⟩ w⟩
theorem seal_ok (s u : List UInt8) (h : s.length ≤ 10000) (hu : s ++ sealB (sumN s) = u) : Veil (∀ w, Calls Try.prog 23 #[.string ⟨s.toArray⟩] w fun e w' => e = .returned (.string ⟨u.toArray⟩) ∧ Below w.heap.size w w') :=
  ⟨fun w => by subst hu; exact seal_any s ⟨by omega⟩ w⟩
theorem open_ok (s : List UInt8) (h : s.length ≤ 10000) {v : Value} (hv : openR s = v) : Veil (∀ w, Calls Try.prog 19 #[.string ⟨s.toArray⟩] w fun e w' => e = .returned v ∧ Below w.heap.size w w') :=
  ⟨fun w => by subst hv; exact open_any s ⟨by omega⟩ w⟩
theorem join_ok (s t u : List UInt8) (h : t.length ≤ 10000) (hu : s ++ t = u) : Veil (∀ w, Calls Try.prog 15 #[.int .u32 (sumN s), .int .u32 (sumN t), .int .i64 t.length] w fun e w' => e = .returned (.tuple #[.int .u32 (sumN u), .int .i64 0]) ∧ Below w.heap.size w w') :=
  ⟨fun w => by
    subst hu
    have := join_any (sumN s) (sumN t) ⟨sumN_lt s⟩ ⟨sumN_lt t⟩ t.length w
    unfold joinR at this
    rw [if_pos (by simp [okS_sumN]; omega), Int.toNat_natCast, join_sum] at this
    exact this⟩
theorem more_ok (s t u : List UInt8) (h : t.length ≤ 10000) (hu : s ++ t = u) : Veil (∀ w, Calls Try.prog 12 #[.int .u32 (sumN s), .string ⟨t.toArray⟩] w fun e w' => e = .returned (.tuple #[.int .u32 (sumN u), .int .i64 0]) ∧ Below w.heap.size w w') :=
  ⟨fun w => by
    subst hu
    have := more_any (sumN s) ⟨sumN_lt s⟩ t ⟨by omega⟩ w
    unfold moreR at this
    rw [if_pos (okS_sumN s), more_sum] at this
    exact this⟩
end Go.Proofs.Ytecpickpimcoaaa
