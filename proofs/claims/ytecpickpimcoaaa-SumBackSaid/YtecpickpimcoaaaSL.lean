/- The laws on joined sums: SumJoins, SumBack, SumHalves. -/
import Derived.Test.YtecpickpimcoaaaSA
namespace Go.Proofs.Ytecpickpimcoaaa
open Go Go.RowKit
attribute [local go_sem] Oper.semAt_some

set_option maxHeartbeats 2000000 in
theorem joins_any (s t : List UInt8) (w : World) : Calls Try.prog 5 #[.string ⟨s.toArray⟩, .string ⟨t.toArray⟩] w fun e w' => e = .returned (.bool true) ∧ Below w.heap.size w w' := by
  go_enter Try.func5, Try.ntmps5
  have h1 : (s.take 3000).length ≤ 3000 := by rw [List.length_take]; omega
  have h2 : (t.take 3000).length ≤ 3000 := by rw [List.length_take]; omega
  obtain ⟨s', hs'⟩ : ∃ s', s.take 3000 = s' := ⟨_, rfl⟩
  obtain ⟨t', ht'⟩ : ∃ t', t.take 3000 = t' := ⟨_, rfl⟩
  rw [hs'] at h1
  rw [ht'] at h2
  obtain ⟨u, hu⟩ : ∃ u, s' ++ t' = u := ⟨_, rfl⟩
  have hlu : u.length ≤ 6000 := by rw [← hu, List.length_append]; omega
  have CS := sum_ok s' (by omega)
  have CT := sum_ok t' (by omega)
  have CU := sum_ok u (by omega)
  have CJ := join_ok s' t' u (by omega) hu
  have CM := more_ok s' t' u (by omega) hu
  have hap : (⟨s'.toArray⟩ : ByteArray) ++ ⟨t'.toArray⟩ = ⟨u.toArray⟩ := by rw [str_append, hu]
  have hn1 : ¬ 9223372036854775807 < s'.length + t'.length := by omega
  have HS : Veil _ := ⟨hs'⟩
  have HT : Veil _ := ⟨ht'⟩
  clear hs' ht' hu hlu h1 h2
  go_wp2_with (first | (go_at_call 17; refine (CU.out w9).mono ?_; rintro e w10 ⟨rfl, hb10⟩) | (go_at_call 12; refine (CM.out _).mono ?_; rintro e w9 ⟨rfl, hb9⟩) | (go_at_call 17; refine (CS.out w7).mono ?_; rintro e w8 ⟨rfl, hb8⟩) | (go_at_call 15; refine (CJ.out _).mono ?_; rintro e w7 ⟨rfl, hb7⟩) | (go_at_call 17; refine (CT.out w5).mono ?_; rintro e w6 ⟨rfl, hb6⟩) | (go_at_call 17; refine (CS.out w2).mono ?_; rintro e w5 ⟨rfl, hb5⟩) | (go_at_call 13; have mk := mark; refine (cut_any t _).mono ?_; rintro e w4 ⟨rfl, rfl⟩; rw [HT.out]) | (go_at_call 13; refine (cut_any s _).mono ?_; rintro e w3 ⟨rfl, rfl⟩; rw [HS.out]; have mark := True.intro) | (go_at_call 11; refine (shown_any _).mono ?_; rintro e w2 ⟨rfl, hb2⟩))
  go_ret
  have b5 := below_then hb2 hb5
  have b6 := below_then b5 hb6
  have b7 := below_then b6 hb7
  have b8 := below_then b7 hb8
  have b9 := below_then b8 hb9
  exact ⟨rfl, below_then b9 hb10⟩

set_option maxHeartbeats 2000000 in
theorem back_any (s : List UInt8) (w : World) : Calls Try.prog 6 #[.string ⟨s.toArray⟩] w fun e w' => e = .returned (.bool true) ∧ Below w.heap.size w w' := by
  go_enter Try.func6, Try.ntmps6
  have h1 : (s.take 3000).length ≤ 3000 := by rw [List.length_take]; omega
  obtain ⟨s', hs'⟩ : ∃ s', s.take 3000 = s' := ⟨_, rfl⟩
  rw [hs'] at h1
  obtain ⟨u, hu⟩ : ∃ u, s' ++ sealB (sumN s') = u := ⟨_, rfl⟩
  have hlu : u.length = s'.length + 4 := by rw [← hu, List.length_append, sealB_len]
  have CS := seal_ok s' u (by omega) hu
  have CO := open_ok u (by omega) (v := .tuple #[.string ⟨s'.toArray⟩, .int .i64 0]) (by rw [← hu]; exact open_seal s')
  have hw : wrap64 ((s'.length : Int) + 4) = u.length := by unfold wrap64; omega
  have HS : Veil _ := ⟨hs'⟩
  clear hs' hu hlu h1
  go_wp2_with (first | (go_at_call 23; refine (CS.out w4).mono ?_; rintro e w5 ⟨rfl, hb5⟩) | (go_at_call 19; refine (CO.out w3).mono ?_; rintro e w4 ⟨rfl, hb4⟩) | (go_at_call 23; refine (CS.out w2).mono ?_; rintro e w3 ⟨rfl, hb3⟩) | (go_at_call 13; refine (cut_any s _).mono ?_; rintro e w3 ⟨rfl, rfl⟩; rw [HS.out]) | (go_at_call 11; refine (shown_any _).mono ?_; rintro e w2 ⟨rfl, hb2⟩))
  go_ret
  have b3 := below_then hb2 hb3
  have b4 := below_then b3 hb4
  exact ⟨rfl, below_then b4 hb5⟩

set_option maxHeartbeats 2000000 in
theorem halves_any (s : List UInt8) (w : World) : Calls Try.prog 9 #[.string ⟨s.toArray⟩] w fun e w' => e = .returned (.bool true) ∧ Below w.heap.size w w' := by
  go_enter Try.func9, Try.ntmps9
  have h1 : (s.take 3000).length ≤ 3000 := by rw [List.length_take]; omega
  obtain ⟨s', hs'⟩ : ∃ s', s.take 3000 = s' := ⟨_, rfl⟩
  rw [hs'] at h1
  have CS := sum_ok s' (by omega)
  have CM := more_ok s' [] s' (by simp) (List.append_nil s')
  have hup : ((sumN s' : Nat) : Int) / 65536 < 65521 := by have := sumN_up s'; have := (sum_lt s').2; omega
  have hlow : bits BinOp.and IntKind.u32 ((sumN s' : Nat) : Int) 65535 < 65521 := by rw [and_ffff _ (sumN_lt s')]; have := sumN_low s'; have := (sum_lt s').1; omega
  have HS : Veil _ := ⟨hs'⟩
  clear hs' h1
  revert CS CM hup hlow
  generalize ((sumN s' : Nat) : Int) = N
  intro CS CM hup hlow
  have e1 : decide (N / 65536 < 65521) = true := decide_eq_true hup
  have e2 : decide (bits BinOp.and IntKind.u32 N 65535 < 65521) = true := decide_eq_true hlow
  clear hup hlow
  go_wp2_with (first | (go_at_call 12; refine (CM.out w3).mono ?_; rintro e w4 ⟨rfl, hb4⟩) | (go_at_call 17; refine (CS.out w2).mono ?_; rintro e w3 ⟨rfl, hb3⟩) | (go_at_call 13; refine (cut_any s _).mono ?_; rintro e w3 ⟨rfl, rfl⟩; rw [HS.out]) | (go_at_call 11; refine (shown_any _).mono ?_; rintro e w2 ⟨rfl, hb2⟩))
  go_ret
  have b3 := below_then hb2 hb3
  exact ⟨rfl, below_then b3 hb4⟩
end Go.Proofs.Ytecpickpimcoaaa
