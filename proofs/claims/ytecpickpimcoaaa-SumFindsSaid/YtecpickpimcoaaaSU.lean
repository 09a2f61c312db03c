/- The law on turned bytes: SumTurns. -/
import Derived.Test.YtecpickpimcoaaaSQ
namespace Go.Proofs.Ytecpickpimcoaaa
open Go Go.RowKit
attribute [local go_sem] Oper.semAt_some

theorem turn_ok (s : List UInt8) (h : s.length ≤ 10000) (at' : Int) {v : Value} (hv : turnR s at' = v) : Veil (∀ w, Calls Try.prog 21 #[.string ⟨s.toArray⟩, .int .i64 at'] w fun e w' => e = .returned v ∧ Below w.heap.size w w') :=
  ⟨fun w => by subst hv; exact turn_any s ⟨by omega⟩ at' w⟩
theorem str_list (s : List UInt8) : (⟨s.toArray⟩ : ByteArray).toList = s := by simp [go_sem]

set_option maxHeartbeats 2000000 in
theorem turns_no (s s' : List UInt8) (hs' : s.take 3000 = s') (at' : Int) (hr : ¬ (0 ≤ at' ∧ at' < (s'.length : Int) - 1)) (h1 : s'.length ≤ 3000) (w : World) : Calls Try.prog 8 #[.string ⟨s.toArray⟩, .int .i64 at'] w fun e w' => e = .returned (.bool true) ∧ Below w.heap.size w w' := by
  go_enter Try.func8, Try.ntmps8
  have CT := turn_ok s' (Nat.le_trans h1 (by decide)) at' (v := .tuple #[.string ⟨#[]⟩, .int .i64 2]) (by unfold turnR; rw [if_neg hr])
  have HS : Veil _ := ⟨hs'⟩
  clear hs' h1 hr
  go_wp2_with (first
    | (go_at_call 21; refine (CT.out w2).mono ?_; rintro e w3 ⟨rfl, hb3⟩)
    | (go_at_call 13; refine (cut_any s _).mono ?_; rintro e w3 ⟨rfl, rfl⟩; rw [HS.out])
    | (go_at_call 11; refine (shown_any _).mono ?_; rintro e w2 ⟨rfl, hb2⟩))
  go_ret
  exact ⟨rfl, below_then hb2 hb3⟩

set_option maxHeartbeats 2000000 in
theorem turns_same (s s' : List UInt8) (hs' : s.take 3000 = s') (at' : Int) (hr : 0 ≤ at' ∧ at' < (s'.length : Int) - 1) (h1 : s'.length ≤ 3000) (he : turnL s' at'.toNat = s') (w : World) : Calls Try.prog 8 #[.string ⟨s.toArray⟩, .int .i64 at'] w fun e w' => e = .returned (.bool true) ∧ Below w.heap.size w w' := by
  go_enter Try.func8, Try.ntmps8
  have CT := turn_ok s' (Nat.le_trans h1 (by decide)) at' (v := .tuple #[.string ⟨s'.toArray⟩, .int .i64 0]) (by unfold turnR; rw [if_pos hr, he])
  have HS : Veil _ := ⟨hs'⟩
  clear hs' h1 hr he
  go_wp2_with (first
    | (go_at_call 21; refine (CT.out w2).mono ?_; rintro e w3 ⟨rfl, hb3⟩)
    | (go_at_call 13; refine (cut_any s _).mono ?_; rintro e w3 ⟨rfl, rfl⟩; rw [HS.out])
    | (go_at_call 11; refine (shown_any _).mono ?_; rintro e w2 ⟨rfl, hb2⟩))
  go_ret
  exact ⟨rfl, below_then hb2 hb3⟩

theorem len_turn (s : List UInt8) (k : Nat) (hk : k + 1 < s.length) : (turnL s k).length = s.length := by
  unfold turnL
  simp only [List.length_append, List.length_take, List.length_drop, List.length_cons, List.length_nil]
  omega

set_option maxHeartbeats 2000000 in
theorem turns_other (s s' : List UInt8) (hs' : s.take 3000 = s') (at' : Int) (hr : 0 ≤ at' ∧ at' < (s'.length : Int) - 1) (h1 : s'.length ≤ 3000) (he : turnL s' at'.toNat ≠ s') (w : World) : Calls Try.prog 8 #[.string ⟨s.toArray⟩, .int .i64 at'] w fun e w' => e = .returned (.bool true) ∧ Below w.heap.size w w' := by
  go_enter Try.func8, Try.ntmps8
  have hst := sum_turned s' at'.toNat (by omega) he
  have hlt := len_turn s' at'.toNat (by omega)
  obtain ⟨T, hT⟩ : ∃ T, turnL s' at'.toNat = T := ⟨_, rfl⟩
  have CT := turn_ok s' (Nat.le_trans h1 (by decide)) at' (v := .tuple #[.string ⟨T.toArray⟩, .int .i64 0]) (by unfold turnR; rw [if_pos hr, hT])
  rw [hT] at he hst hlt
  obtain ⟨q, hq⟩ : ∃ q, sealB (sumN s') = q := ⟨_, rfl⟩
  obtain ⟨u, hu⟩ : ∃ u, s' ++ q = u := ⟨_, rfl⟩
  obtain ⟨z, hz⟩ : ∃ z, T ++ q = z := ⟨_, rfl⟩
  have hq4 : q.length = 4 := by rw [← hq, sealB_len]
  have hlu : u.length = s'.length + 4 := by rw [← hu, List.length_append, hq4]
  have hlz : z.length = s'.length + 4 := by rw [← hz, List.length_append, hq4, hlt]
  have hsv : sealV q ≠ sumN T := by rw [← hq, seal_back _ (sumN_lt s')]; exact Ne.symm hst
  have CS := seal_ok s' u (Nat.le_trans h1 (by decide)) (by rw [hq, hu])
  have CO := open_ok z (by rw [hlz]; exact Nat.le_trans (Nat.add_le_add_right h1 4) (by decide)) (v := .tuple #[.string ⟨#[]⟩, .int .i64 20]) (by rw [← hz]; exact open_not T q hq4 hsv)
  have CA := sum_ok T (by rw [hlt]; exact Nat.le_trans h1 (by decide))
  have CB := sum_ok s' (Nat.le_trans h1 (by decide))
  have hw : wrap64 ((s'.length : Int) + 4) = u.length := by rw [hlu]; clear hlu hlz hlt hr; unfold wrap64; omega
  have hex : (⟨u.toArray⟩ : ByteArray).extract s'.length u.length = ⟨q.toArray⟩ := by
    rw [extract_mid, ← hu, List.drop_left, List.take_of_length_le]
    rw [List.length_append]; exact Nat.le_of_eq (Nat.add_sub_cancel_left ..).symm
  have hle : s'.length ≤ u.length := by rw [hlu]; exact Nat.le_add_right _ _
  have hap : (⟨T.toArray⟩ : ByteArray) ++ ⟨q.toArray⟩ = ⟨z.toArray⟩ := by rw [str_append, hz]
  have hn1 : ¬ 9223372036854775807 < T.length + q.length := no_more (n := 3004) hz (by rw [hlz]; exact Nat.add_le_add_right h1 4)
  have heq : (T == s') = false := by simpa using he
  have HS : Veil _ := ⟨hs'⟩
  have hnn : Veil _ := ⟨hst⟩
  clear hs' hr hT hst hlt hq hu hz hlu hlz hsv hq4 h1 he
  revert hnn CA CB
  obtain ⟨A, hA⟩ : ∃ A : Int, ((sumN T : Nat) : Int) = A := ⟨_, rfl⟩
  obtain ⟨B, hB⟩ : ∃ B : Int, ((sumN s' : Nat) : Int) = B := ⟨_, rfl⟩
  rw [hA, hB]
  intro CA CB hnn
  have hne : A ≠ B := by
    have := hnn.out
    rw [← hA, ← hB]
    exact fun e => this (by omega)
  have hab : (A != B) = true := by simpa using hne
  clear hne
  clear hA hB hnn
  go_wp2_with (first
    | (go_at_call 17; refine (CB.out w6).mono ?_; rintro e w7 ⟨rfl, hb7⟩)
    | (go_at_call 17; refine (CA.out w5).mono ?_; rintro e w6 ⟨rfl, hb6⟩)
    | (go_at_call 19; refine (CO.out w4).mono ?_; rintro e w5 ⟨rfl, hb5⟩)
    | (go_at_call 23; refine (CS.out w3).mono ?_; rintro e w4 ⟨rfl, hb4⟩)
    | (go_at_call 21; refine (CT.out w2).mono ?_; rintro e w3 ⟨rfl, hb3⟩)
    | (go_at_call 13; refine (cut_any s _).mono ?_; rintro e w3 ⟨rfl, rfl⟩; rw [HS.out])
    | (go_at_call 11; refine (shown_any _).mono ?_; rintro e w2 ⟨rfl, hb2⟩))
  go_ret
  have b3 := below_then hb2 hb3
  have b4 := below_then b3 hb4
  have b5 := below_then b4 hb5
  have b6 := below_then b5 hb6
  exact ⟨rfl, below_then b6 hb7⟩

theorem turns_any (s : List UInt8) (at' : Int) (w : World) : Calls Try.prog 8 #[.string ⟨s.toArray⟩, .int .i64 at'] w fun e w' => e = .returned (.bool true) ∧ Below w.heap.size w w' := by
  have h1 : (s.take 3000).length ≤ 3000 := by rw [List.length_take]; omega
  by_cases hr : 0 ≤ at' ∧ at' < ((s.take 3000).length : Int) - 1
  · by_cases he : turnL (s.take 3000) at'.toNat = s.take 3000
    · exact turns_same s _ rfl at' hr h1 he w
    · exact turns_other s _ rfl at' hr h1 he w
  · exact turns_no s _ rfl at' hr h1 w
end Go.Proofs.Ytecpickpimcoaaa
