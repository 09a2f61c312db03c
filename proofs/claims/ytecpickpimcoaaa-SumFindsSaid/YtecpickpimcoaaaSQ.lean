/- The law on three parts: SumParts. -/
import Derived.Test.YtecpickpimcoaaaSA
namespace Go.Proofs.Ytecpickpimcoaaa
open Go Go.RowKit
attribute [local go_sem] Oper.semAt_some

/-- A text's first thousand bytes, as the law takes them. -/
theorem first_part (s : List UInt8) : ∃ (m : Nat) (t : List UInt8), m ≤ s.length ∧ t.length ≤ 1000 ∧ (⟨s.toArray⟩ : ByteArray).extract 0 m = ⟨t.toArray⟩ ∧ ∀ w, (Builtin.min_ #[3, 3] 3 #[.int .i64 (s.length : Int), .int .i64 1000]).run Try.prog w = .ok (.int .i64 (m : Nat)) w := by
  refine ⟨min s.length 1000, s.take (min s.length 1000), Nat.min_le_left _ _, by rw [List.length_take]; omega, by rw [extract_mid]; simp, fun w => ?_⟩
  rw [run_min_int2]
  congr 2
  split <;> omega

theorem len_two {s t u : List UInt8} {m n : Nat} (hu : s ++ t = u) (hs : s.length ≤ m) (ht : t.length ≤ n) : u.length ≤ m + n := by
  rw [← hu, List.length_append]; omega
theorem wrap_two {s t u : List UInt8} (hu : s ++ t = u) (hl : u.length ≤ 2000) : wrap64 ((s.length : Int) + t.length) = u.length := by
  have : u.length = s.length + t.length := by rw [← hu, List.length_append]
  unfold wrap64; omega
theorem no_more {s t u : List UInt8} {n : Nat} (hu : s ++ t = u) (hl : u.length ≤ n) (hn : n ≤ 100000 := by decide) : ¬ 9223372036854775807 < s.length + t.length := by
  have : u.length = s.length + t.length := by rw [← hu, List.length_append]
  omega

set_option maxHeartbeats 2000000 in
theorem parts_any (a b c : List UInt8) (w : World) : Calls Try.prog 10 #[.string ⟨a.toArray⟩, .string ⟨b.toArray⟩, .string ⟨c.toArray⟩] w fun e w' => e = .returned (.bool true) ∧ Below w.heap.size w w' := by
  go_enter Try.func10, Try.ntmps10
  obtain ⟨ma, a', hma, hla, hxa, hna⟩ := first_part a
  obtain ⟨mb, b', hmb, hlb, hxb, hnb⟩ := first_part b
  obtain ⟨mc, c', hmc, hlc, hxc, hnc⟩ := first_part c
  obtain ⟨u, hu⟩ : ∃ u, a' ++ b' = u := ⟨_, rfl⟩
  obtain ⟨v, hv⟩ : ∃ v, b' ++ c' = v := ⟨_, rfl⟩
  obtain ⟨x, hx⟩ : ∃ x, u ++ c' = x := ⟨_, rfl⟩
  have hx2 : a' ++ v = x := by rw [← hx, ← hu, ← hv, List.append_assoc]
  have hlu : u.length ≤ 2000 := len_two hu hla hlb
  have hlv : v.length ≤ 2000 := len_two hv hlb hlc
  have hlx : x.length ≤ 3000 := len_two hx hlu hlc
  have CA := sum_ok a' (Nat.le_trans hla (by decide))
  have CB := sum_ok b' (Nat.le_trans hlb (by decide))
  have CC := sum_ok c' (Nat.le_trans hlc (by decide))
  have CX := sum_ok x (Nat.le_trans hlx (by decide))
  have JU := join_ok a' b' u (Nat.le_trans hlb (by decide)) hu
  have JX := join_ok u c' x (Nat.le_trans hlc (by decide)) hx
  have JV := join_ok b' c' v (Nat.le_trans hlc (by decide)) hv
  have JW := join_ok a' v x (Nat.le_trans hlv (by decide)) hx2
  have hw : wrap64 ((b'.length : Int) + c'.length) = v.length := wrap_two hv hlv
  have hap : (⟨a'.toArray⟩ : ByteArray) ++ ⟨b'.toArray⟩ = ⟨u.toArray⟩ := by rw [str_append, hu]
  have hap2 : (⟨u.toArray⟩ : ByteArray) ++ ⟨c'.toArray⟩ = ⟨x.toArray⟩ := by rw [str_append, hx]
  have n1 : ¬ 9223372036854775807 < a'.length + b'.length := no_more hu hlu
  have n2 : ¬ 9223372036854775807 < u.length + c'.length := no_more hx hlx
  clear hu hv hx hx2 hlu hlv hlx hla hlb hlc
  go_wp2_with (first
    | (go_at_call 17; refine (CX.out w12).mono ?_; rintro e w13 ⟨rfl, hb13⟩)
    | (go_at_call 15; refine (JW.out w11).mono ?_; rintro e w12 ⟨rfl, hb12⟩)
    | (go_at_call 17; refine (CA.out w10).mono ?_; rintro e w11 ⟨rfl, hb11⟩)
    | (go_at_call 15; refine (JV.out w9).mono ?_; rintro e w10 ⟨rfl, hb10⟩)
    | (go_at_call 17; refine (CC.out w8).mono ?_; rintro e w9 ⟨rfl, hb9⟩)
    | (go_at_call 17; refine (CB.out w7).mono ?_; rintro e w8 ⟨rfl, hb8⟩)
    | (go_at_call 15; refine (JX.out w6).mono ?_; rintro e w7 ⟨rfl, hb7⟩)
    | (go_at_call 17; refine (CC.out w5).mono ?_; rintro e w6 ⟨rfl, hb6⟩)
    | (go_at_call 15; refine (JU.out w4).mono ?_; rintro e w5 ⟨rfl, hb5⟩)
    | (go_at_call 17; refine (CB.out w3).mono ?_; rintro e w4 ⟨rfl, hb4⟩)
    | (go_at_call 17; refine (CA.out w2).mono ?_; rintro e w3 ⟨rfl, hb3⟩)
    | (go_at_call 11; refine (shown_any _).mono ?_; rintro e w2 ⟨rfl, hb2⟩))
  go_ret
  have b3 := below_then hb2 hb3
  have b4 := below_then b3 hb4
  have b5 := below_then b4 hb5
  have b6 := below_then b5 hb6
  have b7 := below_then b6 hb7
  have b8 := below_then b7 hb8
  have b9 := below_then b8 hb9
  have b10 := below_then b9 hb10
  have b11 := below_then b10 hb11
  have b12 := below_then b11 hb12
  exact ⟨rfl, below_then b12 hb13⟩
end Go.Proofs.Ytecpickpimcoaaa
