/- Money: the program's Right, Add, Sub, Mul, Move. -/
import Derived.Test.YthjannjglahdpaaDoorSh
import Derived.Test.YthjannjglahdpaaDoorKZ1
import Derived.Test.YthjannjglahdpaaDoorKS6
namespace Go.Proofs.YthjannjglahdpaaDoor
open Go Go.RowKit Sm
attribute [local go_sem] Oper.semAt_some

theorem els_two (w : World) (a b : Int) (t : TypeId) : Els elL (w.alloc (.cells #[.int .i64 a, .int .i64 b] t)) (some ⟨w.heap.size, 0, none⟩) [a, b] := by
  intro _
  refine ⟨_, _, rfl, ?_⟩
  intro k j hk hj
  have hj0 : j = 0 := Nat.lt_one_iff.1 hj
  subst hj0
  simp only [List.length_cons, List.length_nil] at hk
  match k, hk with
  | 0, _ => show _ = some (Value.int .i64 a); rw [show elL.z = 1 from rfl]; go_simp
  | 1, _ => show _ = some (Value.int .i64 b); rw [show elL.z = 1 from rfl]; go_simp
theorem cks_two {M : Nat → Addr} {w : World} {v1 v2 : Value} {k1 k2 : Ck} {t : TypeId} (h1 : CkAt M w v1 k1) (h2 : CkAt M w v2 k2) : CksAt M (w.alloc (.cells #[v1, v2] t)) (some ⟨w.heap.size, 0, none⟩) [k1, k2] := by
  refine ⟨_, _, rfl, fun k hk => ?_⟩
  simp only [List.length_cons, List.length_nil] at hk
  match k, hk with
  | 0, _ => exact ⟨v1, by go_simp, h1.below (below_al (Below.refl _ _) _)⟩
  | 1, _ => exact ⟨v2, by go_simp, h2.below (below_al (Below.refl _ _) _)⟩
theorem cks_three {M : Nat → Addr} {w : World} {v1 v2 v3 : Value} {k1 k2 k3 : Ck} {t : TypeId} (h1 : CkAt M w v1 k1) (h2 : CkAt M w v2 k2) (h3 : CkAt M w v3 k3) : CksAt M (w.alloc (.cells #[v1, v2, v3] t)) (some ⟨w.heap.size, 0, none⟩) [k1, k2, k3] := by
  refine ⟨_, _, rfl, fun k hk => ?_⟩
  simp only [List.length_cons, List.length_nil] at hk
  match k, hk with
  | 0, _ => exact ⟨v1, by go_simp, h1.below (below_al (Below.refl _ _) _)⟩
  | 1, _ => exact ⟨v2, by go_simp, h2.below (below_al (Below.refl _ _) _)⟩
  | 2, _ => exact ⟨v3, by go_simp, h3.below (below_al (Below.refl _ _) _)⟩
theorem CkAt.func {M : Nat → Addr} {w : World} {v : Value} : ∀ {k : Ck}, CkAt M w v k → ∃ f b, v = .func (.func f) #[] b
  | .am _, ⟨_, _, _, h, _⟩ => ⟨_, _, h⟩
  | .at _ _ _, ⟨_, _, _, h, _⟩ => ⟨_, _, h⟩
theorem moatmost_int {M : Nat → Addr} (N m : Int) (k : Nat) (h0 : 0 ≤ N) (h1 : 0 ≤ m) (w : World) :
    Calls Tryd.prog 28 #[.int .u64 N, .int .u64 m, errW M k] w fun e w' => ∃ v, e = .returned v ∧ CkAt M w' v (.at N.toNat m.toNat k) ∧ Below w.heap.size w w' := by
  obtain ⟨n, rfl⟩ : ∃ n : Nat, N = n := ⟨N.toNat, by omega⟩
  obtain ⟨m, rfl⟩ : ∃ n : Nat, m = n := ⟨m.toNat, by omega⟩
  exact moatmost_any n m k w
theorem ok_am2 (a b : Int) (k : Nat) (n m : Nat) : firstC [.am [a, b], .at n m k] = if amt a && amt b then (if n ≤ m then 0 else 110 + (k : Int)) else 110 := by
  have e1 : (Ck.am [a, b]).ok = (amt a && amt b) := by simp only [Ck.ok, List.all_cons, List.all_nil, Bool.and_true]
  have e2 : (Ck.at n m k).ok = decide (n ≤ m) := rfl
  unfold firstC firstC firstC
  rw [e1, e2]
  by_cases h1 : (amt a && amt b) = true
  · rw [if_pos h1, if_pos h1]
    by_cases h2 : n ≤ m
    · rw [if_pos h2, if_pos (decide_eq_true h2)]
    · rw [if_neg h2, if_neg (by rw [decide_eq_true_iff]; exact h2)]; rfl
  · rw [if_neg h1, if_neg h1]; rfl
/-- What Add's checks come to. -/
theorem add_checks (a b : Int) (_ : I64 a) (_ : I64 b) : (if firstC [.am [a, b], .at (wrap64 (a + b) % 18446744073709551616).toNat 1152921504606846976 1] = 0 then wrap64 (a + b) else 0, firstC [.am [a, b], .at (wrap64 (a + b) % 18446744073709551616).toNat 1152921504606846976 1]) = addA a b := by
  rw [ok_am2]
  unfold addA
  by_cases h1 : (amt a && amt b) = true
  · rw [if_pos h1, if_pos h1]
    rw [Bool.and_eq_true, amt_iff, amt_iff] at h1
    have hw : wrap64 (a + b) = a + b := by unfold wrap64; omega
    rw [hw]
    by_cases h2 : amt (a + b) = true
    · rw [if_pos h2]
      rw [amt_iff] at h2
      rw [show (if ((a + b) % 18446744073709551616).toNat ≤ 1152921504606846976 then (0 : Int) else 110 + ((1 : Nat) : Int)) = 0 from if_pos (by omega), if_pos rfl]
    · rw [if_neg h2]
      rw [amt_iff] at h2
      rw [show (if ((a + b) % 18446744073709551616).toNat ≤ 1152921504606846976 then (0 : Int) else 110 + ((1 : Nat) : Int)) = 111 from if_neg (by omega), if_neg (by decide)]
  · rw [if_neg h1, if_neg h1, if_neg (by decide)]
theorem sub_checks (a b : Int) (_ : I64 a) (_ : I64 b) : (if firstC [.am [a, b], .at (b % 18446744073709551616).toNat (a % 18446744073709551616).toNat 2] = 0 then wrap64 (a - b) else 0, firstC [.am [a, b], .at (b % 18446744073709551616).toNat (a % 18446744073709551616).toNat 2]) = subA a b := by
  rw [ok_am2]
  unfold subA
  by_cases h1 : (amt a && amt b) = true
  · rw [if_pos h1, if_pos h1]
    rw [Bool.and_eq_true, amt_iff, amt_iff] at h1
    have hw : wrap64 (a - b) = a - b := by unfold wrap64; omega
    rw [hw]
    by_cases h2 : b ≤ a
    · rw [if_pos h2, show (if (b % 18446744073709551616).toNat ≤ (a % 18446744073709551616).toNat then (0 : Int) else 110 + ((2 : Nat) : Int)) = 0 from if_pos (by omega), if_pos rfl]
    · rw [if_neg h2, show (if (b % 18446744073709551616).toNat ≤ (a % 18446744073709551616).toNat then (0 : Int) else 110 + ((2 : Nat) : Int)) = 112 from if_neg (by omega), if_neg (by decide)]
  · rw [if_neg h1, if_neg h1, if_neg (by decide)]

set_option maxRecDepth 20000 in
set_option maxHeartbeats 1000000 in
theorem moadd_any (a b : Int) (ha : I64 a) (hb : I64 b) (w : World) (hS : MSent w) : Calls Tryd.prog 11 #[.int .i64 a, .int .i64 b] w fun e w' => e = .returned (.tuple #[.int .i64 (addA a b).1, .int .i64 (addA a b).2]) ∧ Below w.heap.size w w' := by
  obtain ⟨M, hM⟩ := hS
  have HM : Veil _ := ⟨hM⟩
  clear hM
  obtain ⟨S, hS⟩ : ∃ S, wrap64 (a + b) = S := ⟨_, rfl⟩
  have HE : Veil _ := ⟨add_checks a b ha hb⟩
  rw [hS] at HE
  have HW : Veil _ := ⟨hS⟩
  have HQ : Veil _ := ⟨fun (p : Option Addr) (w' : World) (hM : MSen w' M) (h : CksAt M w' p [.am [a, b], .at (S % 18446744073709551616).toNat 1152921504606846976 1]) => mochecked_any (c := 2) S [.am [a, b], .at (S % 18446744073709551616).toNat 1152921504606846976 1] (show (2 : Nat) ≤ 1000 by decide) (by intro k hk; simp only [List.mem_cons, List.not_mem_nil, or_false] at hk; rcases hk with rfl | rfl; exact (by decide : (2 : Nat) ≤ 1000); all_goals exact ⟨by omega, by omega, by decide⟩) hM h⟩
  revert HE; revert HQ
  generalize firstC [.am [a, b], .at (S % 18446744073709551616).toNat 1152921504606846976 1] = C
  generalize (if C = 0 then S else 0) = V
  generalize addA a b = r
  intro HQ HE
  obtain ⟨v, c⟩ := r
  clear ha hb hS
  go_enter Tryd.func11, Tryd.ntmps11
  go_wp2
  rw [HW.out]
  clear HW
  refine region_new [.is (.int .i64 S), .is (.int .i64 a), .is (.int .i64 b), .gen (fun v W => ∃ p : Option Addr, v = .slice p 2 2 ∧ Els elL W p [a, b]) (fun v W W' hb ⟨p, h, hz⟩ => ⟨p, h, hz.below hb⟩), .gen (fun v W => CkAt M W v (.am [a, b])) (fun v W W' hb h => CkAt.below h hb), .is (.int .i64 S), .is (.int .u64 (S % 18446744073709551616)), .is (errW M 1), .gen (fun v W => CkAt M W v (.at (S % 18446744073709551616).toNat 1152921504606846976 1)) (fun v W W' hb h => CkAt.below h hb), .gen (fun v W => ∃ p : Option Addr, v = .slice p 2 2 ∧ CksAt M W p [.am [a, b], .at (S % 18446744073709551616).toNat 1152921504606846976 1]) (fun v W W' hb ⟨p, h, hz⟩ => ⟨p, h, hz.below hb⟩), .is (.tuple #[.int .i64 V, .int .i64 C]), .is (.int .i64 V), .is (.int .i64 C)]
    [[], [], [], [(1, 11), (2, 12)], [(3, 13)], [], [(5, 15)], [], [(6, 16), (7, 17)], [(4, 14), (8, 18)], [(0, 10), (9, 19)], [(10, 20)], [(10, 20)]]
    [[], [], [], [1, 2], [3], [], [5], [], [4, 6, 7], [4, 8], [0, 8, 9], [10], [10]]
    [(0, 10), (1, 11), (2, 12), (3, 13), (4, 14), (5, 15), (6, 16), (7, 17), (8, 18), (9, 19), (10, 20), (11, 21), (12, 22)] rfl (by kernel_rfl) ⟨?_, ?_, ?_, ?_, ?_, ?_, ?_, ?_, ?_, ?_, ?_, ?_, ?_, trivial⟩ ?_
  · intro vals W hB _
    dsimp only [putsL, slotOf]
    go_wp2
    exact ⟨rfl, Below.refl _ _, rfl⟩
  · intro vals W hB _
    dsimp only [putsL, slotOf]
    go_wp2
    exact ⟨rfl, Below.refl _ _, rfl⟩
  · intro vals W hB _
    dsimp only [putsL, slotOf]
    go_wp2
    exact ⟨rfl, Below.refl _ _, rfl⟩
  · intro vals W hB ⟨h1, h2, _⟩
    have h1 : vals 1 = _ := h1
    have h2 : vals 2 = _ := h2
    dsimp only [putsL, slotOf]
    rw [h1, h2]
    go_wp2
    exact ⟨rfl, below_al (Below.refl _ _) _, ⟨_, rfl, els_two _ _ _ _⟩⟩
  · intro vals W hB ⟨⟨p3, h3, hz3⟩, _⟩
    have h3 : vals 3 = _ := h3
    dsimp only [putsL, slotOf]
    rw [h3]
    go_wp2_with (go_at_call 27; refine (moamounts_any (M := M) [a, b] hz3).mono ?_; rintro e w4 ⟨v4, rfl, hk4, hb4⟩)
    exact ⟨rfl, hb4, hk4⟩
  · intro vals W hB _
    dsimp only [putsL, slotOf]
    go_wp2
    exact ⟨rfl, Below.refl _ _, rfl⟩
  · intro vals W hB ⟨h5, _⟩
    have h5 : vals 5 = _ := h5
    dsimp only [putsL, slotOf]
    rw [h5]
    go_wp2
    exact ⟨rfl, Below.refl _ _, rfl⟩
  · intro vals W hB _
    have g0 := (HM.out.below hB).mo.cell
    dsimp only [putsL, slotOf]
    go_wp2
    exact ⟨rfl, Below.refl _ _, rfl⟩
  · intro vals W hB ⟨hk4, h6, h7, _⟩
    have h6 : vals 6 = _ := h6
    have h7 : vals 7 = _ := h7
    dsimp only [putsL, slotOf]
    rw [h6, h7]
    go_wp2_with (go_at_call 28; refine (moatmost_int (M := M) (S % 18446744073709551616) 1152921504606846976 1 (by omega) (by omega) _).mono ?_; rintro e w4 ⟨v4, rfl, hk4, hb4⟩)
    exact ⟨rfl, hb4, hk4⟩
  · intro vals W hB ⟨hk4, hk8, _⟩
    have hk4 : CkAt M W (vals 4) (.am [a, b]) := hk4
    obtain ⟨f4, b4, e4⟩ := CkAt.func hk4
    rw [e4] at hk4
    have hk8 : CkAt M W (vals 8) (.at (S % 18446744073709551616).toNat 1152921504606846976 1) := hk8
    obtain ⟨f8, b8, e8⟩ := CkAt.func hk8
    rw [e8] at hk8
    dsimp only [putsL, slotOf]
    rw [e4, e8]
    go_wp2
    exact ⟨rfl, below_al (Below.refl _ _) _, ⟨_, rfl, cks_two hk4 hk8⟩⟩
  · intro vals W hB ⟨h0, hk8, ⟨p9, h9, hz9⟩, _⟩
    have h0 : vals 0 = _ := h0
    have h9 : vals 9 = _ := h9
    dsimp only [putsL, slotOf]
    rw [h0, h9]
    go_wp2_with (go_at_call 26; refine (HQ.out _ _ (HM.out.below hB) hz9).mono ?_; rintro e w4 ⟨rfl, hb4⟩)
    exact ⟨rfl, hb4, rfl⟩
  · intro vals W hB ⟨h10, _⟩
    have h10 : vals 10 = _ := h10
    dsimp only [putsL, slotOf]
    rw [h10]
    go_wp2
    exact ⟨rfl, Below.refl _ _, rfl⟩
  · intro vals W hB ⟨h10, _⟩
    have h10 : vals 10 = _ := h10
    dsimp only [putsL, slotOf]
    rw [h10]
    go_wp2
    exact ⟨rfl, Below.refl _ _, rfl⟩
  rintro vals W hB ⟨q0, q1, q2, -, -, q5, q6, q7, -, -, q10, q11, q12, -⟩
  have h0 : vals 0 = _ := q0
  have h1 : vals 1 = _ := q1
  have h2 : vals 2 = _ := q2
  obtain ⟨v3, h3⟩ : ∃ v, vals 3 = v := ⟨_, rfl⟩
  obtain ⟨v4, h4⟩ : ∃ v, vals 4 = v := ⟨_, rfl⟩
  have h5 : vals 5 = _ := q5
  have h6 : vals 6 = _ := q6
  have h7 : vals 7 = _ := q7
  obtain ⟨v8, h8⟩ : ∃ v, vals 8 = v := ⟨_, rfl⟩
  obtain ⟨v9, h9⟩ : ∃ v, vals 9 = v := ⟨_, rfl⟩
  have h10 : vals 10 = _ := q10
  have h11 : vals 11 = _ := q11
  have h12 : vals 12 = _ := q12
  dsimp only [putsL]
  rw [h0, h1, h2, h3, h4, h5, h6, h7, h8, h9, h10, h11, h12]
  clear h0 q0 h1 q1 h2 q2 h3 h4 h5 q5 h6 q6 h7 q7 h8 h9 h10 q10 h11 q11 h12 q12
  simp only [List.length_cons, List.length_nil, Nat.reduceAdd, List.drop_succ_cons, List.drop_zero, List.setIfInBounds_toArray, List.set_cons_succ, List.set_cons_zero]
  have HT : Veil _ := ⟨hB⟩
  clear hB
  go_wp2
  go_ret2
  exact ⟨ret2 HE.out, HT.out⟩

set_option maxRecDepth 20000 in
set_option maxHeartbeats 1000000 in
theorem mosub_any (a b : Int) (ha : I64 a) (hb : I64 b) (w : World) (hS : MSent w) : Calls Tryd.prog 13 #[.int .i64 a, .int .i64 b] w fun e w' => e = .returned (.tuple #[.int .i64 (subA a b).1, .int .i64 (subA a b).2]) ∧ Below w.heap.size w w' := by
  obtain ⟨M, hM⟩ := hS
  have HM : Veil _ := ⟨hM⟩
  clear hM
  obtain ⟨S, hS⟩ : ∃ S, wrap64 (a - b) = S := ⟨_, rfl⟩
  have HE : Veil _ := ⟨sub_checks a b ha hb⟩
  rw [hS] at HE
  have HW : Veil _ := ⟨hS⟩
  have HQ : Veil _ := ⟨fun (p : Option Addr) (w' : World) (hM : MSen w' M) (h : CksAt M w' p [.am [a, b], .at (b % 18446744073709551616).toNat (a % 18446744073709551616).toNat 2]) => mochecked_any (c := 2) S [.am [a, b], .at (b % 18446744073709551616).toNat (a % 18446744073709551616).toNat 2] (show (2 : Nat) ≤ 1000 by decide) (by intro k hk; simp only [List.mem_cons, List.not_mem_nil, or_false] at hk; rcases hk with rfl | rfl; exact (by decide : (2 : Nat) ≤ 1000); all_goals exact ⟨by omega, by omega, by decide⟩) hM h⟩
  revert HE; revert HQ
  generalize firstC [.am [a, b], .at (b % 18446744073709551616).toNat (a % 18446744073709551616).toNat 2] = C
  generalize (if C = 0 then S else 0) = V
  generalize subA a b = r
  intro HQ HE
  obtain ⟨v, c⟩ := r
  clear ha hb hS
  go_enter Tryd.func13, Tryd.ntmps13
  go_wp2
  refine region_new [.is (.int .i64 a), .is (.int .i64 b), .is (.int .i64 S), .is (.int .i64 a), .is (.int .i64 b), .gen (fun v W => ∃ p : Option Addr, v = .slice p 2 2 ∧ Els elL W p [a, b]) (fun v W W' hb ⟨p, h, hz⟩ => ⟨p, h, hz.below hb⟩), .gen (fun v W => CkAt M W v (.am [a, b])) (fun v W W' hb h => CkAt.below h hb), .is (.int .i64 b), .is (.int .u64 (b % 18446744073709551616)), .is (.int .i64 a), .is (.int .u64 (a % 18446744073709551616)), .is (errW M 2), .gen (fun v W => CkAt M W v (.at (b % 18446744073709551616).toNat (a % 18446744073709551616).toNat 2)) (fun v W W' hb h => CkAt.below h hb), .gen (fun v W => ∃ p : Option Addr, v = .slice p 2 2 ∧ CksAt M W p [.am [a, b], .at (b % 18446744073709551616).toNat (a % 18446744073709551616).toNat 2]) (fun v W W' hb ⟨p, h, hz⟩ => ⟨p, h, hz.below hb⟩), .is (.tuple #[.int .i64 V, .int .i64 C]), .is (.int .i64 V), .is (.int .i64 C)]
    [[], [], [(0, 6), (1, 7)], [], [], [(3, 9), (4, 10)], [(5, 11)], [], [(7, 13)], [], [(9, 15)], [], [(8, 14), (10, 16), (11, 17)], [(6, 12), (12, 18)], [(2, 8), (13, 19)], [(14, 20)], [(14, 20)]]
    [[], [], [0, 1], [], [], [3, 4], [5], [], [7], [], [9], [], [6, 8, 10, 11], [6, 12], [2, 12, 13], [14], [14]]
    [(0, 6), (1, 7), (2, 8), (3, 9), (4, 10), (5, 11), (6, 12), (7, 13), (8, 14), (9, 15), (10, 16), (11, 17), (12, 18), (13, 19), (14, 20), (15, 21), (16, 22)] rfl (by kernel_rfl) ⟨?_, ?_, ?_, ?_, ?_, ?_, ?_, ?_, ?_, ?_, ?_, ?_, ?_, ?_, ?_, ?_, ?_, trivial⟩ ?_
  · intro vals W hB _
    dsimp only [putsL, slotOf]
    go_wp2
    exact ⟨rfl, Below.refl _ _, rfl⟩
  · intro vals W hB _
    dsimp only [putsL, slotOf]
    go_wp2
    exact ⟨rfl, Below.refl _ _, rfl⟩
  · intro vals W hB ⟨h0, h1, _⟩
    have h0 : vals 0 = _ := h0
    have h1 : vals 1 = _ := h1
    dsimp only [putsL, slotOf]
    rw [h0, h1]
    go_wp2
    exact ⟨rfl, Below.refl _ _, congrArg (Value.int .i64) HW.out⟩
  · intro vals W hB _
    dsimp only [putsL, slotOf]
    go_wp2
    exact ⟨rfl, Below.refl _ _, rfl⟩
  · intro vals W hB _
    dsimp only [putsL, slotOf]
    go_wp2
    exact ⟨rfl, Below.refl _ _, rfl⟩
  · intro vals W hB ⟨h3, h4, _⟩
    have h3 : vals 3 = _ := h3
    have h4 : vals 4 = _ := h4
    dsimp only [putsL, slotOf]
    rw [h3, h4]
    go_wp2
    exact ⟨rfl, below_al (Below.refl _ _) _, ⟨_, rfl, els_two _ _ _ _⟩⟩
  · intro vals W hB ⟨⟨p5, h5, hz5⟩, _⟩
    have h5 : vals 5 = _ := h5
    dsimp only [putsL, slotOf]
    rw [h5]
    go_wp2_with (go_at_call 27; refine (moamounts_any (M := M) [a, b] hz5).mono ?_; rintro e w4 ⟨v4, rfl, hk4, hb4⟩)
    exact ⟨rfl, hb4, hk4⟩
  · intro vals W hB _
    dsimp only [putsL, slotOf]
    go_wp2
    exact ⟨rfl, Below.refl _ _, rfl⟩
  · intro vals W hB ⟨h7, _⟩
    have h7 : vals 7 = _ := h7
    dsimp only [putsL, slotOf]
    rw [h7]
    go_wp2
    exact ⟨rfl, Below.refl _ _, rfl⟩
  · intro vals W hB _
    dsimp only [putsL, slotOf]
    go_wp2
    exact ⟨rfl, Below.refl _ _, rfl⟩
  · intro vals W hB ⟨h9, _⟩
    have h9 : vals 9 = _ := h9
    dsimp only [putsL, slotOf]
    rw [h9]
    go_wp2
    exact ⟨rfl, Below.refl _ _, rfl⟩
  · intro vals W hB _
    have g0 := (HM.out.below hB).le.cell
    dsimp only [putsL, slotOf]
    go_wp2
    exact ⟨rfl, Below.refl _ _, rfl⟩
  · intro vals W hB ⟨hk6, h8, h10, h11, _⟩
    have h8 : vals 8 = _ := h8
    have h10 : vals 10 = _ := h10
    have h11 : vals 11 = _ := h11
    dsimp only [putsL, slotOf]
    rw [h8, h10, h11]
    go_wp2_with (go_at_call 28; refine (moatmost_int (M := M) (b % 18446744073709551616) (a % 18446744073709551616) 2 (by omega) (by omega) _).mono ?_; rintro e w4 ⟨v4, rfl, hk4, hb4⟩)
    exact ⟨rfl, hb4, hk4⟩
  · intro vals W hB ⟨hk6, hk12, _⟩
    have hk6 : CkAt M W (vals 6) (.am [a, b]) := hk6
    obtain ⟨f6, b6, e6⟩ := CkAt.func hk6
    rw [e6] at hk6
    have hk12 : CkAt M W (vals 12) (.at (b % 18446744073709551616).toNat (a % 18446744073709551616).toNat 2) := hk12
    obtain ⟨f12, b12, e12⟩ := CkAt.func hk12
    rw [e12] at hk12
    dsimp only [putsL, slotOf]
    rw [e6, e12]
    go_wp2
    exact ⟨rfl, below_al (Below.refl _ _) _, ⟨_, rfl, cks_two hk6 hk12⟩⟩
  · intro vals W hB ⟨h2, hk12, ⟨p13, h13, hz13⟩, _⟩
    have h2 : vals 2 = _ := h2
    have h13 : vals 13 = _ := h13
    dsimp only [putsL, slotOf]
    rw [h2, h13]
    go_wp2_with (go_at_call 26; refine (HQ.out _ _ (HM.out.below hB) hz13).mono ?_; rintro e w4 ⟨rfl, hb4⟩)
    exact ⟨rfl, hb4, rfl⟩
  · intro vals W hB ⟨h14, _⟩
    have h14 : vals 14 = _ := h14
    dsimp only [putsL, slotOf]
    rw [h14]
    go_wp2
    exact ⟨rfl, Below.refl _ _, rfl⟩
  · intro vals W hB ⟨h14, _⟩
    have h14 : vals 14 = _ := h14
    dsimp only [putsL, slotOf]
    rw [h14]
    go_wp2
    exact ⟨rfl, Below.refl _ _, rfl⟩
  rintro vals W hB ⟨q0, q1, q2, q3, q4, -, -, q7, q8, q9, q10, q11, -, -, q14, q15, q16, -⟩
  have h0 : vals 0 = _ := q0
  have h1 : vals 1 = _ := q1
  have h2 : vals 2 = _ := q2
  have h3 : vals 3 = _ := q3
  have h4 : vals 4 = _ := q4
  obtain ⟨v5, h5⟩ : ∃ v, vals 5 = v := ⟨_, rfl⟩
  obtain ⟨v6, h6⟩ : ∃ v, vals 6 = v := ⟨_, rfl⟩
  have h7 : vals 7 = _ := q7
  have h8 : vals 8 = _ := q8
  have h9 : vals 9 = _ := q9
  have h10 : vals 10 = _ := q10
  have h11 : vals 11 = _ := q11
  obtain ⟨v12, h12⟩ : ∃ v, vals 12 = v := ⟨_, rfl⟩
  obtain ⟨v13, h13⟩ : ∃ v, vals 13 = v := ⟨_, rfl⟩
  have h14 : vals 14 = _ := q14
  have h15 : vals 15 = _ := q15
  have h16 : vals 16 = _ := q16
  dsimp only [putsL]
  rw [h0, h1, h2, h3, h4, h5, h6, h7, h8, h9, h10, h11, h12, h13, h14, h15, h16]
  clear h0 q0 h1 q1 h2 q2 h3 q3 h4 q4 h5 h6 h7 q7 h8 q8 h9 q9 h10 q10 h11 q11 h12 h13 h14 q14 h15 q15 h16 q16
  simp only [List.length_cons, List.length_nil, Nat.reduceAdd, List.drop_succ_cons, List.drop_zero, List.setIfInBounds_toArray, List.set_cons_succ, List.set_cons_zero]
  have HT : Veil _ := ⟨hB⟩
  clear hB
  go_wp2
  go_ret2
  exact ⟨ret2 HE.out, HT.out⟩

theorem mul_checks (a b : Int) (_ : I64 a) (_ : I64 b) (x y : Nat) (hx : x = (a % 18446744073709551616).toNat) (hy : y = (b % 18446744073709551616).toNat) : (if firstC [.am [a, b], .at (x * y / 18446744073709551616) 0 1, .at (x * y % 18446744073709551616) 1152921504606846976 1] = 0 then wrap64 ((x * y % 18446744073709551616 : Nat) : Int) else 0, firstC [.am [a, b], .at (x * y / 18446744073709551616) 0 1, .at (x * y % 18446744073709551616) 1152921504606846976 1]) = mulA a b := by
  have ok3 : firstC [.am [a, b], .at (x * y / 18446744073709551616) 0 1, .at (x * y % 18446744073709551616) 1152921504606846976 1] = if amt a && amt b then (if x * y / 18446744073709551616 ≤ 0 then (if x * y % 18446744073709551616 ≤ 1152921504606846976 then 0 else 111) else 111) else 110 := by
    generalize x * y / 18446744073709551616 = h
    generalize x * y % 18446744073709551616 = l
    have e1 : (Ck.am [a, b]).ok = (amt a && amt b) := by simp only [Ck.ok, List.all_cons, List.all_nil, Bool.and_true]
    have e2 : (Ck.at h 0 1).ok = decide (h ≤ 0) := rfl
    have e3 : (Ck.at l 1152921504606846976 1).ok = decide (l ≤ 1152921504606846976) := rfl
    unfold firstC firstC firstC firstC
    rw [e1, e2, e3]
    by_cases h1 : (amt a && amt b) = true
    · rw [if_pos h1, if_pos h1]
      by_cases h2 : h ≤ 0
      · rw [if_pos h2, if_pos (decide_eq_true h2)]
        by_cases h3 : l ≤ 1152921504606846976
        · rw [if_pos h3, if_pos (decide_eq_true h3)]
        · rw [if_neg h3, if_neg (by rw [decide_eq_true_iff]; exact h3)]; rfl
      · rw [if_neg h2, if_neg (by rw [decide_eq_true_iff]; exact h2)]; rfl
    · rw [if_neg h1, if_neg h1]; rfl
  rw [ok3]
  unfold mulA
  by_cases h1 : (amt a && amt b) = true
  · rw [if_pos h1, if_pos h1]
    rw [Bool.and_eq_true, amt_iff, amt_iff] at h1
    have ex : (x : Int) = a := by omega
    have ey : (y : Int) = b := by omega
    have ep : ((x * y : Nat) : Int) = a * b := by rw [Int.natCast_mul, ex, ey]
    generalize x * y = p at ep ⊢
    rw [← ep]
    by_cases h2 : amt (p : Int) = true
    · rw [if_pos h2]
      rw [amt_iff] at h2
      have hp : p ≤ 1152921504606846976 := by omega
      rw [show (if p / 18446744073709551616 ≤ 0 then (if p % 18446744073709551616 ≤ 1152921504606846976 then (0 : Int) else 111) else 111) = 0 from by rw [if_pos (by omega), if_pos (by omega)], if_pos rfl]
      have : wrap64 ((p % 18446744073709551616 : Nat) : Int) = p := by unfold wrap64; omega
      rw [this]
    · rw [if_neg h2]
      rw [amt_iff] at h2
      rw [show (if p / 18446744073709551616 ≤ 0 then (if p % 18446744073709551616 ≤ 1152921504606846976 then (0 : Int) else 111) else 111) = 111 from by
        by_cases h3 : p / 18446744073709551616 ≤ 0
        · rw [if_pos h3, if_neg (by omega)]
        · rw [if_neg h3], if_neg (by decide)]
  · rw [if_neg h1, if_neg h1, if_neg (by decide)]
theorem mul_calls (a b : Int) (ha : I64 a) (hb : I64 b) : ∃ H L S : Int, 0 ≤ H ∧ 0 ≤ L ∧ wrap64 L = S ∧ H < 18446744073709551616 ∧ L < 18446744073709551616 ∧ (if firstC [.am [a, b], .at H.toNat 0 1, .at L.toNat 1152921504606846976 1] = 0 then S else 0, firstC [.am [a, b], .at H.toNat 0 1, .at L.toNat 1152921504606846976 1]) = mulA a b ∧
    ∀ w, Calls Tryd.prog 29 #[.int .u64 (a % 18446744073709551616), .int .u64 (b % 18446744073709551616)] w fun e w' => e = .returned (.tuple #[.int .u64 H, .int .u64 L]) ∧ w' = w := by
  obtain ⟨x, hx⟩ : ∃ x : Nat, a % 18446744073709551616 = (x : Int) := ⟨(a % 18446744073709551616).toNat, by omega⟩
  obtain ⟨y, hy⟩ : ∃ y : Nat, b % 18446744073709551616 = (y : Int) := ⟨(b % 18446744073709551616).toNat, by omega⟩
  have hxl : x < 18446744073709551616 := by omega
  have hyl : y < 18446744073709551616 := by omega
  refine ⟨((x * y / 18446744073709551616 : Nat) : Int), ((x * y % 18446744073709551616 : Nat) : Int), _, Int.natCast_nonneg _, Int.natCast_nonneg _, rfl, ?_, ?_, ?_, fun w => ?_⟩
  · have : x * y < 18446744073709551616 * 18446744073709551616 := Nat.mul_lt_mul'' hxl hyl
    have h2 : x * y / 18446744073709551616 < 18446744073709551616 := Nat.div_lt_of_lt_mul this
    exact Int.ofNat_lt.2 h2
  · exact Int.ofNat_lt.2 (Nat.mod_lt _ (by decide))
  · rw [Int.toNat_natCast, Int.toNat_natCast]
    exact mul_checks a b ha hb x y (by rw [hx]; rfl) (by rw [hy]; rfl)
  · rw [hx, hy]
    exact Tryd.bits_Mul64 x y hxl hyl w

set_option maxRecDepth 20000 in
set_option maxHeartbeats 1000000 in
theorem momul_any (a b : Int) (ha : I64 a) (hb : I64 b) (w : World) (hS : MSent w) : Calls Tryd.prog 15 #[.int .i64 a, .int .i64 b] w fun e w' => e = .returned (.tuple #[.int .i64 (mulA a b).1, .int .i64 (mulA a b).2]) ∧ Below w.heap.size w w' := by
  obtain ⟨M, hM⟩ := hS
  have HM : Veil _ := ⟨hM⟩
  clear hM
  obtain ⟨H, L, S, hH, hL, hW, hH2, hL2, hE, hC⟩ := mul_calls a b ha hb
  have HW : Veil _ := ⟨hW⟩
  have HE : Veil _ := ⟨hE⟩
  have HC : Veil _ := ⟨hC⟩
  have HQ : Veil _ := ⟨fun (p : Option Addr) (w' : World) (hM : MSen w' M) (h : CksAt M w' p [.am [a, b], .at H.toNat 0 1, .at L.toNat 1152921504606846976 1]) => mochecked_any (c := 3) S [.am [a, b], .at H.toNat 0 1, .at L.toNat 1152921504606846976 1] (show (3 : Nat) ≤ 1000 by decide) (by intro k hk; simp only [List.mem_cons, List.not_mem_nil, or_false] at hk; rcases hk with rfl | rfl | rfl; exact (by decide : (2 : Nat) ≤ 1000); all_goals exact ⟨by omega, by omega, by decide⟩) hM h⟩
  revert HE; revert HQ
  generalize firstC [.am [a, b], .at H.toNat 0 1, .at L.toNat 1152921504606846976 1] = C
  generalize (if C = 0 then S else 0) = V
  generalize mulA a b = r
  intro HQ HE
  obtain ⟨v, c⟩ := r
  clear ha hb hE hW hC hH2 hL2
  go_enter Tryd.func15, Tryd.ntmps15
  go_wp2_with (go_at_call 29; refine (HC.out _).mono ?_; rintro e w4 ⟨rfl, rfl⟩)
  refine region_new [.is (.int .u64 L), .is (.int .i64 S), .is (.int .i64 a), .is (.int .i64 b), .gen (fun v W => ∃ p : Option Addr, v = .slice p 2 2 ∧ Els elL W p [a, b]) (fun v W W' hb ⟨p, h, hz⟩ => ⟨p, h, hz.below hb⟩), .gen (fun v W => CkAt M W v (.am [a, b])) (fun v W W' hb h => CkAt.below h hb), .is (.int .u64 H), .is (errW M 1), .gen (fun v W => CkAt M W v (.at H.toNat 0 1)) (fun v W W' hb h => CkAt.below h hb), .is (.int .u64 L), .is (errW M 1), .gen (fun v W => CkAt M W v (.at L.toNat 1152921504606846976 1)) (fun v W W' hb h => CkAt.below h hb), .gen (fun v W => ∃ p : Option Addr, v = .slice p 3 3 ∧ CksAt M W p [.am [a, b], .at H.toNat 0 1, .at L.toNat 1152921504606846976 1]) (fun v W W' hb ⟨p, h, hz⟩ => ⟨p, h, hz.below hb⟩), .is (.tuple #[.int .i64 V, .int .i64 C]), .is (.int .i64 V), .is (.int .i64 C)]
    [[], [(0, 16)], [], [], [(2, 18), (3, 19)], [(4, 20)], [], [], [(6, 22), (7, 23)], [], [], [(9, 25), (10, 26)], [(5, 21), (8, 24), (11, 27)], [(1, 17), (12, 28)], [(13, 29)], [(13, 29)]]
    [[], [0], [], [], [2, 3], [4], [], [], [5, 6, 7], [], [], [8, 9, 10], [5, 8, 11], [1, 11, 12], [13], [13]]
    [(0, 16), (1, 17), (2, 18), (3, 19), (4, 20), (5, 21), (6, 22), (7, 23), (8, 24), (9, 25), (10, 26), (11, 27), (12, 28), (13, 29), (14, 30), (15, 31)] rfl (by kernel_rfl) ⟨?_, ?_, ?_, ?_, ?_, ?_, ?_, ?_, ?_, ?_, ?_, ?_, ?_, ?_, ?_, ?_, trivial⟩ ?_
  · intro vals W hB _
    dsimp only [putsL, slotOf]
    go_wp2
    exact ⟨rfl, Below.refl _ _, rfl⟩
  · intro vals W hB ⟨h0, _⟩
    have h0 : vals 0 = _ := h0
    dsimp only [putsL, slotOf]
    rw [h0]
    go_wp2
    exact ⟨rfl, Below.refl _ _, congrArg (Value.int .i64) HW.out⟩
  · intro vals W hB _
    dsimp only [putsL, slotOf]
    go_wp2
    exact ⟨rfl, Below.refl _ _, rfl⟩
  · intro vals W hB _
    dsimp only [putsL, slotOf]
    go_wp2
    exact ⟨rfl, Below.refl _ _, rfl⟩
  · intro vals W hB ⟨h2, h3, _⟩
    have h2 : vals 2 = _ := h2
    have h3 : vals 3 = _ := h3
    dsimp only [putsL, slotOf]
    rw [h2, h3]
    go_wp2
    exact ⟨rfl, below_al (Below.refl _ _) _, ⟨_, rfl, els_two _ _ _ _⟩⟩
  · intro vals W hB ⟨⟨p4, h4, hz4⟩, _⟩
    have h4 : vals 4 = _ := h4
    dsimp only [putsL, slotOf]
    rw [h4]
    go_wp2_with (go_at_call 27; refine (moamounts_any (M := M) [a, b] hz4).mono ?_; rintro e w4 ⟨v4, rfl, hk4, hb4⟩)
    exact ⟨rfl, hb4, hk4⟩
  · intro vals W hB _
    dsimp only [putsL, slotOf]
    go_wp2
    exact ⟨rfl, Below.refl _ _, rfl⟩
  · intro vals W hB _
    have g0 := (HM.out.below hB).mo.cell
    dsimp only [putsL, slotOf]
    go_wp2
    exact ⟨rfl, Below.refl _ _, rfl⟩
  · intro vals W hB ⟨hk5, h6, h7, _⟩
    have h6 : vals 6 = _ := h6
    have h7 : vals 7 = _ := h7
    dsimp only [putsL, slotOf]
    rw [h6, h7]
    go_wp2_with (go_at_call 28; refine (moatmost_int (M := M) H 0 1 hH (by decide) _).mono ?_; rintro e w4 ⟨v4, rfl, hk4, hb4⟩)
    exact ⟨rfl, hb4, hk4⟩
  · intro vals W hB _
    dsimp only [putsL, slotOf]
    go_wp2
    exact ⟨rfl, Below.refl _ _, rfl⟩
  · intro vals W hB _
    have g0 := (HM.out.below hB).mo.cell
    dsimp only [putsL, slotOf]
    go_wp2
    exact ⟨rfl, Below.refl _ _, rfl⟩
  · intro vals W hB ⟨hk8, h9, h10, _⟩
    have h9 : vals 9 = _ := h9
    have h10 : vals 10 = _ := h10
    dsimp only [putsL, slotOf]
    rw [h9, h10]
    go_wp2_with (go_at_call 28; refine (moatmost_int (M := M) L 1152921504606846976 1 hL (by decide) _).mono ?_; rintro e w4 ⟨v4, rfl, hk4, hb4⟩)
    exact ⟨rfl, hb4, hk4⟩
  · intro vals W hB ⟨hk5, hk8, hk11, _⟩
    have hk5 : CkAt M W (vals 5) (.am [a, b]) := hk5
    obtain ⟨f5, b5, e5⟩ := CkAt.func hk5
    rw [e5] at hk5
    have hk8 : CkAt M W (vals 8) (.at H.toNat 0 1) := hk8
    obtain ⟨f8, b8, e8⟩ := CkAt.func hk8
    rw [e8] at hk8
    have hk11 : CkAt M W (vals 11) (.at L.toNat 1152921504606846976 1) := hk11
    obtain ⟨f11, b11, e11⟩ := CkAt.func hk11
    rw [e11] at hk11
    dsimp only [putsL, slotOf]
    rw [e5, e8, e11]
    go_wp2
    exact ⟨rfl, below_al (Below.refl _ _) _, ⟨_, rfl, cks_three hk5 hk8 hk11⟩⟩
  · intro vals W hB ⟨h1, hk11, ⟨p12, h12, hz12⟩, _⟩
    have h1 : vals 1 = _ := h1
    have h12 : vals 12 = _ := h12
    dsimp only [putsL, slotOf]
    rw [h1, h12]
    go_wp2_with (go_at_call 26; refine (HQ.out _ _ (HM.out.below hB) hz12).mono ?_; rintro e w4 ⟨rfl, hb4⟩)
    exact ⟨rfl, hb4, rfl⟩
  · intro vals W hB ⟨h13, _⟩
    have h13 : vals 13 = _ := h13
    dsimp only [putsL, slotOf]
    rw [h13]
    go_wp2
    exact ⟨rfl, Below.refl _ _, rfl⟩
  · intro vals W hB ⟨h13, _⟩
    have h13 : vals 13 = _ := h13
    dsimp only [putsL, slotOf]
    rw [h13]
    go_wp2
    exact ⟨rfl, Below.refl _ _, rfl⟩
  rintro vals W hB ⟨q0, q1, q2, q3, -, -, q6, q7, -, q9, q10, -, -, q13, q14, q15, -⟩
  have h0 : vals 0 = _ := q0
  have h1 : vals 1 = _ := q1
  have h2 : vals 2 = _ := q2
  have h3 : vals 3 = _ := q3
  obtain ⟨v4, h4⟩ : ∃ v, vals 4 = v := ⟨_, rfl⟩
  obtain ⟨v5, h5⟩ : ∃ v, vals 5 = v := ⟨_, rfl⟩
  have h6 : vals 6 = _ := q6
  have h7 : vals 7 = _ := q7
  obtain ⟨v8, h8⟩ : ∃ v, vals 8 = v := ⟨_, rfl⟩
  have h9 : vals 9 = _ := q9
  have h10 : vals 10 = _ := q10
  obtain ⟨v11, h11⟩ : ∃ v, vals 11 = v := ⟨_, rfl⟩
  obtain ⟨v12, h12⟩ : ∃ v, vals 12 = v := ⟨_, rfl⟩
  have h13 : vals 13 = _ := q13
  have h14 : vals 14 = _ := q14
  have h15 : vals 15 = _ := q15
  dsimp only [putsL]
  rw [h0, h1, h2, h3, h4, h5, h6, h7, h8, h9, h10, h11, h12, h13, h14, h15]
  clear h0 q0 h1 q1 h2 q2 h3 q3 h4 h5 h6 q6 h7 q7 h8 h9 q9 h10 q10 h11 h12 h13 q13 h14 q14 h15 q15
  simp only [List.length_cons, List.length_nil, Nat.reduceAdd, List.drop_succ_cons, List.drop_zero, List.setIfInBounds_toArray, List.set_cons_succ, List.set_cons_zero]
  have HT : Veil _ := ⟨hB⟩
  clear hB
  go_wp2
  go_ret2
  exact ⟨ret2 HE.out, HT.out⟩

theorem momove_any (f t n : Int) (hf : I64 f) (ht : I64 t) (hn : I64 n) (w : World) (hS : MSent w) : Calls Tryd.prog 17 #[.int .i64 f, .int .i64 t, .int .i64 n] w fun e w' => e = .returned (.tuple #[.int .i64 (movA f t n).1, .int .i64 (movA f t n).2.1, .int .i64 (movA f t n).2.2]) ∧ Below w.heap.size w w' := by
  obtain ⟨x, hx⟩ : ∃ x, subA f n = x := ⟨_, rfl⟩
  obtain ⟨y, hy⟩ : ∃ y, addA t n = y := ⟨_, rfl⟩
  have HS : Veil (Calls Tryd.prog 13 #[.int .i64 f, .int .i64 n] w fun e w' => e = .returned (.tuple #[.int .i64 x.1, .int .i64 x.2]) ∧ Below w.heap.size w w') := ⟨by rw [← hx]; exact mosub_any f n hf hn w hS⟩
  have HA : Veil (∀ w', Below w.heap.size w w' → Calls Tryd.prog 11 #[.int .i64 t, .int .i64 n] w' fun e w'' => e = .returned (.tuple #[.int .i64 y.1, .int .i64 y.2]) ∧ Below w'.heap.size w' w'') := ⟨by rw [← hy]; exact fun w' hb => moadd_any t n ht hn w' (hS.below hb)⟩
  have HM : Veil (movA f t n = if x.2 = 0 then (if y.2 = 0 then (x.1, y.1, 0) else (0, 0, y.2)) else (0, 0, x.2)) := ⟨by rw [movA_eq, hx, hy]⟩
  rw [HM.out]
  obtain ⟨x1, x2⟩ := x
  obtain ⟨y1, y2⟩ := y
  dsimp only at *
  clear hx hy HM hS
  by_cases h1 : x2 = 0
  · subst h1
    rw [if_pos rfl]
    by_cases h2 : y2 = 0
    · subst h2
      rw [if_pos rfl]
      go_enter Tryd.func17, Tryd.ntmps17
      go_wp2
      refine wp_scope_ahead 0 rfl ?_
      go_wp2_with (first
        | (go_at_call 11; refine (HA.out _ hb1).mono ?_; rintro e w2 ⟨rfl, hb2⟩)
        | (go_at_call 13; refine HS.out.mono ?_; rintro e w1 ⟨rfl, hb1⟩))
      refine jump_ret ?_
      refine bodyPost_ret (results_tmp3 rfl _ _ _) rfl ?_
      exact ⟨rfl, bc_then hb1 hb2⟩
    · rw [if_neg h2]
      go_enter Tryd.func17, Tryd.ntmps17
      go_wp2
      refine wp_scope_ahead 0 rfl ?_
      go_wp2_with (first
        | (go_at_call 11; refine (HA.out _ hb1).mono ?_; rintro e w2 ⟨rfl, hb2⟩)
        | (go_at_call 13; refine HS.out.mono ?_; rintro e w1 ⟨rfl, hb1⟩))
      go_step3
      refine jump_goto ?_
      go_wp2
      rw [Exit.noGoto_ret]
      refine bodyPost_ret (results_tmp3 rfl _ _ _) rfl ?_
      exact ⟨rfl, bc_then hb1 hb2⟩
  · rw [if_neg h1]
    go_enter Tryd.func17, Tryd.ntmps17
    go_wp2
    refine wp_scope_ahead 0 rfl ?_
    go_wp2_with (go_at_call 13; refine HS.out.mono ?_; rintro e w1 ⟨rfl, hb1⟩)
    go_step3
    refine jump_goto ?_
    go_wp2
    rw [Exit.noGoto_ret]
    refine bodyPost_ret (results_tmp3 rfl _ _ _) rfl ?_
    exact ⟨rfl, hb1⟩
end Go.Proofs.YthjannjglahdpaaDoor

/- The laws on money's numbers: shown, MoneySums, MoneyKeeps, MoneyTurns, MoneyBounds. -/
namespace Go.Proofs.YthjannjglahdpaaDoor
open Go Go.RowKit Sm
attribute [local go_sem] Oper.semAt_some

/-- A call of two numbers that answers these two. -/
def Two2 (f : FuncId) (a b v c : Int) : Prop := ∀ w, Calls Tryd.prog f #[.int .i64 a, .int .i64 b] w fun e w' => e = .returned (.tuple #[.int .i64 v, .int .i64 c]) ∧ Below w.heap.size w w'
theorem i64_amt {n : Int} (h : amt n = true) : I64 n := by rw [amt_iff] at h; unfold I64; omega

set_option maxRecDepth 20000 in
theorem shown11_any (w : World) (hS : MSent w) : Calls Tryd.prog 10 #[] w fun e w' => e = .returned (.bool true) ∧ Below w.heap.size w w' := by
  have H1 : Veil (∀ u, Below w.heap.size w u → Calls Tryd.prog 11 #[.int .i64 1152921504606846976, .int .i64 1] u fun e w' => e = .returned (.tuple #[.int .i64 0, .int .i64 111]) ∧ Below u.heap.size u w') := ⟨fun u h => by
    have := moadd_any 1152921504606846976 1 (by unfold I64; omega) (by unfold I64; omega) u (hS.below h)
    rwa [show addA 1152921504606846976 1 = (0, 111) by decide +kernel] at this⟩
  have H2 : Veil (∀ u, Below w.heap.size w u → Calls Tryd.prog 13 #[.int .i64 1, .int .i64 2] u fun e w' => e = .returned (.tuple #[.int .i64 0, .int .i64 112]) ∧ Below u.heap.size u w') := ⟨fun u h => by
    have := mosub_any 1 2 (by unfold I64; omega) (by unfold I64; omega) u (hS.below h)
    rwa [show subA 1 2 = (0, 112) by decide +kernel] at this⟩
  have H3 : Veil (∀ u, Below w.heap.size w u → Calls Tryd.prog 17 #[.int .i64 5, .int .i64 1, .int .i64 2] u fun e w' => e = .returned (.tuple #[.int .i64 3, .int .i64 3, .int .i64 0]) ∧ Below u.heap.size u w') := ⟨fun u h => by
    have := momove_any 5 1 2 (by unfold I64; omega) (by unfold I64; omega) (by unfold I64; omega) u (hS.below h)
    rwa [show movA 5 1 2 = (3, 3, 0) by decide +kernel] at this⟩
  go_enter Tryd.func10, Tryd.ntmps10
  go_wp2_with (first
    | (go_at_call 17; refine (H3.out _ (bc_then hb1 hb2)).mono ?_; rintro e w3 ⟨rfl, hb3⟩)
    | (go_at_call 13; refine (H2.out _ hb1).mono ?_; rintro e w2 ⟨rfl, hb2⟩)
    | (go_at_call 11; refine (H1.out _ (Below.refl _ _)).mono ?_; rintro e w1 ⟨rfl, hb1⟩))
  go_ret
  exact ⟨rfl, bc_then (bc_then hb1 hb2) hb3⟩

set_option maxRecDepth 20000 in
set_option maxHeartbeats 1000000 in
theorem moneySums_any (a b n : Int) (ha : I64 a) (hb : I64 b) (hn : I64 n) (w : World) (hS : MSent w) : Calls Tryd.prog 3 #[.int .i64 a, .int .i64 b, .int .i64 n] w fun e w' => e = .returned (.bool true) ∧ Below w.heap.size w w' := by
  have P1 : Veil _ := ⟨fun u h => moadd_any a b ha hb u (hS.below h)⟩
  have R1 : Veil _ := ⟨fun w => refaddA_any a b ha hb w⟩
  have P2 : Veil _ := ⟨fun u h => mosub_any a b ha hb u (hS.below h)⟩
  have R2 : Veil _ := ⟨fun w => refsubA_any a b ha hb w⟩
  have P3 : Veil _ := ⟨fun u h => momul_any a b ha hb u (hS.below h)⟩
  have R3 : Veil _ := ⟨fun w => refmulA_any a b ha hb w⟩
  have P4 : Veil _ := ⟨fun u h => momove_any a b n ha hb hn u (hS.below h)⟩
  have R4 : Veil _ := ⟨fun w => refmovA_any a b n ha hb hn w⟩
  have P5 : Veil _ := ⟨fun w => moright_any a ha w⟩
  have R5 : Veil _ := ⟨fun w => refamt_any a w⟩
  generalize addA a b = x1 at P1 R1
  generalize subA a b = x2 at P2 R2
  generalize mulA a b = x3 at P3 R3
  generalize movA a b n = x4 at P4 R4
  generalize amt a = x5 at P5 R5
  obtain ⟨v1, c1⟩ := x1
  obtain ⟨v2, c2⟩ := x2
  obtain ⟨v3, c3⟩ := x3
  obtain ⟨v4, u4, c4⟩ := x4
  dsimp only at P1 R1 P2 R2 P3 R3 P4 R4
  clear ha hb hn
  go_enter Tryd.func3, Tryd.ntmps3
  go_wp2_with (first
    | (go_at_call 20; refine (R5.out _).mono ?_; rintro e w11 ⟨rfl, hb11⟩; have hB11 := bc_then hB10 hb11; clear hB10 hb11)
    | (go_at_call 19; refine (P5.out _).mono ?_; rintro e w10 ⟨rfl, hb10⟩; have hB10 := bc_then hB9 hb10; clear hB9 hb10)
    | (go_at_call 18; refine (R4.out _).mono ?_; rintro e w9 ⟨rfl, hb9⟩; have hB9 := bc_then hB8 hb9; clear hB8 hb9)
    | (go_at_call 17; refine (P4.out _ hB7).mono ?_; rintro e w8 ⟨rfl, hb8⟩; have hB8 := bc_then hB7 hb8; clear hB7 hb8)
    | (go_at_call 16; refine (R3.out _).mono ?_; rintro e w7 ⟨rfl, hb7⟩; have hB7 := bc_then hB6 hb7; clear hB6 hb7)
    | (go_at_call 15; refine (P3.out _ hB5).mono ?_; rintro e w6 ⟨rfl, hb6⟩; have hB6 := bc_then hB5 hb6; clear hB5 hb6)
    | (go_at_call 14; refine (R2.out _).mono ?_; rintro e w5 ⟨rfl, hb5⟩; have hB5 := bc_then hB4 hb5; clear hB4 hb5)
    | (go_at_call 13; refine (P2.out _ hB3).mono ?_; rintro e w4 ⟨rfl, hb4⟩; have hB4 := bc_then hB3 hb4; clear hB3 hb4)
    | (go_at_call 12; refine (R1.out _).mono ?_; rintro e w3 ⟨rfl, hb3⟩; have hB3 := bc_then hB2 hb3; clear hB2 hb3)
    | (go_at_call 11; refine (P1.out _ hB1).mono ?_; rintro e w2 ⟨rfl, hb2⟩; have hB2 := bc_then hB1 hb2; clear hB1 hb2)
    | (go_at_call 10; refine (shown11_any _ hS).mono ?_; rintro e w1 ⟨rfl, hB1⟩))
  go_ret
  exact ⟨rfl, hB11⟩

/-! ### MoneyTurns, MoneyBounds -/
set_option maxRecDepth 20000 in
set_option maxHeartbeats 1000000 in
theorem moneyTurns_any (a b : Int) (ha : I64 a) (hb : I64 b) (w : World) (hS : MSent w) : Calls Tryd.prog 8 #[.int .i64 a, .int .i64 b] w fun e w' => e = .returned (.bool true) ∧ Below w.heap.size w w' := by
  have P1 : Veil _ := ⟨fun u h => moadd_any a b ha hb u (hS.below h)⟩
  have R1 : Veil _ := ⟨fun u h => moadd_any b a hb ha u (hS.below h)⟩
  have P2 : Veil _ := ⟨fun u h => momul_any a b ha hb u (hS.below h)⟩
  have R2 : Veil _ := ⟨fun u h => momul_any b a hb ha u (hS.below h)⟩
  rw [addA_comm b a] at R1
  rw [mulA_comm b a] at R2
  generalize addA a b = x1 at P1 R1
  generalize mulA a b = x2 at P2 R2
  obtain ⟨v1, c1⟩ := x1
  obtain ⟨v2, c2⟩ := x2
  dsimp only at P1 R1 P2 R2
  clear ha hb
  by_cases hab : a = b
  · subst hab
    go_enter Tryd.func8, Tryd.ntmps8
    go_wp2_with (first
      | (go_at_call 15; refine (P2.out _ hB4).mono ?_; rintro e w5 ⟨rfl, hb5⟩; have hB5 := bc_then hB4 hb5)
      | (go_at_call 15; refine (P2.out _ hB3).mono ?_; rintro e w4 ⟨rfl, hb4⟩; have hB4 := bc_then hB3 hb4)
      | (go_at_call 11; refine (P1.out _ hB2).mono ?_; rintro e w3 ⟨rfl, hb3⟩; have hB3 := bc_then hB2 hb3)
      | (go_at_call 11; refine (P1.out _ hB1).mono ?_; rintro e w2 ⟨rfl, hb2⟩; have hB2 := bc_then hB1 hb2)
      | (go_at_call 10; refine (shown11_any _ hS).mono ?_; rintro e w1 ⟨rfl, hB1⟩))
    go_ret
    exact ⟨rfl, hB5⟩
  · go_enter Tryd.func8, Tryd.ntmps8
    go_wp2_with (first
      | (go_at_call 15; (with_reducible refine (R2.out _ hB4).mono ?_); rintro e w5 ⟨rfl, hb5⟩; have hB5 := bc_then hB4 hb5)
      | (go_at_call 15; (with_reducible refine (P2.out _ hB3).mono ?_); rintro e w4 ⟨rfl, hb4⟩; have hB4 := bc_then hB3 hb4)
      | (go_at_call 11; (with_reducible refine (R1.out _ hB2).mono ?_); rintro e w3 ⟨rfl, hb3⟩; have hB3 := bc_then hB2 hb3)
      | (go_at_call 11; (with_reducible refine (P1.out _ hB1).mono ?_); rintro e w2 ⟨rfl, hb2⟩; have hB2 := bc_then hB1 hb2)
      | (go_at_call 10; refine (shown11_any _ hS).mono ?_; rintro e w1 ⟨rfl, hB1⟩))
    go_ret
    exact ⟨rfl, hB5⟩

set_option maxRecDepth 20000 in
set_option maxHeartbeats 1000000 in
theorem moneyBounds_any (a b n : Int) (ha : I64 a) (hb : I64 b) (hn : I64 n) (w : World) (hS : MSent w) : Calls Tryd.prog 9 #[.int .i64 a, .int .i64 b, .int .i64 n] w fun e w' => e = .returned (.bool true) ∧ Below w.heap.size w w' := by
  have P1 : Veil _ := ⟨fun u h => moadd_any a b ha hb u (hS.below h)⟩
  have P2 : Veil _ := ⟨fun u h => mosub_any a b ha hb u (hS.below h)⟩
  have P3 : Veil _ := ⟨fun u h => momul_any a b ha hb u (hS.below h)⟩
  have P4 : Veil _ := ⟨fun u h => momove_any a b n ha hb hn u (hS.below h)⟩
  have A1 := addA_amt a b
  have A2 := subA_amt a b
  have A3 := mulA_amt a b
  have A4 := movA_amt a b n
  generalize addA a b = x1 at P1 A1
  generalize subA a b = x2 at P2 A2
  generalize mulA a b = x3 at P3 A3
  generalize movA a b n = x4 at P4 A4
  obtain ⟨v1, c1⟩ := x1
  obtain ⟨v2, c2⟩ := x2
  obtain ⟨v3, c3⟩ := x3
  obtain ⟨v4, u4, c4⟩ := x4
  dsimp only at P1 P2 P3 P4 A1 A2 A3 A4
  have RT : Veil (∀ x, amt x = true → ∀ w, Calls Tryd.prog 19 #[.int .i64 x] w fun e w' => e = .returned (.bool true) ∧ Below w.heap.size w w') := ⟨fun x hx w => by
    have := moright_any x (i64_amt hx) w
    rwa [hx] at this⟩
  have H1 : Veil _ := ⟨A1⟩
  have H2 : Veil _ := ⟨A2⟩
  have H3 : Veil _ := ⟨A3⟩
  have H4 : Veil _ := ⟨A4.1⟩
  have H5 : Veil _ := ⟨A4.2⟩
  clear ha hb hn A1 A2 A3 A4
  go_enter Tryd.func9, Tryd.ntmps9
  go_wp2_with (first
    | (go_at_call 19; (with_reducible refine (RT.out _ H5.out _).mono ?_); rintro e w10 ⟨rfl, hb10⟩; have hB10 := bc_then hB9 hb10)
    | (go_at_call 19; (with_reducible refine (RT.out _ H4.out _).mono ?_); rintro e w9 ⟨rfl, hb9⟩; have hB9 := bc_then hB8 hb9)
    | (go_at_call 19; (with_reducible refine (RT.out _ H3.out _).mono ?_); rintro e w8 ⟨rfl, hb8⟩; have hB8 := bc_then hB7 hb8)
    | (go_at_call 19; (with_reducible refine (RT.out _ H2.out _).mono ?_); rintro e w7 ⟨rfl, hb7⟩; have hB7 := bc_then hB6 hb7)
    | (go_at_call 19; (with_reducible refine (RT.out _ H1.out _).mono ?_); rintro e w6 ⟨rfl, hb6⟩; have hB6 := bc_then hB5 hb6)
    | (go_at_call 17; refine (P4.out _ hB4).mono ?_; rintro e w5 ⟨rfl, hb5⟩; have hB5 := bc_then hB4 hb5)
    | (go_at_call 15; refine (P3.out _ hB3).mono ?_; rintro e w4 ⟨rfl, hb4⟩; have hB4 := bc_then hB3 hb4)
    | (go_at_call 13; refine (P2.out _ hB2).mono ?_; rintro e w3 ⟨rfl, hb3⟩; have hB3 := bc_then hB2 hb3)
    | (go_at_call 11; refine (P1.out _ hB1).mono ?_; rintro e w2 ⟨rfl, hb2⟩; have hB2 := bc_then hB1 hb2)
    | (go_at_call 10; refine (shown11_any _ hS).mono ?_; rintro e w1 ⟨rfl, hB1⟩))
  go_ret
  exact ⟨rfl, hB10⟩

/-! ### MoneyKeeps -/
theorem mov_facts (a b n : Int) : (movA a b n).2.2 ≠ 0 ∨ ((movA a b n).2.2 = 0 ∧ (movA a b n).1 + (movA a b n).2.1 = a + b ∧ (0 ≤ (movA a b n).1 ∧ (movA a b n).1 ≤ 1152921504606846976) ∧ (0 ≤ (movA a b n).2.1 ∧ (movA a b n).2.1 ≤ 1152921504606846976) ∧ (0 ≤ a ∧ a ≤ 1152921504606846976) ∧ 0 ≤ b ∧ b ≤ 1152921504606846976) := by
  by_cases h : (movA a b n).2.2 = 0
  · obtain ⟨h1, h2, h3⟩ := movA_ok a b n h
    obtain ⟨k1, -, -, -⟩ := subA_ok a n h1
    obtain ⟨l1, -, -, -⟩ := addA_ok b n h2
    obtain ⟨m1, m2⟩ := movA_amt a b n
    rw [amt_iff] at k1 l1 m1 m2
    refine .inr ⟨h, ?_, m1, m2, k1, l1⟩
    rw [h3]
    dsimp only
    omega
  · exact .inl h
theorem keep_pair (a n : Int) (ha : I64 a) (hn : I64 n) (w : World) (hS : MSent w) : ∃ x f y g : Int, (∀ u, Below w.heap.size w u → Calls Tryd.prog 11 #[.int .i64 a, .int .i64 n] u fun e w' => e = .returned (.tuple #[.int .i64 x, .int .i64 f]) ∧ Below u.heap.size u w') ∧ (∀ u, Below w.heap.size w u → Calls Tryd.prog 13 #[.int .i64 x, .int .i64 n] u fun e w' => e = .returned (.tuple #[.int .i64 y, .int .i64 g]) ∧ Below u.heap.size u w') ∧ (f ≠ 0 ∨ f = 0 ∧ g = 0 ∧ y = a) := by
  refine ⟨_, _, _, _, fun u h => moadd_any a n ha hn u (hS.below h), fun u h => mosub_any _ n (i64_amt (addA_amt a n)) hn u (hS.below h), ?_⟩
  by_cases h : (addA a n).2 = 0
  · obtain ⟨h1, h2, h3, h4⟩ := addA_ok a n h
    refine .inr ⟨h, ?_⟩
    have h5 : n ≤ a + n := by rw [amt_iff] at h1; omega
    rw [h4, subA_of _ _ h3 h2 h5]
    exact ⟨rfl, by dsimp only; omega⟩
  · exact .inl h
set_option maxRecDepth 20000 in
set_option maxHeartbeats 1000000 in
theorem moneyKeeps_any (a b n : Int) (ha : I64 a) (hb : I64 b) (hn : I64 n) (w : World) (hS : MSent w) : Calls Tryd.prog 5 #[.int .i64 a, .int .i64 b, .int .i64 n] w fun e w' => e = .returned (.bool true) ∧ Below w.heap.size w w' := by
  have P4 : Veil _ := ⟨fun u h => momove_any a b n ha hb hn u (hS.below h)⟩
  have F4 := mov_facts a b n
  generalize movA a b n = x4 at P4 F4
  obtain ⟨c, d, e0⟩ := x4
  dsimp only at P4 F4
  obtain ⟨x, f, y, g, P1, P2, F1⟩ := keep_pair a n ha hn w hS
  have HP1 : Veil _ := ⟨P1⟩
  have HP2 : Veil _ := ⟨P2⟩
  clear P1 P2 ha hb hn
  rcases F4 with F4 | ⟨rfl, hcd, ⟨c0, c1⟩, ⟨d0, d1⟩, ⟨a0, a1⟩, b0, b1⟩ <;> rcases F1 with F1 | ⟨rfl, rfl, rfl⟩
  all_goals
    go_enter Tryd.func5, Tryd.ntmps5
    go_wp2_with (first
      | (go_at_call 13; refine (HP2.out _ hB3).mono ?_; rintro e w4 ⟨rfl, hb4⟩; have hB4 := bc_then hB3 hb4)
      | (go_at_call 11; refine (HP1.out _ hB2).mono ?_; rintro e w3 ⟨rfl, hb3⟩; have hB3 := bc_then hB2 hb3)
      | (go_at_call 17; refine (P4.out _ hB1).mono ?_; rintro e w2 ⟨rfl, hb2⟩; have hB2 := bc_then hB1 hb2)
      | (go_at_call 10; refine (shown11_any _ hS).mono ?_; rintro e w1 ⟨rfl, hB1⟩))
    go_ret
    exact ⟨rfl, hB4⟩
end Go.Proofs.YthjannjglahdpaaDoor

/- The law of a product as a sum: MoneyTimes. -/
namespace Go.Proofs.YthjannjglahdpaaDoor
open Go Go.RowKit Sm
attribute [local go_sem] Oper.semAt_some

/-- The sum behind so many rounds. -/
def sumOf (a : Int) (k : Nat) : Int × Int := if amt (a * k) then (a * k, 0) else (0, 111)
theorem sum_next (a : Int) (ha : amt a = true) (k : Nat) (h : amt (a * k) = true) : addA (a * k) a = sumOf a (k + 1) := by
  unfold addA sumOf
  have e : a * ((k + 1 : Nat) : Int) = a * k + a := by rw [Int.natCast_add, Int.mul_add]; simp
  rw [if_pos (by rw [ha, h]; rfl), e]
theorem sum_stays (a : Int) (ha : amt a = true) (k n : Nat) (hkn : k ≤ n) (h : amt (a * k) = false) : amt (a * n) = false := by
  rw [amt_iff] at ha
  rw [amt_not] at h ⊢
  rintro ⟨h1, h2⟩
  apply h
  have h3 : a * (k : Int) ≤ a * (n : Int) := Int.mul_le_mul_of_nonneg_left (by omega) ha.1
  exact ⟨Int.mul_nonneg ha.1 (by omega), by omega⟩
theorem sum_zero (a : Int) : sumOf a 0 = (0, 0) := by unfold sumOf; rw [show a * ((0 : Nat) : Int) = 0 from Int.mul_zero a]; rfl
theorem sum_fine {a x : Int} {k : Nat} (h : sumOf a k = (x, 0)) : amt (a * k) = true ∧ x = a * k := by
  unfold sumOf at h
  by_cases h1 : amt (a * k) = true
  · rw [if_pos h1] at h; simp only [Prod.mk.injEq] at h; exact ⟨h1, h.1.symm⟩
  · rw [if_neg h1] at h; simp at h
theorem sum_over {a x y pv pc : Int} {k m : Nat} (ha : amt a = true) (hk : k ≤ m) (h : sumOf a k = (x, y)) (hy : ¬ y = 0) (hp : sumOf a m = (pv, pc)) : pv = 0 ∧ pc = 111 ∧ x = 0 ∧ y = 111 := by
  unfold sumOf at h hp
  by_cases h1 : amt (a * k) = true
  · rw [if_pos h1] at h; simp only [Prod.mk.injEq] at h; exact absurd h.2.symm hy
  · have h2 := sum_stays a ha k m hk (by simpa using h1)
    rw [if_neg h1] at h
    rw [if_neg (by simp [h2])] at hp
    simp only [Prod.mk.injEq] at h hp
    exact ⟨hp.1.symm, hp.2.symm, h.1.symm, h.2.symm⟩
theorem mul_sum (a : Int) (ha : amt a = true) (n : Nat) (hn : n ≤ 40) : mulA a n = sumOf a n := by
  unfold mulA sumOf
  rw [if_pos]
  rw [ha, (amt_iff _).2 ⟨by omega, by omega⟩]
  rfl

set_option maxRecDepth 20000 in
set_option maxHeartbeats 1000000 in
theorem moneyTimes_any (a n : Int) (ha : I64 a) (hn : I64 n) (w : World) (hS : MSent w) : Calls Tryd.prog 7 #[.int .i64 a, .int .i64 n] w fun e w' => e = .returned (.bool true) ∧ Below w.heap.size w w' := by
  have R : Veil _ := ⟨fun w => moright_any a ha w⟩
  by_cases h0 : n < 0
  · clear R
    go_enter Tryd.func7, Tryd.ntmps7
    go_wp2_with (go_at_call 10; refine (shown11_any _ hS).mono ?_; rintro e w1 ⟨rfl, hB1⟩)
    go_ret
    exact ⟨rfl, hB1⟩
  by_cases h40 : 40 < n
  · clear R
    go_enter Tryd.func7, Tryd.ntmps7
    go_wp2_with (go_at_call 10; refine (shown11_any _ hS).mono ?_; rintro e w1 ⟨rfl, hB1⟩)
    go_ret
    exact ⟨rfl, hB1⟩
  by_cases hamt : amt a = false
  · rw [hamt] at R
    clear hamt
    go_enter Tryd.func7, Tryd.ntmps7
    go_wp2_with (first
      | (go_at_call 19; refine (R.out _).mono ?_; rintro e w2 ⟨rfl, hb2⟩; have hB2 := bc_then hB1 hb2)
      | (go_at_call 10; refine (shown11_any _ hS).mono ?_; rintro e w1 ⟨rfl, hB1⟩))
    go_ret
    exact ⟨rfl, hB2⟩
  have hat : amt a = true := by simpa using hamt
  rw [hat] at R
  have HA : Veil _ := ⟨hat⟩
  obtain ⟨m, rfl⟩ : ∃ m : Nat, n = m := ⟨n.toNat, by omega⟩
  have hm : m ≤ 40 := by omega
  have PM : Veil (∀ u, Below w.heap.size w u → Calls Tryd.prog 15 #[.int .i64 a, .int .i64 (m : Int)] u fun e w' => e = .returned (.tuple #[.int .i64 (sumOf a m).1, .int .i64 (sumOf a m).2]) ∧ Below u.heap.size u w') := ⟨fun u h => by rw [← mul_sum a hat m hm]; exact momul_any a m ha hn u (hS.below h)⟩
  have PA : Veil (∀ (k : Nat), amt (a * k) = true → ∀ u, Below w.heap.size w u → Calls Tryd.prog 11 #[.int .i64 (a * k), .int .i64 a] u fun e w' => e = .returned (.tuple #[.int .i64 (sumOf a (k + 1)).1, .int .i64 (sumOf a (k + 1)).2]) ∧ Below u.heap.size u w') := ⟨fun k hk u h => by rw [← sum_next a hat k hk]; exact moadd_any _ a (i64_amt hk) ha u (hS.below h)⟩
  obtain ⟨p, hp⟩ : ∃ p, sumOf a m = p := ⟨_, rfl⟩
  have HP : Veil _ := ⟨hp⟩
  rw [hp] at PM
  obtain ⟨pv, pc⟩ := p
  dsimp only at PM
  clear ha hn hamt hat hp h0 h40
  go_enter Tryd.func7, Tryd.ntmps7
  go_wp2_with (first
    | (go_at_call 15; refine (PM.out _ hB2).mono ?_; rintro e w3 ⟨rfl, hb3⟩; have hB3 := bc_then hB2 hb3)
    | (go_at_call 19; refine (R.out _).mono ?_; rintro e w2 ⟨rfl, hb2⟩; have hB2 := bc_then hB1 hb2)
    | (go_at_call 10; refine (shown11_any _ hS).mono ?_; rintro e w1 ⟨rfl, hB1⟩))
  go_loopw [8, 9, 10] (fun s f i wr => ∃ (k : Nat) (x y : Int), k ≤ m ∧ s = .int .i64 x ∧ f = .int .i64 y ∧ i = .int .i64 k ∧ Veil (sumOf a k = (x, y)) ∧ Veil (Below w.heap.size w wr)) (fun _ _ i _ => m - (intOf i).toNat)
  case atStart => exact ⟨0, 0, 0, Nat.zero_le _, rfl, rfl, rfl, ⟨sum_zero a⟩, ⟨hB3⟩⟩
  case round =>
    obtain ⟨k, x, y, hk, rfl, rfl, rfl, hS, hB⟩ := hrel
    by_cases hlt : k < m
    · by_cases hy : y = 0
      · subst hy
        obtain ⟨hamt, hx⟩ := sum_fine hS.out
        have PK : Veil (∀ u, Below w.heap.size w u → Calls Tryd.prog 11 #[.int .i64 x, .int .i64 a] u fun e w' => e = .returned (.tuple #[.int .i64 (sumOf a (k + 1)).1, .int .i64 (sumOf a (k + 1)).2]) ∧ Below u.heap.size u w') := ⟨by rw [hx]; exact PA.out k hamt⟩
        obtain ⟨q, hq⟩ : ∃ q, sumOf a (k + 1) = q := ⟨_, rfl⟩
        rw [hq] at PK
        obtain ⟨qv, qc⟩ := q
        dsimp only at PK
        have HQ : Veil _ := ⟨hq⟩
        clear hq hx hamt hB1 hB2 hB3
        go_wp2_with (go_at_call 11; refine (PK.out _ hB.out).mono ?_; rintro e w4 ⟨rfl, hb4⟩; have hB4 := bc_then hB.out hb4)
        refine ⟨⟨k + 1, qv, qc, by omega, rfl, rfl, by go_num, HQ, ⟨hB4⟩⟩, ?_⟩
        simp only [intOf]; omega
      · have HE : Veil (pv = 0 ∧ pc = 111 ∧ x = 0 ∧ y = 111) := ⟨sum_over HA.out hk hS.out hy HP.out⟩
        obtain ⟨e1, e2, e3, e4⟩ := HE.out
        subst e1 e2 e3 e4
        clear hB1 hB2 hB3
        go_wp2
        go_ret
        exact ⟨rfl, hB.out⟩
    · obtain rfl : k = m := by omega
      have HE := HP.out.symm.trans hS.out
      simp only [Prod.mk.injEq] at HE
      obtain ⟨e1, e2⟩ := HE
      subst e1 e2
      clear hB1 hB2 hB3
      go_wp2
      go_ret
      exact ⟨rfl, hB.out⟩
end Go.Proofs.YthjannjglahdpaaDoor
