/- The laws on keys: KeysOf, KeysOrder. -/
import Derived.BigQuiet
import Derived.Test.YtgaahgnjmhnggaaKHA
import Derived.Test.YtgaahgnjmhnggaaKC3
namespace Go.Proofs.Ytgaahgnjmhnggaa
open Go Go.RowKit Sm
attribute [local go_sem] Oper.semAt_some

theorem less_below (a b : List UInt8) (ha : a.length ≤ 1000000) (hb : b.length ≤ 1000000) (w : World) : Calls Try.prog 16 #[.string ⟨a.toArray⟩, .string ⟨b.toArray⟩] w fun e w' => e = .returned (.bool (lessB a b)) ∧ Below w.heap.size w w' :=
  (less_any a b ha hb w).mono fun _ _ ⟨h, h2⟩ => ⟨h, below_drewN' h2⟩
theorem ofR_len (k : Int) (a : Nat) : (ofR k a).1.length ≤ 5 ∧ (ofR k a).2.1.length ≤ 5 := by
  unfold ofR
  split <;> simp
theorem ofR_cases (k : Int) (a : Nat) : (((1 ≤ a ∧ a ≤ 1000000) ∧ (k = 2 ∨ k = 3)) ∧ (ofR k a).2.2 = 0) ∨ ((a < 1 ∨ 1000000 < a ∨ (k ≠ 2 ∧ k ≠ 3)) ∧ ofR k a = ([], [], 100)) := by
  by_cases h : (1 ≤ a ∧ a ≤ 1000000) ∧ (k = 2 ∨ k = 3)
  · exact .inl ⟨h, by unfold ofR; rw [if_pos h]⟩
  · exact .inr ⟨by omega, by unfold ofR; rw [if_neg h]⟩

set_option maxRecDepth 20000 in
set_option maxHeartbeats 2000000 in
theorem keysOf_any (k : Int) (hk : I64 k) (a0 : Nat) (ha : a0 < 4294967296) (p : Pl) (hp : p.Ok) (w : World) : Calls Try.prog 5 #[.int .i64 k, .int .u32 a0, p.v] w fun e w' => e = .returned (.bool true) ∧ Below w.heap.size w w' := by
  have P1 : Veil _ := ⟨fun w => kyof_any k hk a0 ha w⟩
  have P2 : Veil _ := ⟨fun w => kykey_any p hp w⟩
  have hl := p.keyR_len
  have ho := ofR_len k a0
  have L1 : Veil _ := ⟨fun w => less_below p.keyR.1 (ofR k a0).1 (by omega) (by omega) w⟩
  have L2 : Veil _ := ⟨fun w => less_below p.keyR.1 (ofR k a0).2.1 (by omega) (by omega) w⟩
  have HI : Veil (p.right = true → ((1 ≤ a0 ∧ a0 ≤ 1000000) ∧ (k = 2 ∨ k = 3)) → (!lessB p.key (ofR k a0).1 && lessB p.key (ofR k a0).2.1) = (decide (p.kind = k) && decide (p.a = a0))) := ⟨fun h1 h2 => of_in p hp h1 k a0 h2⟩
  have HK : p.keyR.2 ≠ 0 ∨ p.right = true ∧ p.keyR = (p.key, 0) := by
    by_cases h : p.right = true
    · exact .inr ⟨h, by unfold Pl.keyR; rw [if_pos h]⟩
    · exact .inl (by unfold Pl.keyR; rw [if_neg h]; decide)
  clear hp hl ho
  obtain ⟨A0, hA0⟩ : ∃ A0 : Int, (a0 : Int) = A0 := ⟨_, rfl⟩
  rcases ofR_cases k a0 with ⟨hin, he⟩ | ⟨hout, he⟩
  · rcases HK with HK | ⟨hr, HK⟩
    · clear HI L1 L2 hin
      obtain ⟨x, hx⟩ : ∃ x, ofR k a0 = x := ⟨_, rfl⟩
      rw [hx] at P1 he
      generalize p.keyR = x1 at P2 HK
      obtain ⟨S, c1⟩ := x1
      obtain ⟨F, T, c⟩ := x
      obtain ⟨k1, a, i, m⟩ := p
      unfold Pl.v at *
      dsimp only at *
      subst he
      rw [hA0] at P1 ⊢
      clear hx hA0
      generalize (a : Int) = A at *
      generalize (i : Int) = I at *
      generalize (m : Int) = M at *
      have HB : Veil (PlBox (w.alloc (.cells #[.int .i64 k1, .int .u32 A, .int .u16 I, .int .u32 M] 25)) w.heap.size k1 A I M) := ⟨PlBox.new _ _ _ _ _ _⟩
      have HW : Veil (Below w.heap.size w (w.alloc (.cells #[.int .i64 k1, .int .u32 A, .int .u16 I, .int .u32 M] 25))) := ⟨below_al (Below.refl _ _) _⟩
      go_enter Try.func5, Try.ntmps5
      go_wp2_with (first
        | (go_at_call 9; (with_reducible refine (P2.out _).mono ?_); rintro e w3 ⟨rfl, hb3⟩; have hT := bc_then hT hb3; have HQ : Veil _ := ⟨HQ.out.below hb3⟩; obtain ⟨c0, c1, c2, c3⟩ := HQ.out)
        | (go_at_call 15; (with_reducible refine (P1.out _).mono ?_); rintro e w2 ⟨rfl, hb2⟩; have hT := bc_then hT hb2; have HQ : Veil _ := ⟨HQ.out.below hb2⟩; obtain ⟨c0, c1, c2, c3⟩ := HQ.out)
        | (go_at_call 8; refine (shown10_any _).mono ?_; rintro e w1 ⟨rfl, hb1⟩; have hT := bc_then HW.out hb1; have HQ : Veil _ := ⟨HB.out.below hb1⟩; obtain ⟨c0, c1, c2, c3⟩ := HQ.out))
      all_goals
        go_ret
        exact ⟨rfl, hT⟩
    · have hI := HI.out hr hin
      rw [HK] at P2 L1 L2
      dsimp only at P2 L1 L2
      obtain ⟨x, hx⟩ : ∃ x, ofR k a0 = x := ⟨_, rfl⟩
      rw [hx] at P1 he L1 L2 hI
      generalize p.key = S at P2 L1 L2 hI
      obtain ⟨F, T, c⟩ := x
      dsimp only at *
      subst he
      generalize lessB S F = X at L1 hI
      generalize lessB S T = Y at L2 hI
      have hkk : decide (p.kind = k) = true ∨ (p.kind == k) = false := by
        by_cases h : p.kind = k
        · exact .inl (decide_eq_true h)
        · exact .inr (by simpa using h)
      have hI' : (!X && Y) = true ∧ p.kind = k ∧ (p.a : Int) = a0 ∨ (!X && Y) = false ∧ (p.kind ≠ k ∨ p.kind = k ∧ (p.a : Int) ≠ a0) := by
        by_cases h1 : p.kind = k
        · by_cases h2 : p.a = a0
          · exact .inl ⟨by rw [hI, decide_eq_true h1, decide_eq_true h2]; rfl, h1, by omega⟩
          · exact .inr ⟨by rw [hI, decide_eq_false h2, Bool.and_false], .inr ⟨h1, by omega⟩⟩
        · exact .inr ⟨by rw [hI, decide_eq_false h1, Bool.false_and], .inl h1⟩
      clear HI hI hkk hin hr HK hx
      obtain ⟨k1, a, i, m⟩ := p
      unfold Pl.v at *
      dsimp only at *
      rw [hA0] at P1 hI' ⊢
      clear hA0
      generalize (a : Int) = A at *
      generalize (i : Int) = I at *
      generalize (m : Int) = M at *
      rcases hI' with ⟨hxy, rfl, rfl⟩ | ⟨hxy, hd⟩
      · obtain ⟨rfl, rfl⟩ : X = false ∧ Y = true := by cases X <;> cases Y <;> simp at hxy ⊢
        clear hxy
        have HB : Veil (PlBox (w.alloc (.cells #[.int .i64 k1, .int .u32 A, .int .u16 I, .int .u32 M] 25)) w.heap.size k1 A I M) := ⟨PlBox.new _ _ _ _ _ _⟩
        have HW : Veil (Below w.heap.size w (w.alloc (.cells #[.int .i64 k1, .int .u32 A, .int .u16 I, .int .u32 M] 25))) := ⟨below_al (Below.refl _ _) _⟩
        go_enter Try.func5, Try.ntmps5
        go_wp2_with (first
          | (go_at_call 16; (with_reducible refine (L2.out _).mono ?_); rintro e w5 ⟨rfl, hb5⟩; have hT := bc_then hT hb5; have HQ : Veil _ := ⟨HQ.out.below hb5⟩; obtain ⟨c0, c1, c2, c3⟩ := HQ.out)
          | (go_at_call 16; (with_reducible refine (L1.out _).mono ?_); rintro e w4 ⟨rfl, hb4⟩; have hT := bc_then hT hb4; have HQ : Veil _ := ⟨HQ.out.below hb4⟩; obtain ⟨c0, c1, c2, c3⟩ := HQ.out)
          | (go_at_call 9; (with_reducible refine (P2.out _).mono ?_); rintro e w3 ⟨rfl, hb3⟩; have hT := bc_then hT hb3; have HQ : Veil _ := ⟨HQ.out.below hb3⟩; obtain ⟨c0, c1, c2, c3⟩ := HQ.out)
          | (go_at_call 15; (with_reducible refine (P1.out _).mono ?_); rintro e w2 ⟨rfl, hb2⟩; have hT := bc_then hT hb2; have HQ : Veil _ := ⟨HQ.out.below hb2⟩; obtain ⟨c0, c1, c2, c3⟩ := HQ.out)
          | (go_at_call 8; refine (shown10_any _).mono ?_; rintro e w1 ⟨rfl, hb1⟩; have hT := bc_then HW.out hb1; have HQ : Veil _ := ⟨HB.out.below hb1⟩; obtain ⟨c0, c1, c2, c3⟩ := HQ.out))
        all_goals
          go_ret
          exact ⟨rfl, hT⟩
      · rcases hd with hd | ⟨rfl, hd⟩
        · cases X
          · obtain rfl : Y = false := by simpa using hxy
            clear hxy
            have HB : Veil (PlBox (w.alloc (.cells #[.int .i64 k1, .int .u32 A, .int .u16 I, .int .u32 M] 25)) w.heap.size k1 A I M) := ⟨PlBox.new _ _ _ _ _ _⟩
            have HW : Veil (Below w.heap.size w (w.alloc (.cells #[.int .i64 k1, .int .u32 A, .int .u16 I, .int .u32 M] 25))) := ⟨below_al (Below.refl _ _) _⟩
            go_enter Try.func5, Try.ntmps5
            go_wp2_with (first
              | (go_at_call 16; (with_reducible refine (L2.out _).mono ?_); rintro e w5 ⟨rfl, hb5⟩; have hT := bc_then hT hb5; have HQ : Veil _ := ⟨HQ.out.below hb5⟩; obtain ⟨c0, c1, c2, c3⟩ := HQ.out)
              | (go_at_call 16; (with_reducible refine (L1.out _).mono ?_); rintro e w4 ⟨rfl, hb4⟩; have hT := bc_then hT hb4; have HQ : Veil _ := ⟨HQ.out.below hb4⟩; obtain ⟨c0, c1, c2, c3⟩ := HQ.out)
              | (go_at_call 9; (with_reducible refine (P2.out _).mono ?_); rintro e w3 ⟨rfl, hb3⟩; have hT := bc_then hT hb3; have HQ : Veil _ := ⟨HQ.out.below hb3⟩; obtain ⟨c0, c1, c2, c3⟩ := HQ.out)
              | (go_at_call 15; (with_reducible refine (P1.out _).mono ?_); rintro e w2 ⟨rfl, hb2⟩; have hT := bc_then hT hb2; have HQ : Veil _ := ⟨HQ.out.below hb2⟩; obtain ⟨c0, c1, c2, c3⟩ := HQ.out)
              | (go_at_call 8; refine (shown10_any _).mono ?_; rintro e w1 ⟨rfl, hb1⟩; have hT := bc_then HW.out hb1; have HQ : Veil _ := ⟨HB.out.below hb1⟩; obtain ⟨c0, c1, c2, c3⟩ := HQ.out))
            all_goals
              go_ret
              exact ⟨rfl, hT⟩
          · clear hxy
            have HB : Veil (PlBox (w.alloc (.cells #[.int .i64 k1, .int .u32 A, .int .u16 I, .int .u32 M] 25)) w.heap.size k1 A I M) := ⟨PlBox.new _ _ _ _ _ _⟩
            have HW : Veil (Below w.heap.size w (w.alloc (.cells #[.int .i64 k1, .int .u32 A, .int .u16 I, .int .u32 M] 25))) := ⟨below_al (Below.refl _ _) _⟩
            go_enter Try.func5, Try.ntmps5
            go_wp2_with (first
              | (go_at_call 16; (with_reducible refine (L2.out _).mono ?_); rintro e w5 ⟨rfl, hb5⟩; have hT := bc_then hT hb5; have HQ : Veil _ := ⟨HQ.out.below hb5⟩; obtain ⟨c0, c1, c2, c3⟩ := HQ.out)
              | (go_at_call 16; (with_reducible refine (L1.out _).mono ?_); rintro e w4 ⟨rfl, hb4⟩; have hT := bc_then hT hb4; have HQ : Veil _ := ⟨HQ.out.below hb4⟩; obtain ⟨c0, c1, c2, c3⟩ := HQ.out)
              | (go_at_call 9; (with_reducible refine (P2.out _).mono ?_); rintro e w3 ⟨rfl, hb3⟩; have hT := bc_then hT hb3; have HQ : Veil _ := ⟨HQ.out.below hb3⟩; obtain ⟨c0, c1, c2, c3⟩ := HQ.out)
              | (go_at_call 15; (with_reducible refine (P1.out _).mono ?_); rintro e w2 ⟨rfl, hb2⟩; have hT := bc_then hT hb2; have HQ : Veil _ := ⟨HQ.out.below hb2⟩; obtain ⟨c0, c1, c2, c3⟩ := HQ.out)
              | (go_at_call 8; refine (shown10_any _).mono ?_; rintro e w1 ⟨rfl, hb1⟩; have hT := bc_then HW.out hb1; have HQ : Veil _ := ⟨HB.out.below hb1⟩; obtain ⟨c0, c1, c2, c3⟩ := HQ.out))
            all_goals
              go_ret
              exact ⟨rfl, hT⟩
        · have hdb : (A == A0) = false := by simpa using hd
          cases X
          · obtain rfl : Y = false := by simpa using hxy
            clear hxy
            have HB : Veil (PlBox (w.alloc (.cells #[.int .i64 k1, .int .u32 A, .int .u16 I, .int .u32 M] 25)) w.heap.size k1 A I M) := ⟨PlBox.new _ _ _ _ _ _⟩
            have HW : Veil (Below w.heap.size w (w.alloc (.cells #[.int .i64 k1, .int .u32 A, .int .u16 I, .int .u32 M] 25))) := ⟨below_al (Below.refl _ _) _⟩
            go_enter Try.func5, Try.ntmps5
            go_wp2_with (first
              | (go_at_call 16; (with_reducible refine (L2.out _).mono ?_); rintro e w5 ⟨rfl, hb5⟩; have hT := bc_then hT hb5; have HQ : Veil _ := ⟨HQ.out.below hb5⟩; obtain ⟨c0, c1, c2, c3⟩ := HQ.out)
              | (go_at_call 16; (with_reducible refine (L1.out _).mono ?_); rintro e w4 ⟨rfl, hb4⟩; have hT := bc_then hT hb4; have HQ : Veil _ := ⟨HQ.out.below hb4⟩; obtain ⟨c0, c1, c2, c3⟩ := HQ.out)
              | (go_at_call 9; (with_reducible refine (P2.out _).mono ?_); rintro e w3 ⟨rfl, hb3⟩; have hT := bc_then hT hb3; have HQ : Veil _ := ⟨HQ.out.below hb3⟩; obtain ⟨c0, c1, c2, c3⟩ := HQ.out)
              | (go_at_call 15; (with_reducible refine (P1.out _).mono ?_); rintro e w2 ⟨rfl, hb2⟩; have hT := bc_then hT hb2; have HQ : Veil _ := ⟨HQ.out.below hb2⟩; obtain ⟨c0, c1, c2, c3⟩ := HQ.out)
              | (go_at_call 8; refine (shown10_any _).mono ?_; rintro e w1 ⟨rfl, hb1⟩; have hT := bc_then HW.out hb1; have HQ : Veil _ := ⟨HB.out.below hb1⟩; obtain ⟨c0, c1, c2, c3⟩ := HQ.out))
            all_goals
              go_ret
              exact ⟨rfl, hT⟩
          · clear hxy
            have HB : Veil (PlBox (w.alloc (.cells #[.int .i64 k1, .int .u32 A, .int .u16 I, .int .u32 M] 25)) w.heap.size k1 A I M) := ⟨PlBox.new _ _ _ _ _ _⟩
            have HW : Veil (Below w.heap.size w (w.alloc (.cells #[.int .i64 k1, .int .u32 A, .int .u16 I, .int .u32 M] 25))) := ⟨below_al (Below.refl _ _) _⟩
            go_enter Try.func5, Try.ntmps5
            go_wp2_with (first
              | (go_at_call 16; (with_reducible refine (L2.out _).mono ?_); rintro e w5 ⟨rfl, hb5⟩; have hT := bc_then hT hb5; have HQ : Veil _ := ⟨HQ.out.below hb5⟩; obtain ⟨c0, c1, c2, c3⟩ := HQ.out)
              | (go_at_call 16; (with_reducible refine (L1.out _).mono ?_); rintro e w4 ⟨rfl, hb4⟩; have hT := bc_then hT hb4; have HQ : Veil _ := ⟨HQ.out.below hb4⟩; obtain ⟨c0, c1, c2, c3⟩ := HQ.out)
              | (go_at_call 9; (with_reducible refine (P2.out _).mono ?_); rintro e w3 ⟨rfl, hb3⟩; have hT := bc_then hT hb3; have HQ : Veil _ := ⟨HQ.out.below hb3⟩; obtain ⟨c0, c1, c2, c3⟩ := HQ.out)
              | (go_at_call 15; (with_reducible refine (P1.out _).mono ?_); rintro e w2 ⟨rfl, hb2⟩; have hT := bc_then hT hb2; have HQ : Veil _ := ⟨HQ.out.below hb2⟩; obtain ⟨c0, c1, c2, c3⟩ := HQ.out)
              | (go_at_call 8; refine (shown10_any _).mono ?_; rintro e w1 ⟨rfl, hb1⟩; have hT := bc_then HW.out hb1; have HQ : Veil _ := ⟨HB.out.below hb1⟩; obtain ⟨c0, c1, c2, c3⟩ := HQ.out))
            all_goals
              go_ret
              exact ⟨rfl, hT⟩
  · clear HI L1 L2
    rw [he] at P1
    dsimp only at P1
    have hout' : (a0 : Int) < 1 ∨ (1000000 : Int) < a0 ∨ (k ≠ 2 ∧ k ≠ 3) := by omega
    rw [hA0] at P1 hout' ⊢
    clear he hout ha hA0
    generalize p.keyR = x1 at P2 HK
    obtain ⟨S, c1⟩ := x1
    obtain ⟨k1, a, i, m⟩ := p
    unfold Pl.v at *
    dsimp only at *
    clear HK
    generalize (a : Int) = A at *
    generalize (i : Int) = I at *
    generalize (m : Int) = M at *
    rcases hout' with ho | ho | ⟨ho, ho2⟩
    · have HB : Veil (PlBox (w.alloc (.cells #[.int .i64 k1, .int .u32 A, .int .u16 I, .int .u32 M] 25)) w.heap.size k1 A I M) := ⟨PlBox.new _ _ _ _ _ _⟩
      have HW : Veil (Below w.heap.size w (w.alloc (.cells #[.int .i64 k1, .int .u32 A, .int .u16 I, .int .u32 M] 25))) := ⟨below_al (Below.refl _ _) _⟩
      go_enter Try.func5, Try.ntmps5
      go_wp2_with (first
        | (go_at_call 9; (with_reducible refine (P2.out _).mono ?_); rintro e w3 ⟨rfl, hb3⟩; have hT := bc_then hT hb3; have HQ : Veil _ := ⟨HQ.out.below hb3⟩; obtain ⟨c0, c1, c2, c3⟩ := HQ.out)
        | (go_at_call 15; (with_reducible refine (P1.out _).mono ?_); rintro e w2 ⟨rfl, hb2⟩; have hT := bc_then hT hb2; have HQ : Veil _ := ⟨HQ.out.below hb2⟩; obtain ⟨c0, c1, c2, c3⟩ := HQ.out)
        | (go_at_call 8; refine (shown10_any _).mono ?_; rintro e w1 ⟨rfl, hb1⟩; have hT := bc_then HW.out hb1; have HQ : Veil _ := ⟨HB.out.below hb1⟩; obtain ⟨c0, c1, c2, c3⟩ := HQ.out))
      all_goals
        go_ret
        exact ⟨rfl, hT⟩
    · have HB : Veil (PlBox (w.alloc (.cells #[.int .i64 k1, .int .u32 A, .int .u16 I, .int .u32 M] 25)) w.heap.size k1 A I M) := ⟨PlBox.new _ _ _ _ _ _⟩
      have HW : Veil (Below w.heap.size w (w.alloc (.cells #[.int .i64 k1, .int .u32 A, .int .u16 I, .int .u32 M] 25))) := ⟨below_al (Below.refl _ _) _⟩
      go_enter Try.func5, Try.ntmps5
      go_wp2_with (first
        | (go_at_call 9; (with_reducible refine (P2.out _).mono ?_); rintro e w3 ⟨rfl, hb3⟩; have hT := bc_then hT hb3; have HQ : Veil _ := ⟨HQ.out.below hb3⟩; obtain ⟨c0, c1, c2, c3⟩ := HQ.out)
        | (go_at_call 15; (with_reducible refine (P1.out _).mono ?_); rintro e w2 ⟨rfl, hb2⟩; have hT := bc_then hT hb2; have HQ : Veil _ := ⟨HQ.out.below hb2⟩; obtain ⟨c0, c1, c2, c3⟩ := HQ.out)
        | (go_at_call 8; refine (shown10_any _).mono ?_; rintro e w1 ⟨rfl, hb1⟩; have hT := bc_then HW.out hb1; have HQ : Veil _ := ⟨HB.out.below hb1⟩; obtain ⟨c0, c1, c2, c3⟩ := HQ.out))
      all_goals
        go_ret
        exact ⟨rfl, hT⟩
    · have n2 : (k != 2) = true := by simpa using ho
      have n3 : (k != 3) = true := by simpa using ho2
      have HB : Veil (PlBox (w.alloc (.cells #[.int .i64 k1, .int .u32 A, .int .u16 I, .int .u32 M] 25)) w.heap.size k1 A I M) := ⟨PlBox.new _ _ _ _ _ _⟩
      have HW : Veil (Below w.heap.size w (w.alloc (.cells #[.int .i64 k1, .int .u32 A, .int .u16 I, .int .u32 M] 25))) := ⟨below_al (Below.refl _ _) _⟩
      go_enter Try.func5, Try.ntmps5
      go_wp2_with (first
        | (go_at_call 9; (with_reducible refine (P2.out _).mono ?_); rintro e w3 ⟨rfl, hb3⟩; have hT := bc_then hT hb3; have HQ : Veil _ := ⟨HQ.out.below hb3⟩; obtain ⟨c0, c1, c2, c3⟩ := HQ.out)
        | (go_at_call 15; (with_reducible refine (P1.out _).mono ?_); rintro e w2 ⟨rfl, hb2⟩; have hT := bc_then hT hb2; have HQ : Veil _ := ⟨HQ.out.below hb2⟩; obtain ⟨c0, c1, c2, c3⟩ := HQ.out)
        | (go_at_call 8; refine (shown10_any _).mono ?_; rintro e w1 ⟨rfl, hb1⟩; have hT := bc_then HW.out hb1; have HQ : Veil _ := ⟨HB.out.below hb1⟩; obtain ⟨c0, c1, c2, c3⟩ := HQ.out))
      all_goals
        go_ret
        exact ⟨rfl, hT⟩

/-! ### KeysOrder -/
theorem order_facts (p q : Pl) (hp : p.Ok) (hq : q.Ok) (h1 : p.right = true) (h2 : q.right = true) (hk : p.kind = q.kind) (ha : p.a = q.a) :
    lessB p.key q.key = (decide ((p.item : Int) < q.item) || decide ((p.mail : Int) < q.mail)) ∧ (p.key = q.key ↔ (p.item : Int) = q.item ∧ (p.mail : Int) = q.mail) := by
  refine ⟨?_, fun h => ?_, fun h => ?_⟩
  · rw [key_order p q hp hq h1 h2 hk ha]
    simp
  · have e1 := p.back hp h1
    have e2 := q.back hq h2
    rw [h, e2] at e1
    simp only [Prod.mk.injEq, and_true] at e1
    rw [e1]
    exact ⟨rfl, rfl⟩
  · have : p = q := by
      obtain ⟨k, a, i, m⟩ := p
      obtain ⟨k', a', i', m'⟩ := q
      dsimp only at *
      obtain ⟨h3, h4⟩ := h
      obtain rfl : i = i' := by omega
      obtain rfl : m = m' := by omega
      rw [hk, ha]
    rw [this]

set_option maxRecDepth 20000 in
set_option maxHeartbeats 2000000 in
theorem keysOrder_any (p q : Pl) (hp : p.Ok) (hq : q.Ok) (w : World) : Calls Try.prog 6 #[p.v, q.v] w fun e w' => e = .returned (.bool true) ∧ Below w.heap.size w w' := by
  have P1 : Veil _ := ⟨fun w => kykey_any p hp w⟩
  have P2 : Veil _ := ⟨fun w => kykey_any q hq w⟩
  have hl1 := p.keyR_len
  have hl2 := q.keyR_len
  have L1 : Veil _ := ⟨fun w => less_any p.keyR.1 q.keyR.1 (by omega) (by omega) w⟩
  have K1 : p.keyR.2 ≠ 0 ∨ p.right = true ∧ p.keyR = (p.key, 0) := by
    by_cases h : p.right = true
    · exact .inr ⟨h, by unfold Pl.keyR; rw [if_pos h]⟩
    · exact .inl (by unfold Pl.keyR; rw [if_neg h]; decide)
  have K2 : q.keyR.2 ≠ 0 ∨ q.right = true ∧ q.keyR = (q.key, 0) := by
    by_cases h : q.right = true
    · exact .inr ⟨h, by unfold Pl.keyR; rw [if_pos h]⟩
    · exact .inl (by unfold Pl.keyR; rw [if_neg h]; decide)
  have HF : Veil (p.right = true → q.right = true → p.kind = q.kind → p.a = q.a → lessB p.key q.key = (decide ((p.item : Int) < q.item) || decide ((p.mail : Int) < q.mail)) ∧ (p.key = q.key ↔ (p.item : Int) = q.item ∧ (p.mail : Int) = q.mail)) := ⟨order_facts p q hp hq⟩
  clear hp hq hl1 hl2
  rcases K1 with K1 | ⟨r1, K1⟩
  · clear K2 HF L1
    generalize p.keyR = x1 at P1 K1
    generalize q.keyR = x2 at P2
    obtain ⟨S, c1⟩ := x1
    obtain ⟨S2, c2⟩ := x2
    obtain ⟨k1, a, i, m⟩ := p
    obtain ⟨k2, a2, i2, m2⟩ := q
    unfold Pl.v at *
    dsimp only at *
    generalize hA : (a : Int) = A at *
    generalize (i : Int) = I at *
    generalize (m : Int) = M at *
    generalize hA2 : (a2 : Int) = A2 at *
    generalize (i2 : Int) = I2 at *
    generalize (m2 : Int) = M2 at *
    clear hA hA2
    have HB : Veil (PlBox ((w.alloc (.cells #[.int .i64 k1, .int .u32 A, .int .u16 I, .int .u32 M] 25)).alloc (.cells #[.int .i64 k2, .int .u32 A2, .int .u16 I2, .int .u32 M2] 25)) w.heap.size k1 A I M ∧ PlBox ((w.alloc (.cells #[.int .i64 k1, .int .u32 A, .int .u16 I, .int .u32 M] 25)).alloc (.cells #[.int .i64 k2, .int .u32 A2, .int .u16 I2, .int .u32 M2] 25)) (w.heap.size + 1) k2 A2 I2 M2) := ⟨(PlBox.new _ _ _ _ _ _).below (below_al (Below.refl _ _) _), PlBox.new1 _ _ _ _ _ _ _⟩
    have HW : Veil (Below w.heap.size w ((w.alloc (.cells #[.int .i64 k1, .int .u32 A, .int .u16 I, .int .u32 M] 25)).alloc (.cells #[.int .i64 k2, .int .u32 A2, .int .u16 I2, .int .u32 M2] 25))) := ⟨below_al (below_al (Below.refl _ _) _) _⟩
    go_enter Try.func6, Try.ntmps6
    go_wp2_with (first
      | (go_at_call 9; (with_reducible refine (P2.out _).mono ?_); rintro e w3 ⟨rfl, hb3⟩; have hT := bc_then hT2 hb3; have HQ3 : Veil _ := ⟨(⟨HQ2.out.1.below hb3, HQ2.out.2.below hb3⟩ : _ ∧ _)⟩; obtain ⟨⟨c0, c1, c2, c3⟩, d0, d1, d2, d3⟩ := HQ3.out)
      | (go_at_call 9; (with_reducible refine (P1.out _).mono ?_); rintro e w2 ⟨rfl, hb2⟩; have hT2 := bc_then hT1 hb2; have HQ2 : Veil _ := ⟨(⟨HQ1.out.1.below hb2, HQ1.out.2.below hb2⟩ : _ ∧ _)⟩; obtain ⟨⟨c0, c1, c2, c3⟩, d0, d1, d2, d3⟩ := HQ2.out)
      | (go_at_call 8; refine (shown10_any _).mono ?_; rintro e w1 ⟨rfl, hb1⟩; have hT1 := bc_then HW.out hb1; have HQ1 : Veil _ := ⟨(⟨HB.out.1.below hb1, HB.out.2.below hb1⟩ : _ ∧ _)⟩; obtain ⟨⟨c0, c1, c2, c3⟩, d0, d1, d2, d3⟩ := HQ1.out))
    all_goals
      go_ret
      exact ⟨rfl, hT⟩
  rcases K2 with K2 | ⟨r2, K2⟩
  · clear HF L1
    rw [K1] at P1
    generalize p.key = S at P1
    generalize q.keyR = x2 at P2 K2
    clear K1 r1
    obtain ⟨S2, c2⟩ := x2
    obtain ⟨k1, a, i, m⟩ := p
    obtain ⟨k2, a2, i2, m2⟩ := q
    unfold Pl.v at *
    dsimp only at *
    generalize hA : (a : Int) = A at *
    generalize (i : Int) = I at *
    generalize (m : Int) = M at *
    generalize hA2 : (a2 : Int) = A2 at *
    generalize (i2 : Int) = I2 at *
    generalize (m2 : Int) = M2 at *
    clear hA hA2
    have HB : Veil (PlBox ((w.alloc (.cells #[.int .i64 k1, .int .u32 A, .int .u16 I, .int .u32 M] 25)).alloc (.cells #[.int .i64 k2, .int .u32 A2, .int .u16 I2, .int .u32 M2] 25)) w.heap.size k1 A I M ∧ PlBox ((w.alloc (.cells #[.int .i64 k1, .int .u32 A, .int .u16 I, .int .u32 M] 25)).alloc (.cells #[.int .i64 k2, .int .u32 A2, .int .u16 I2, .int .u32 M2] 25)) (w.heap.size + 1) k2 A2 I2 M2) := ⟨(PlBox.new _ _ _ _ _ _).below (below_al (Below.refl _ _) _), PlBox.new1 _ _ _ _ _ _ _⟩
    have HW : Veil (Below w.heap.size w ((w.alloc (.cells #[.int .i64 k1, .int .u32 A, .int .u16 I, .int .u32 M] 25)).alloc (.cells #[.int .i64 k2, .int .u32 A2, .int .u16 I2, .int .u32 M2] 25))) := ⟨below_al (below_al (Below.refl _ _) _) _⟩
    go_enter Try.func6, Try.ntmps6
    go_wp2_with (first
      | (go_at_call 9; (with_reducible refine (P2.out _).mono ?_); rintro e w3 ⟨rfl, hb3⟩; have hT := bc_then hT2 hb3; have HQ3 : Veil _ := ⟨(⟨HQ2.out.1.below hb3, HQ2.out.2.below hb3⟩ : _ ∧ _)⟩; obtain ⟨⟨c0, c1, c2, c3⟩, d0, d1, d2, d3⟩ := HQ3.out)
      | (go_at_call 9; (with_reducible refine (P1.out _).mono ?_); rintro e w2 ⟨rfl, hb2⟩; have hT2 := bc_then hT1 hb2; have HQ2 : Veil _ := ⟨(⟨HQ1.out.1.below hb2, HQ1.out.2.below hb2⟩ : _ ∧ _)⟩; obtain ⟨⟨c0, c1, c2, c3⟩, d0, d1, d2, d3⟩ := HQ2.out)
      | (go_at_call 8; refine (shown10_any _).mono ?_; rintro e w1 ⟨rfl, hb1⟩; have hT1 := bc_then HW.out hb1; have HQ1 : Veil _ := ⟨(⟨HB.out.1.below hb1, HB.out.2.below hb1⟩ : _ ∧ _)⟩; obtain ⟨⟨c0, c1, c2, c3⟩, d0, d1, d2, d3⟩ := HQ1.out))
    all_goals
      go_ret
      exact ⟨rfl, hT⟩
  have hdif : p.kind ≠ q.kind ∨ p.kind = q.kind ∧ ((p.a : Int) ≠ (q.a : Int) ∨ p.a = q.a) := by omega
  rw [K1] at P1 L1
  rw [K2] at P2 L1
  dsimp only at P1 P2 L1
  clear K1 K2
  rcases hdif with hd | ⟨hk, hd | ha⟩
  · clear HF r1 r2 L1
    have hdb : (p.kind == q.kind) = false := by simpa using hd
    generalize p.key = S at P1
    generalize q.key = S2 at P2
    obtain ⟨k1, a, i, m⟩ := p
    obtain ⟨k2, a2, i2, m2⟩ := q
    unfold Pl.v at *
    dsimp only at *
    generalize hA : (a : Int) = A at *
    generalize (i : Int) = I at *
    generalize (m : Int) = M at *
    generalize hA2 : (a2 : Int) = A2 at *
    generalize (i2 : Int) = I2 at *
    generalize (m2 : Int) = M2 at *
    clear hA hA2
    have HB : Veil (PlBox ((w.alloc (.cells #[.int .i64 k1, .int .u32 A, .int .u16 I, .int .u32 M] 25)).alloc (.cells #[.int .i64 k2, .int .u32 A2, .int .u16 I2, .int .u32 M2] 25)) w.heap.size k1 A I M ∧ PlBox ((w.alloc (.cells #[.int .i64 k1, .int .u32 A, .int .u16 I, .int .u32 M] 25)).alloc (.cells #[.int .i64 k2, .int .u32 A2, .int .u16 I2, .int .u32 M2] 25)) (w.heap.size + 1) k2 A2 I2 M2) := ⟨(PlBox.new _ _ _ _ _ _).below (below_al (Below.refl _ _) _), PlBox.new1 _ _ _ _ _ _ _⟩
    have HW : Veil (Below w.heap.size w ((w.alloc (.cells #[.int .i64 k1, .int .u32 A, .int .u16 I, .int .u32 M] 25)).alloc (.cells #[.int .i64 k2, .int .u32 A2, .int .u16 I2, .int .u32 M2] 25))) := ⟨below_al (below_al (Below.refl _ _) _) _⟩
    go_enter Try.func6, Try.ntmps6
    go_wp2_with (first
      | (go_at_call 9; (with_reducible refine (P2.out _).mono ?_); rintro e w3 ⟨rfl, hb3⟩; have hT := bc_then hT2 hb3; have HQ3 : Veil _ := ⟨(⟨HQ2.out.1.below hb3, HQ2.out.2.below hb3⟩ : _ ∧ _)⟩; obtain ⟨⟨c0, c1, c2, c3⟩, d0, d1, d2, d3⟩ := HQ3.out)
      | (go_at_call 9; (with_reducible refine (P1.out _).mono ?_); rintro e w2 ⟨rfl, hb2⟩; have hT2 := bc_then hT1 hb2; have HQ2 : Veil _ := ⟨(⟨HQ1.out.1.below hb2, HQ1.out.2.below hb2⟩ : _ ∧ _)⟩; obtain ⟨⟨c0, c1, c2, c3⟩, d0, d1, d2, d3⟩ := HQ2.out)
      | (go_at_call 8; refine (shown10_any _).mono ?_; rintro e w1 ⟨rfl, hb1⟩; have hT1 := bc_then HW.out hb1; have HQ1 : Veil _ := ⟨(⟨HB.out.1.below hb1, HB.out.2.below hb1⟩ : _ ∧ _)⟩; obtain ⟨⟨c0, c1, c2, c3⟩, d0, d1, d2, d3⟩ := HQ1.out))
    all_goals
      go_ret
      exact ⟨rfl, hT⟩
  · clear HF r1 r2 L1
    have hdb : ((p.a : Int) == (q.a : Int)) = false := by simpa using hd
    generalize p.key = S at P1
    generalize q.key = S2 at P2
    obtain ⟨k1, a, i, m⟩ := p
    obtain ⟨k2, a2, i2, m2⟩ := q
    unfold Pl.v at *
    dsimp only at *
    generalize hA : (a : Int) = A at *
    generalize (i : Int) = I at *
    generalize (m : Int) = M at *
    generalize hA2 : (a2 : Int) = A2 at *
    generalize (i2 : Int) = I2 at *
    generalize (m2 : Int) = M2 at *
    clear hA hA2
    subst hk
    have HB : Veil (PlBox ((w.alloc (.cells #[.int .i64 k1, .int .u32 A, .int .u16 I, .int .u32 M] 25)).alloc (.cells #[.int .i64 k1, .int .u32 A2, .int .u16 I2, .int .u32 M2] 25)) w.heap.size k1 A I M ∧ PlBox ((w.alloc (.cells #[.int .i64 k1, .int .u32 A, .int .u16 I, .int .u32 M] 25)).alloc (.cells #[.int .i64 k1, .int .u32 A2, .int .u16 I2, .int .u32 M2] 25)) (w.heap.size + 1) k1 A2 I2 M2) := ⟨(PlBox.new _ _ _ _ _ _).below (below_al (Below.refl _ _) _), PlBox.new1 _ _ _ _ _ _ _⟩
    have HW : Veil (Below w.heap.size w ((w.alloc (.cells #[.int .i64 k1, .int .u32 A, .int .u16 I, .int .u32 M] 25)).alloc (.cells #[.int .i64 k1, .int .u32 A2, .int .u16 I2, .int .u32 M2] 25))) := ⟨below_al (below_al (Below.refl _ _) _) _⟩
    go_enter Try.func6, Try.ntmps6
    go_wp2_with (first
      | (go_at_call 9; (with_reducible refine (P2.out _).mono ?_); rintro e w3 ⟨rfl, hb3⟩; have hT := bc_then hT2 hb3; have HQ3 : Veil _ := ⟨(⟨HQ2.out.1.below hb3, HQ2.out.2.below hb3⟩ : _ ∧ _)⟩; obtain ⟨⟨c0, c1, c2, c3⟩, d0, d1, d2, d3⟩ := HQ3.out)
      | (go_at_call 9; (with_reducible refine (P1.out _).mono ?_); rintro e w2 ⟨rfl, hb2⟩; have hT2 := bc_then hT1 hb2; have HQ2 : Veil _ := ⟨(⟨HQ1.out.1.below hb2, HQ1.out.2.below hb2⟩ : _ ∧ _)⟩; obtain ⟨⟨c0, c1, c2, c3⟩, d0, d1, d2, d3⟩ := HQ2.out)
      | (go_at_call 8; refine (shown10_any _).mono ?_; rintro e w1 ⟨rfl, hb1⟩; have hT1 := bc_then HW.out hb1; have HQ1 : Veil _ := ⟨(⟨HB.out.1.below hb1, HB.out.2.below hb1⟩ : _ ∧ _)⟩; obtain ⟨⟨c0, c1, c2, c3⟩, d0, d1, d2, d3⟩ := HQ1.out))
    all_goals
      go_ret
      exact ⟨rfl, hT⟩
  · obtain ⟨f1, f2⟩ := HF.out r1 r2 hk ha
    have hE : p.key = q.key ∧ (p.item : Int) = q.item ∧ (p.mail : Int) = q.mail ∨ (p.key == q.key) = false ∧ ((p.item : Int) ≠ q.item ∨ (p.item : Int) = q.item ∧ (p.mail : Int) ≠ q.mail) := by
      by_cases h : p.key = q.key
      · exact .inl ⟨h, f2.1 h⟩
      · exact .inr ⟨by simpa using h, by
          by_cases h3 : (p.item : Int) = q.item
          · by_cases h4 : (p.mail : Int) = q.mail
            · exact absurd (f2.2 ⟨h3, h4⟩) h
            · exact .inr ⟨h3, h4⟩
          · exact .inl h3⟩
    clear HF r1 r2 f2
    rw [f1] at L1
    clear f1
    generalize p.key = S at P1 L1 hE
    generalize q.key = S2 at P2 L1 hE
    obtain ⟨k1, a, i, m⟩ := p
    obtain ⟨k2, a2, i2, m2⟩ := q
    unfold Pl.v at *
    dsimp only at *
    generalize hA : (a : Int) = A at *
    generalize (i : Int) = I at *
    generalize (m : Int) = M at *
    generalize hA2 : (a2 : Int) = A2 at *
    generalize (i2 : Int) = I2 at *
    generalize (m2 : Int) = M2 at *
    subst hk
    have ha' : A = A2 := by rw [← hA, ← hA2, ha]
    clear hA hA2 ha
    subst ha'
    rcases hE with ⟨rfl, rfl, rfl⟩ | ⟨hs, hE⟩
    · rw [show (decide (I < I) || decide (M < M)) = false by simp] at L1
      have HB : Veil (PlBox ((w.alloc (.cells #[.int .i64 k1, .int .u32 A, .int .u16 I, .int .u32 M] 25)).alloc (.cells #[.int .i64 k1, .int .u32 A, .int .u16 I, .int .u32 M] 25)) w.heap.size k1 A I M ∧ PlBox ((w.alloc (.cells #[.int .i64 k1, .int .u32 A, .int .u16 I, .int .u32 M] 25)).alloc (.cells #[.int .i64 k1, .int .u32 A, .int .u16 I, .int .u32 M] 25)) (w.heap.size + 1) k1 A I M) := ⟨(PlBox.new _ _ _ _ _ _).below (below_al (Below.refl _ _) _), PlBox.new1 _ _ _ _ _ _ _⟩
      have HW : Veil (Below w.heap.size w ((w.alloc (.cells #[.int .i64 k1, .int .u32 A, .int .u16 I, .int .u32 M] 25)).alloc (.cells #[.int .i64 k1, .int .u32 A, .int .u16 I, .int .u32 M] 25))) := ⟨below_al (below_al (Below.refl _ _) _) _⟩
      go_enter Try.func6, Try.ntmps6
      go_wp2_with (first
        | (go_at_call 9; (with_reducible refine (P2.out _).mono ?_); rintro e w3 ⟨rfl, hb3⟩; have hT := bc_then hT2 hb3; have HQ3 : Veil _ := ⟨(⟨HQ2.out.1.below hb3, HQ2.out.2.below hb3⟩ : _ ∧ _)⟩; obtain ⟨⟨c0, c1, c2, c3⟩, d0, d1, d2, d3⟩ := HQ3.out)
        | (go_at_call 9; (with_reducible refine (P1.out _).mono ?_); rintro e w2 ⟨rfl, hb2⟩; have hT2 := bc_then hT1 hb2; have HQ2 : Veil _ := ⟨(⟨HQ1.out.1.below hb2, HQ1.out.2.below hb2⟩ : _ ∧ _)⟩; obtain ⟨⟨c0, c1, c2, c3⟩, d0, d1, d2, d3⟩ := HQ2.out)
        | (go_at_call 8; refine (shown10_any _).mono ?_; rintro e w1 ⟨rfl, hb1⟩; have hT1 := bc_then HW.out hb1; have HQ1 : Veil _ := ⟨(⟨HB.out.1.below hb1, HB.out.2.below hb1⟩ : _ ∧ _)⟩; obtain ⟨⟨c0, c1, c2, c3⟩, d0, d1, d2, d3⟩ := HQ1.out))
      have HT3 : Veil _ := ⟨hT⟩
      clear hT hT1 hT2 hb1 hb2 hb3
      go_quiet ((go_at_call 16; exact Calls.quiet_of (L1.out _)))
      all_goals
        go_wp2
        go_ret
        first
          | exact ⟨rfl, bc_drewN _ HT3.out⟩
          | exact ⟨ret_bool (by simp; omega), bc_drewN _ HT3.out⟩
    · rcases hE with hE | ⟨rfl, hE⟩
      · have hib : (I == I2) = false := by simpa using hE
        rcases Int.lt_or_le I I2 with hI | hI
        · rw [show (decide (I < I2) || decide (M < M2)) = true by simp [hI]] at L1
          have HB : Veil (PlBox ((w.alloc (.cells #[.int .i64 k1, .int .u32 A, .int .u16 I, .int .u32 M] 25)).alloc (.cells #[.int .i64 k1, .int .u32 A, .int .u16 I2, .int .u32 M2] 25)) w.heap.size k1 A I M ∧ PlBox ((w.alloc (.cells #[.int .i64 k1, .int .u32 A, .int .u16 I, .int .u32 M] 25)).alloc (.cells #[.int .i64 k1, .int .u32 A, .int .u16 I2, .int .u32 M2] 25)) (w.heap.size + 1) k1 A I2 M2) := ⟨(PlBox.new _ _ _ _ _ _).below (below_al (Below.refl _ _) _), PlBox.new1 _ _ _ _ _ _ _⟩
          have HW : Veil (Below w.heap.size w ((w.alloc (.cells #[.int .i64 k1, .int .u32 A, .int .u16 I, .int .u32 M] 25)).alloc (.cells #[.int .i64 k1, .int .u32 A, .int .u16 I2, .int .u32 M2] 25))) := ⟨below_al (below_al (Below.refl _ _) _) _⟩
          go_enter Try.func6, Try.ntmps6
          go_wp2_with (first
            | (go_at_call 9; (with_reducible refine (P2.out _).mono ?_); rintro e w3 ⟨rfl, hb3⟩; have hT := bc_then hT2 hb3; have HQ3 : Veil _ := ⟨(⟨HQ2.out.1.below hb3, HQ2.out.2.below hb3⟩ : _ ∧ _)⟩; obtain ⟨⟨c0, c1, c2, c3⟩, d0, d1, d2, d3⟩ := HQ3.out)
            | (go_at_call 9; (with_reducible refine (P1.out _).mono ?_); rintro e w2 ⟨rfl, hb2⟩; have hT2 := bc_then hT1 hb2; have HQ2 : Veil _ := ⟨(⟨HQ1.out.1.below hb2, HQ1.out.2.below hb2⟩ : _ ∧ _)⟩; obtain ⟨⟨c0, c1, c2, c3⟩, d0, d1, d2, d3⟩ := HQ2.out)
            | (go_at_call 8; refine (shown10_any _).mono ?_; rintro e w1 ⟨rfl, hb1⟩; have hT1 := bc_then HW.out hb1; have HQ1 : Veil _ := ⟨(⟨HB.out.1.below hb1, HB.out.2.below hb1⟩ : _ ∧ _)⟩; obtain ⟨⟨c0, c1, c2, c3⟩, d0, d1, d2, d3⟩ := HQ1.out))
          have HT3 : Veil _ := ⟨hT⟩
          clear hT hT1 hT2 hb1 hb2 hb3
          go_quiet ((go_at_call 16; exact Calls.quiet_of (L1.out _)))
          all_goals
            go_wp2
            go_ret
            first
              | exact ⟨rfl, bc_drewN _ HT3.out⟩
              | exact ⟨ret_bool (by simp; omega), bc_drewN _ HT3.out⟩
        · rcases Int.lt_or_le M M2 with hM | hM
          · rw [show (decide (I < I2) || decide (M < M2)) = true by simp [hM]] at L1
            have HB : Veil (PlBox ((w.alloc (.cells #[.int .i64 k1, .int .u32 A, .int .u16 I, .int .u32 M] 25)).alloc (.cells #[.int .i64 k1, .int .u32 A, .int .u16 I2, .int .u32 M2] 25)) w.heap.size k1 A I M ∧ PlBox ((w.alloc (.cells #[.int .i64 k1, .int .u32 A, .int .u16 I, .int .u32 M] 25)).alloc (.cells #[.int .i64 k1, .int .u32 A, .int .u16 I2, .int .u32 M2] 25)) (w.heap.size + 1) k1 A I2 M2) := ⟨(PlBox.new _ _ _ _ _ _).below (below_al (Below.refl _ _) _), PlBox.new1 _ _ _ _ _ _ _⟩
            have HW : Veil (Below w.heap.size w ((w.alloc (.cells #[.int .i64 k1, .int .u32 A, .int .u16 I, .int .u32 M] 25)).alloc (.cells #[.int .i64 k1, .int .u32 A, .int .u16 I2, .int .u32 M2] 25))) := ⟨below_al (below_al (Below.refl _ _) _) _⟩
            go_enter Try.func6, Try.ntmps6
            go_wp2_with (first
              | (go_at_call 9; (with_reducible refine (P2.out _).mono ?_); rintro e w3 ⟨rfl, hb3⟩; have hT := bc_then hT2 hb3; have HQ3 : Veil _ := ⟨(⟨HQ2.out.1.below hb3, HQ2.out.2.below hb3⟩ : _ ∧ _)⟩; obtain ⟨⟨c0, c1, c2, c3⟩, d0, d1, d2, d3⟩ := HQ3.out)
              | (go_at_call 9; (with_reducible refine (P1.out _).mono ?_); rintro e w2 ⟨rfl, hb2⟩; have hT2 := bc_then hT1 hb2; have HQ2 : Veil _ := ⟨(⟨HQ1.out.1.below hb2, HQ1.out.2.below hb2⟩ : _ ∧ _)⟩; obtain ⟨⟨c0, c1, c2, c3⟩, d0, d1, d2, d3⟩ := HQ2.out)
              | (go_at_call 8; refine (shown10_any _).mono ?_; rintro e w1 ⟨rfl, hb1⟩; have hT1 := bc_then HW.out hb1; have HQ1 : Veil _ := ⟨(⟨HB.out.1.below hb1, HB.out.2.below hb1⟩ : _ ∧ _)⟩; obtain ⟨⟨c0, c1, c2, c3⟩, d0, d1, d2, d3⟩ := HQ1.out))
            have HT3 : Veil _ := ⟨hT⟩
            clear hT hT1 hT2 hb1 hb2 hb3
            go_quiet ((go_at_call 16; exact Calls.quiet_of (L1.out _)))
            all_goals
              go_wp2
              go_ret
              first
                | exact ⟨rfl, bc_drewN _ HT3.out⟩
                | exact ⟨ret_bool (by simp; omega), bc_drewN _ HT3.out⟩
          · rw [show (decide (I < I2) || decide (M < M2)) = false by simp; omega] at L1
            have HB : Veil (PlBox ((w.alloc (.cells #[.int .i64 k1, .int .u32 A, .int .u16 I, .int .u32 M] 25)).alloc (.cells #[.int .i64 k1, .int .u32 A, .int .u16 I2, .int .u32 M2] 25)) w.heap.size k1 A I M ∧ PlBox ((w.alloc (.cells #[.int .i64 k1, .int .u32 A, .int .u16 I, .int .u32 M] 25)).alloc (.cells #[.int .i64 k1, .int .u32 A, .int .u16 I2, .int .u32 M2] 25)) (w.heap.size + 1) k1 A I2 M2) := ⟨(PlBox.new _ _ _ _ _ _).below (below_al (Below.refl _ _) _), PlBox.new1 _ _ _ _ _ _ _⟩
            have HW : Veil (Below w.heap.size w ((w.alloc (.cells #[.int .i64 k1, .int .u32 A, .int .u16 I, .int .u32 M] 25)).alloc (.cells #[.int .i64 k1, .int .u32 A, .int .u16 I2, .int .u32 M2] 25))) := ⟨below_al (below_al (Below.refl _ _) _) _⟩
            go_enter Try.func6, Try.ntmps6
            go_wp2_with (first
              | (go_at_call 9; (with_reducible refine (P2.out _).mono ?_); rintro e w3 ⟨rfl, hb3⟩; have hT := bc_then hT2 hb3; have HQ3 : Veil _ := ⟨(⟨HQ2.out.1.below hb3, HQ2.out.2.below hb3⟩ : _ ∧ _)⟩; obtain ⟨⟨c0, c1, c2, c3⟩, d0, d1, d2, d3⟩ := HQ3.out)
              | (go_at_call 9; (with_reducible refine (P1.out _).mono ?_); rintro e w2 ⟨rfl, hb2⟩; have hT2 := bc_then hT1 hb2; have HQ2 : Veil _ := ⟨(⟨HQ1.out.1.below hb2, HQ1.out.2.below hb2⟩ : _ ∧ _)⟩; obtain ⟨⟨c0, c1, c2, c3⟩, d0, d1, d2, d3⟩ := HQ2.out)
              | (go_at_call 8; refine (shown10_any _).mono ?_; rintro e w1 ⟨rfl, hb1⟩; have hT1 := bc_then HW.out hb1; have HQ1 : Veil _ := ⟨(⟨HB.out.1.below hb1, HB.out.2.below hb1⟩ : _ ∧ _)⟩; obtain ⟨⟨c0, c1, c2, c3⟩, d0, d1, d2, d3⟩ := HQ1.out))
            have HT3 : Veil _ := ⟨hT⟩
            clear hT hT1 hT2 hb1 hb2 hb3
            go_quiet ((go_at_call 16; exact Calls.quiet_of (L1.out _)))
            all_goals
              go_wp2
              go_ret
              first
                | exact ⟨rfl, bc_drewN _ HT3.out⟩
                | exact ⟨ret_bool (by simp; omega), bc_drewN _ HT3.out⟩
      · have hib : (M == M2) = false := by simpa using hE
        rcases Int.lt_or_le M M2 with hM | hM
        · rw [show (decide (I < I) || decide (M < M2)) = true by simp [hM]] at L1
          have HB : Veil (PlBox ((w.alloc (.cells #[.int .i64 k1, .int .u32 A, .int .u16 I, .int .u32 M] 25)).alloc (.cells #[.int .i64 k1, .int .u32 A, .int .u16 I, .int .u32 M2] 25)) w.heap.size k1 A I M ∧ PlBox ((w.alloc (.cells #[.int .i64 k1, .int .u32 A, .int .u16 I, .int .u32 M] 25)).alloc (.cells #[.int .i64 k1, .int .u32 A, .int .u16 I, .int .u32 M2] 25)) (w.heap.size + 1) k1 A I M2) := ⟨(PlBox.new _ _ _ _ _ _).below (below_al (Below.refl _ _) _), PlBox.new1 _ _ _ _ _ _ _⟩
          have HW : Veil (Below w.heap.size w ((w.alloc (.cells #[.int .i64 k1, .int .u32 A, .int .u16 I, .int .u32 M] 25)).alloc (.cells #[.int .i64 k1, .int .u32 A, .int .u16 I, .int .u32 M2] 25))) := ⟨below_al (below_al (Below.refl _ _) _) _⟩
          go_enter Try.func6, Try.ntmps6
          go_wp2_with (first
            | (go_at_call 9; (with_reducible refine (P2.out _).mono ?_); rintro e w3 ⟨rfl, hb3⟩; have hT := bc_then hT2 hb3; have HQ3 : Veil _ := ⟨(⟨HQ2.out.1.below hb3, HQ2.out.2.below hb3⟩ : _ ∧ _)⟩; obtain ⟨⟨c0, c1, c2, c3⟩, d0, d1, d2, d3⟩ := HQ3.out)
            | (go_at_call 9; (with_reducible refine (P1.out _).mono ?_); rintro e w2 ⟨rfl, hb2⟩; have hT2 := bc_then hT1 hb2; have HQ2 : Veil _ := ⟨(⟨HQ1.out.1.below hb2, HQ1.out.2.below hb2⟩ : _ ∧ _)⟩; obtain ⟨⟨c0, c1, c2, c3⟩, d0, d1, d2, d3⟩ := HQ2.out)
            | (go_at_call 8; refine (shown10_any _).mono ?_; rintro e w1 ⟨rfl, hb1⟩; have hT1 := bc_then HW.out hb1; have HQ1 : Veil _ := ⟨(⟨HB.out.1.below hb1, HB.out.2.below hb1⟩ : _ ∧ _)⟩; obtain ⟨⟨c0, c1, c2, c3⟩, d0, d1, d2, d3⟩ := HQ1.out))
          have HT3 : Veil _ := ⟨hT⟩
          clear hT hT1 hT2 hb1 hb2 hb3
          go_quiet ((go_at_call 16; exact Calls.quiet_of (L1.out _)))
          all_goals
            go_wp2
            go_ret
            first
              | exact ⟨rfl, bc_drewN _ HT3.out⟩
              | exact ⟨ret_bool (by simp; omega), bc_drewN _ HT3.out⟩
        · rw [show (decide (I < I) || decide (M < M2)) = false by simp; omega] at L1
          have HB : Veil (PlBox ((w.alloc (.cells #[.int .i64 k1, .int .u32 A, .int .u16 I, .int .u32 M] 25)).alloc (.cells #[.int .i64 k1, .int .u32 A, .int .u16 I, .int .u32 M2] 25)) w.heap.size k1 A I M ∧ PlBox ((w.alloc (.cells #[.int .i64 k1, .int .u32 A, .int .u16 I, .int .u32 M] 25)).alloc (.cells #[.int .i64 k1, .int .u32 A, .int .u16 I, .int .u32 M2] 25)) (w.heap.size + 1) k1 A I M2) := ⟨(PlBox.new _ _ _ _ _ _).below (below_al (Below.refl _ _) _), PlBox.new1 _ _ _ _ _ _ _⟩
          have HW : Veil (Below w.heap.size w ((w.alloc (.cells #[.int .i64 k1, .int .u32 A, .int .u16 I, .int .u32 M] 25)).alloc (.cells #[.int .i64 k1, .int .u32 A, .int .u16 I, .int .u32 M2] 25))) := ⟨below_al (below_al (Below.refl _ _) _) _⟩
          go_enter Try.func6, Try.ntmps6
          go_wp2_with (first
            | (go_at_call 9; (with_reducible refine (P2.out _).mono ?_); rintro e w3 ⟨rfl, hb3⟩; have hT := bc_then hT2 hb3; have HQ3 : Veil _ := ⟨(⟨HQ2.out.1.below hb3, HQ2.out.2.below hb3⟩ : _ ∧ _)⟩; obtain ⟨⟨c0, c1, c2, c3⟩, d0, d1, d2, d3⟩ := HQ3.out)
            | (go_at_call 9; (with_reducible refine (P1.out _).mono ?_); rintro e w2 ⟨rfl, hb2⟩; have hT2 := bc_then hT1 hb2; have HQ2 : Veil _ := ⟨(⟨HQ1.out.1.below hb2, HQ1.out.2.below hb2⟩ : _ ∧ _)⟩; obtain ⟨⟨c0, c1, c2, c3⟩, d0, d1, d2, d3⟩ := HQ2.out)
            | (go_at_call 8; refine (shown10_any _).mono ?_; rintro e w1 ⟨rfl, hb1⟩; have hT1 := bc_then HW.out hb1; have HQ1 : Veil _ := ⟨(⟨HB.out.1.below hb1, HB.out.2.below hb1⟩ : _ ∧ _)⟩; obtain ⟨⟨c0, c1, c2, c3⟩, d0, d1, d2, d3⟩ := HQ1.out))
          have HT3 : Veil _ := ⟨hT⟩
          clear hT hT1 hT2 hb1 hb2 hb3
          go_quiet ((go_at_call 16; exact Calls.quiet_of (L1.out _)))
          all_goals
            go_wp2
            go_ret
            first
              | exact ⟨rfl, bc_drewN _ HT3.out⟩
              | exact ⟨ret_bool (by simp; omega), bc_drewN _ HT3.out⟩
end Go.Proofs.Ytgaahgnjmhnggaa
