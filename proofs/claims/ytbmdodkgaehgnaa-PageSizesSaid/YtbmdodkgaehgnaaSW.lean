/- The walks of the document's own answers: More, Sum, Join. -/
import Derived.Test.YtbmdodkgaehgnaaSA
namespace Go.Proofs.Ytbmdodkgaehgnaa.Sm
open Go Go.RowKit
attribute [local go_sem] Oper.semAt_some

theorem right_any (n : Nat) (w : World) : Calls Try.prog 82 #[.int .u32 n] w fun e w' => e = .returned (.bool (okS n)) ∧ w = w' := by
  have h1 : okS n = (decide ((n : Int) / 65536 < 65521) && decide ((n : Int) % 65536 < 65521)) := by
    unfold okS
    rw [Bool.eq_iff_iff]
    simp only [Bool.and_eq_true, decide_eq_true_eq]
    omega
  have h0 : 0 ≤ (n : Int) := by omega
  obtain ⟨N, hN⟩ : ∃ N : Int, (n : Int) = N := ⟨_, rfl⟩
  rw [hN] at h0 h1 ⊢
  have H1 : Veil _ := ⟨h1⟩
  clear hN h1
  go_enter Try.func82, Try.ntmps82
  by_cases h2 : N / 65536 < 65521
  · by_cases h3 : N % 65536 < 65521
    · go_wp2
      go_ret
      exact ⟨by rw [H1.out]; simp [h2, h3], rfl⟩
    · go_wp2
      go_ret
      exact ⟨by rw [H1.out]; simp [h2, h3], rfl⟩
  · go_wp2
    go_ret
    exact ⟨by rw [H1.out, decide_eq_false (Int.not_lt.2 h2)]; rfl, rfl⟩

theorem ref_step {g : Nat × Nat} {x : Nat × Nat} {c : UInt8} {X1 X2 C : Int} (ht : g = stepS x c) (he : (x.1 : Int) = X1 ∧ (x.2 : Int) = X2 ∧ (c.toNat : Int) = C) : (X1 + C) % 65521 = (g.1 : Nat) ∧ (X2 + (X1 + C) % 65521) % 65521 = (g.2 : Nat) := by
  obtain ⟨h1, h2, h3⟩ := he
  subst ht h1 h2 h3
  constructor <;> simp [stepS]

set_option maxHeartbeats 1000000 in
theorem refmore_any (n : Nat) (hn : Veil (n < 4294967296)) (s : List UInt8) (hs : Veil (s.length ≤ 9223372036854775806)) (w : World) : Calls Try.prog 78 #[.int .u32 n, .string ⟨s.toArray⟩] w fun e w' => e = .returned (moreR n s) ∧ w = w' := by
  unfold moreR
  go_enter Try.func78, Try.ntmps78
  cases hok : okS n
  · have HOK : Veil _ := ⟨hok⟩
    clear hok
    go_wp2_with (go_at_call 82; refine (right_any n _).mono ?_; rintro e w2 ⟨rfl, rfl⟩; rw [HOK.out])
    go_ret2
    exact ⟨rfl, rfl⟩
  · have HOK : Veil _ := ⟨hok⟩
    have H0 : Veil _ := ⟨okS_true hok⟩
    clear hok
    go_wp2_with (go_at_call 82; refine (right_any n _).mono ?_; rintro e w2 ⟨rfl, rfl⟩; rw [HOK.out])
    go_loop [7, 8, 9] (fun a b i => ∃ k : Nat, k ≤ s.length ∧ i = .int .i64 k ∧ a = .int .u32 (addS (n % 65536, n / 65536) (s.take k)).1 ∧ b = .int .u32 (addS (n % 65536, n / 65536) (s.take k)).2) (fun _ _ i => s.length - (intOf i).toNat)
    case atStart => exact ⟨0, Nat.zero_le _, rfl, by simp [addS], by simp [addS]⟩
    case round =>
      obtain ⟨k, hk, rfl, rfl, rfl⟩ := hrel
      by_cases hlt : k < s.length
      · have hst : Veil _ := ⟨addS_take (n % 65536, n / 65536) s k hlt⟩
        have hb : Veil _ := ⟨addS_lt (s.take k) (n % 65536, n / 65536) H0.out⟩
        obtain ⟨C, hC⟩ : ∃ C : Int, (((⟨s.toArray⟩ : ByteArray)[k]'(by simpa [ByteArray.size] using hlt)).toNat : Int) = C := ⟨_, rfl⟩
        have hC' : Veil (((s.getD k 0).toNat : Int) = C) := ⟨by rw [← hC, byte_at]⟩
        have b3 : 0 ≤ C ∧ C < 256 := by have := (s.getD k 0).toNat_lt; have := hC'.out; omega
        obtain ⟨b3, b3'⟩ := b3
        have hwk : wrap64 ((k : Int) + 1) = (k : Int) + 1 := by have := hs.out; unfold wrap64; omega
        have hwk2 : IntKind.i64.wrap ((k : Int) + 1) = (k : Int) + 1 := by have := hs.out; rw [IntKind.wrap_i64]; omega
        revert hst hb
        generalize addS (n % 65536, n / 65536) (s.take k) = x
        intro hst hb
        obtain ⟨X1, hX1⟩ : ∃ X1 : Int, (x.1 : Int) = X1 := ⟨_, rfl⟩
        obtain ⟨X2, hX2⟩ : ∃ X2 : Int, (x.2 : Int) = X2 := ⟨_, rfl⟩
        have b1 : 0 ≤ X1 ∧ X1 < 65521 := by have := hb.out; omega
        have b2 : 0 ≤ X2 ∧ X2 < 65521 := by have := hb.out; omega
        obtain ⟨b1, b1'⟩ := b1
        obtain ⟨b2, b2'⟩ := b2
        have HX : Veil _ := ⟨And.intro hX1 hX2⟩
        rw [hX1, hX2]
        clear hX1 hX2
        go_wp2
        have hr := ref_step hst.out ⟨HX.out.1, HX.out.2, hC'.out⟩
        refine ⟨⟨k + 1, by omega, by go_num, by rw [hr.1], by rw [hr.2]⟩, ?_⟩
        simp [intOf]; omega
      · obtain rfl : k = s.length := by omega
        rw [List.take_length]
        have hb : Veil _ := ⟨addS_lt s (n % 65536, n / 65536) H0.out⟩
        have ho : bits BinOp.or IntKind.u32 (((addS (n % 65536, n / 65536) s).2 : Int) * 65536) ((addS (n % 65536, n / 65536) s).1 : Int) = ((moreN n s : Nat) : Int) := or_low _ _ (by have := hb.out; omega) (by have := hb.out; omega)
        have hb2 : (((addS (n % 65536, n / 65536) s).2 : Nat) : Int) < 65521 := by have := hb.out; omega
        have hb0 : 0 ≤ (((addS (n % 65536, n / 65536) s).2 : Nat) : Int) := by omega
        revert ho hb2 hb0
        generalize (((addS (n % 65536, n / 65536) s).2 : Nat) : Int) = X2
        generalize (((addS (n % 65536, n / 65536) s).1 : Nat) : Int) = X1
        intro ho hb2 hb0
        go_wp2
        go_ret2
        exact ⟨rfl, rfl⟩

theorem refsum_any (s : List UInt8) (hs : Veil (s.length ≤ 9223372036854775806)) (w : World) : Calls Try.prog 63 #[.string ⟨s.toArray⟩] w fun e w' => e = .returned (.int .u32 (sumN s)) ∧ w = w' := by
  have hm := fun w => refmore_any 1 ⟨by decide⟩ s hs w
  have e : moreR 1 s = .tuple #[.int .u32 (sumN s), .int .i64 0] := by
    unfold moreR
    rw [if_pos (by decide)]
    rfl
  rw [e] at hm
  have HM : Veil _ := ⟨hm⟩
  clear hm e
  go_enter Try.func63, Try.ntmps63
  go_wp2_with (go_at_call 78; refine (HM.out w).mono ?_; rintro e w2 ⟨rfl, rfl⟩)
  go_ret
  exact ⟨rfl, rfl⟩

set_option maxRecDepth 100000 in
theorem join_mod (x1 x2 y2 n : Nat) : (((x2 : Int) + y2 + (n : Int) % 65521 * (((x1 : Int) + 65521 - 1) % 65521)) % 65521 : Int) = (((x2 + y2 + n * (x1 + 65520)) % 65521 : Nat) : Int) := by
  have e1 : ((x1 : Int) + 65521 - 1) % 65521 = ((x1 + 65520) % 65521 : Nat) := by omega
  have e4 : (n : Int) % 65521 = (n % 65521 : Nat) := by omega
  rw [e1, e4, ← Int.natCast_mul]
  have e3 : (x2 + y2 + n % 65521 * ((x1 + 65520) % 65521)) % 65521 = (x2 + y2 + n * (x1 + 65520)) % 65521 := by
    rw [Nat.add_mod, ← Nat.mul_mod, ← Nat.add_mod]
  rw [← e3]
  generalize n % 65521 * ((x1 + 65520) % 65521) = z
  omega
theorem nat_in {x k : Nat} (h : x < k) : 0 ≤ (x : Int) ∧ (x : Int) < (k : Int) := by omega
theorem join_lt (a b m : Nat) : joinN a b m < 4294967296 := by
  have e1 := mod_lt_p (a % 65536 + 65520 + b % 65536)
  have e2 := mod_lt_p (a / 65536 + b / 65536 + m * (a % 65536 + 65520))
  show (a / 65536 + b / 65536 + m * (a % 65536 + 65520)) % 65521 * 65536 + (a % 65536 + 65520 + b % 65536) % 65521 < 4294967296
  revert e1 e2
  generalize (a / 65536 + b / 65536 + m * (a % 65536 + 65520)) % 65521 = t
  generalize (a % 65536 + 65520 + b % 65536) % 65521 = l
  intro e1 e2
  omega
theorem or_words (t l : Nat) (e1 : l < 65536) (e2 : t < 65536) : bits BinOp.or IntKind.u64 ((t : Int) * 65536) (l : Int) = ((t * 65536 + l : Nat) : Int) := by
  have h := u64_or_nat (t * 65536) l (by omega) (by omega)
  rw [show t * 65536 ||| l = t * 65536 + l by
    rw [Nat.mul_comm t 65536]; exact (Nat.two_pow_add_eq_or_of_lt (i := 16) e1 t).symm] at h
  exact h
set_option maxRecDepth 100000 in
theorem join_prod (x m : Nat) : 0 ≤ (m : Int) % 65521 * (((x : Int) + 65521 - 1) % 65521) ∧ (m : Int) % 65521 * (((x : Int) + 65521 - 1) % 65521) < 4294967296 := by
  have h1 : 0 ≤ (m : Int) % 65521 ∧ (m : Int) % 65521 ≤ 65520 := by omega
  have h2 : 0 ≤ ((x : Int) + 65521 - 1) % 65521 ∧ ((x : Int) + 65521 - 1) % 65521 ≤ 65520 := by omega
  revert h1 h2
  generalize (m : Int) % 65521 = p
  generalize ((x : Int) + 65521 - 1) % 65521 = q
  intro h1 h2
  refine ⟨Int.mul_nonneg h1.1 h2.1, ?_⟩
  have := Int.mul_le_mul h1.2 h2.2 h2.1 (by omega)
  omega
set_option maxRecDepth 100000 in
/-- What is reckoned with a, b, n, told by numbers of their own. -/
theorem join_nums (a b : Nat) (n : Int) (ha : okS a = true) (hb : okS b = true) (hn1 : 0 ≤ n) : ∃ C D E F M S T V : Int, (a : Int) % 65536 = C ∧ (a : Int) / 65536 = D ∧ (b : Int) % 65536 = E ∧ (b : Int) / 65536 = F
    ∧ n % 65521 * ((C + 65521 - 1) % 65521) = M ∧ (C + E + 65521 - 1) % 65521 = S ∧ (D + F + M) % 65521 = T ∧ bits BinOp.or IntKind.u64 (T * 65536) S = V
    ∧ (0 ≤ C ∧ C < 65521) ∧ (0 ≤ D ∧ D < 65521) ∧ (0 ≤ E ∧ E < 65521) ∧ (0 ≤ F ∧ F < 65521) ∧ (0 ≤ M ∧ M < 4294967296) ∧ (0 ≤ S ∧ S < 65521) ∧ (0 ≤ T ∧ T < 65521) ∧ (0 ≤ V ∧ V < 4294967296) ∧ V = (joinN a b n.toNat : Nat) := by
  have h1 := okS_true ha
  have h2 := okS_true hb
  obtain ⟨m, rfl⟩ : ∃ m : Nat, n = m := ⟨n.toNat, by omega⟩
  have hj := join_mod (a % 65536) (a / 65536) (b / 65536) m
  have hjl := join_lt a b m
  have e1 := mod_lt_p (a % 65536 + 65520 + b % 65536)
  have e2 := mod_lt_p (a / 65536 + b / 65536 + m * (a % 65536 + 65520))
  have hV : bits BinOp.or IntKind.u64 ((((a / 65536 + b / 65536 + m * (a % 65536 + 65520)) % 65521 : Nat) : Int) * 65536) (((a % 65536 + 65520 + b % 65536) % 65521 : Nat) : Int) = (joinN a b m : Nat) := or_words _ _ e1 e2
  have hmm := join_prod (a % 65536) m
  have e3 : (a / 65536 + b / 65536 + m * (a % 65536 + 65520)) % 65521 < 65521 := Nat.mod_lt _ (by decide)
  have e4 : (a % 65536 + 65520 + b % 65536) % 65521 < 65521 := Nat.mod_lt _ (by decide)
  refine ⟨((a % 65536 : Nat) : Int), ((a / 65536 : Nat) : Int), ((b % 65536 : Nat) : Int), ((b / 65536 : Nat) : Int), _, ((a % 65536 + 65520 + b % 65536) % 65521 : Nat), ((a / 65536 + b / 65536 + m * (a % 65536 + 65520)) % 65521 : Nat), (joinN a b m : Nat), Int.natCast_emod a 65536 |>.symm, Int.natCast_ediv a 65536 |>.symm, Int.natCast_emod b 65536 |>.symm, Int.natCast_ediv b 65536 |>.symm, rfl, ?_, hj, hV, nat_in h1.1, nat_in h1.2, nat_in h2.1, nat_in h2.2, hmm, nat_in e4, nat_in e3, nat_in hjl, by rw [Int.toNat_natCast]⟩
  generalize a % 65536 = x
  generalize b % 65536 = y
  omega
end Go.Proofs.Ytbmdodkgaehgnaa.Sm
