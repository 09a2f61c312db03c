/- Sums, reckoned: joined, changed, turned. -/
import Derived.Test.YtbmdodkgaehgnaaS8
namespace Go.Proofs.Ytbmdodkgaehgnaa.Sm
open Go Go.RowKit

/-! ### Closed forms -/
def rawA (t : List UInt8) : Nat := (t.map UInt8.toNat).sum
def rawB : List UInt8 → Nat
  | [] => 0
  | c :: t => (t.length + 1) * c.toNat + rawB t

theorem mul_mod_in (n a b p : Nat) : (b + n * (a % p)) % p = (b + n * a) % p := by
  rw [Nat.add_mod, Nat.mul_mod_mod, ← Nat.add_mod]

theorem addS_one : ∀ (t : List UInt8) (h : Nat × Nat), h.1 < 65521 → (addS h t).1 = (h.1 + rawA t) % 65521
  | [], h, h1 => by
    have e : (addS h []).1 = h.1 := rfl
    rw [e, rawA, List.map_nil, List.sum_nil, Nat.add_zero, Nat.mod_eq_of_lt h1]
  | c :: t, h, _ => by
    show (addS (stepS h c) t).1 = _
    rw [addS_one t _ (stepS_lt h c).1]
    simp only [stepS, rawA, List.map_cons, List.sum_cons]
    rw [Nat.mod_add_mod, Nat.add_assoc]
theorem addS_two : ∀ (t : List UInt8) (h : Nat × Nat), h.2 < 65521 → (addS h t).2 = (h.2 + t.length * h.1 + rawB t) % 65521
  | [], h, h2 => by
    have e : (addS h []).2 = h.2 := rfl
    rw [e, rawB, List.length_nil, Nat.zero_mul, Nat.add_zero, Nat.mod_eq_of_lt h2]
  | c :: t, h, _ => by
    show (addS (stepS h c) t).2 = _
    rw [addS_two t _ (stepS_lt h c).2]
    simp only [stepS, rawB, List.length_cons]
    generalize t.length = n
    generalize rawB t = B
    generalize c.toNat = k
    obtain ⟨x, y⟩ := h
    simp only
    have e1 : (y + (x + k) % 65521) % 65521 = (y + (x + k)) % 65521 := Nat.add_mod_mod _ _ _
    rw [e1]
    have e2 : ((y + (x + k)) % 65521 + n * ((x + k) % 65521) + B) % 65521 = ((y + (x + k)) + n * (x + k) + B) % 65521 := by
      rw [Nat.add_assoc, Nat.mod_add_mod, ← Nat.add_assoc, Nat.add_right_comm, mul_mod_in, Nat.add_right_comm]
    rw [e2]
    congr 1
    rw [Nat.mul_add, Nat.add_mul, Nat.add_mul, Nat.one_mul, Nat.one_mul]
    omega

theorem sumN_low (s : List UInt8) : sumN s % 65536 = (addS (1, 0) s).1 := by have := sum_lt s; unfold sumN wholeN; omega
theorem sumN_up (s : List UInt8) : sumN s / 65536 = (addS (1, 0) s).2 := by have := sum_lt s; unfold sumN wholeN; omega
theorem sumN_lt (s : List UInt8) : sumN s < 4294967296 := by have := sum_lt s; unfold sumN wholeN; omega
theorem okS_sumN (s : List UInt8) : okS (sumN s) = true := by
  unfold okS
  rw [sumN_low, sumN_up]
  simp [(sum_lt s).1, (sum_lt s).2]
theorem more_sum (s t : List UInt8) : moreN (sumN s) t = sumN (s ++ t) := by
  unfold moreN
  rw [sumN_low, sumN_up]
  unfold sumN addS
  rw [List.foldl_append]
theorem join_sum (s t : List UInt8) : joinN (sumN s) (sumN t) t.length = sumN (s ++ t) := by
  rw [← more_sum]
  unfold joinN moreN
  rw [sumN_low, sumN_up, sumN_low, sumN_up]
  congr 1
  have hs := sum_lt s
  have ht := sum_lt t
  have e1 : (addS (1, 0) t).1 = (1 + rawA t) % 65521 := addS_one t (1, 0) (by decide)
  have e2 : (addS (1, 0) t).2 = (0 + t.length * 1 + rawB t) % 65521 := addS_two t (1, 0) (by decide)
  have e3 := addS_one t (addS (1, 0) s) hs.1
  have e4 := addS_two t (addS (1, 0) s) hs.2
  unfold joinH
  refine Prod.ext ?_ ?_
  · show ((addS (1, 0) s).1 + 65520 + (addS (1, 0) t).1) % 65521 = (addS (addS (1, 0) s) t).1
    rw [e1, e3]; omega
  · show ((addS (1, 0) s).2 + (addS (1, 0) t).2 + t.length * ((addS (1, 0) s).1 + 65520)) % 65521 = (addS (addS (1, 0) s) t).2
    rw [e2, e4, Nat.mul_add]
    generalize (addS (1, 0) s).1 = x
    generalize (addS (1, 0) s).2 = y
    generalize rawB t = B
    generalize t.length = n
    generalize n * x = z
    omega

/-! ### Sealed bytes -/
theorem seal_back (n : Nat) (hn : n < 4294967296) : sealV (sealB n) = n := by
  simp only [sealV, sealB, shlS, List.foldl_cons, List.foldl_nil, Nat.toUInt8, UInt8.toNat_ofNat']
  omega
theorem sealB_len (n : Nat) : (sealB n).length = 4 := rfl
theorem opens_seal (s t : List UInt8) (h : t.length = 4) : opens (s ++ t) = decide (sealV t = sumN s) := by
  unfold opens
  have e : (s ++ t).length - 4 = s.length := by rw [List.length_append]; omega
  rw [e, List.take_left, List.drop_left, List.length_append, h]
  simp
theorem open_seal (s : List UInt8) : openR (s ++ sealB (sumN s)) = .tuple #[.string ⟨s.toArray⟩, .int .i64 0] := by
  unfold openR
  rw [opens_seal s _ rfl, seal_back _ (sumN_lt s)]
  have e : (s ++ sealB (sumN s)).length - 4 = s.length := by rw [List.length_append, sealB_len]; omega
  rw [e, List.take_left]
  simp
theorem open_not (s t : List UInt8) (h : t.length = 4) (hn : sealV t ≠ sumN s) : openR (s ++ t) = .tuple #[.string ⟨#[]⟩, .int .i64 20] := by
  unfold openR
  rw [opens_seal s t h]
  simp [hn]

/-! ### One byte changed -/
theorem rawA_set : ∀ (s : List UInt8) (i : Nat) (c : UInt8), i < s.length → rawA (s.set i c) + (s.getD i 0).toNat = rawA s + c.toNat
  | a :: s, 0, c, _ => by simp [rawA, List.getD]; omega
  | a :: s, i + 1, c, h => by
    have := rawA_set s i c (by simpa using h)
    simp [rawA, List.getD] at this ⊢
    omega
theorem sum_changed (s : List UInt8) (i : Nat) (c : UInt8) (hi : i < s.length) (hc : c ≠ s.getD i 0) : sumN (s.set i c) ≠ sumN s := by
  intro h
  have h1 := congrArg (· % 65536) h
  simp only [sumN_low] at h1
  rw [addS_one _ _ (by decide), addS_one _ _ (by decide)] at h1
  have h2 := rawA_set s i c hi
  have b1 := c.toNat_lt
  have b2 := (s.getD i 0).toNat_lt
  have h3 : c.toNat ≠ (s.getD i 0).toNat := fun e => hc (UInt8.toNat_inj.1 e)
  simp only at h1
  omega
theorem sealV_inj (a b c d a' b' c' d' : UInt8) (h : sealV [a, b, c, d] = sealV [a', b', c', d']) : a = a' ∧ b = b' ∧ c = c' ∧ d = d' := by
  simp only [sealV, shlS, List.foldl_cons, List.foldl_nil] at h
  have := a.toNat_lt; have := b.toNat_lt; have := c.toNat_lt; have := d.toNat_lt
  have := a'.toNat_lt; have := b'.toNat_lt; have := c'.toNat_lt; have := d'.toNat_lt
  refine ⟨UInt8.toNat_inj.1 ?_, UInt8.toNat_inj.1 ?_, UInt8.toNat_inj.1 ?_, UInt8.toNat_inj.1 ?_⟩ <;> omega
theorem seal_changed (t : List UInt8) (ht : t.length = 4) (i : Nat) (c : UInt8) (hi : i < 4) (hc : c ≠ t.getD i 0) : sealV (t.set i c) ≠ sealV t := by
  match t, ht with
  | [a, b, d, e], _ =>
    intro h
    have : i = 0 ∨ i = 1 ∨ i = 2 ∨ i = 3 := by omega
    rcases this with rfl | rfl | rfl | rfl
    · exact hc (sealV_inj _ _ _ _ _ _ _ _ h).1
    · exact hc (sealV_inj _ _ _ _ _ _ _ _ h).2.1
    · exact hc (sealV_inj _ _ _ _ _ _ _ _ h).2.2.1
    · exact hc (sealV_inj _ _ _ _ _ _ _ _ h).2.2.2
/-- Sealed bytes of which one is changed. -/
theorem finds (s : List UInt8) (i : Nat) (c : UInt8) (hi : i < s.length + 4) (hc : c ≠ (s ++ sealB (sumN s)).getD i 0) : openR ((s ++ sealB (sumN s)).set i c) = .tuple #[.string ⟨#[]⟩, .int .i64 20] := by
  by_cases h : i < s.length
  · rw [List.set_append_left _ _ h]
    refine open_not _ _ rfl ?_
    rw [seal_back _ (sumN_lt s)]
    refine Ne.symm (sum_changed s i c h ?_)
    simpa [List.getD, h, List.getElem?_append_left] using hc
  · rw [List.set_append_right _ _ (by omega)]
    refine open_not _ _ (by rw [List.length_set]; rfl) ?_
    have := seal_changed (sealB (sumN s)) rfl (i - s.length) c (by omega) (by
      simpa [List.getD, List.getElem?_append_right (show s.length ≤ i by omega)] using hc)
    rwa [seal_back _ (sumN_lt s)] at this

/-! ### Two neighbours turned -/
theorem rawB_append (s t : List UInt8) : rawB (s ++ t) = rawB s + t.length * rawA s + rawB t := by
  induction s with
  | nil => simp [rawB, rawA]
  | cons c s ih =>
    simp only [List.cons_append, rawB, ih, List.length_append, rawA, List.map_cons, List.sum_cons, Nat.mul_add, Nat.add_mul, Nat.one_mul]
    omega
theorem split_two (s : List UInt8) (k : Nat) (hk : k + 1 < s.length) : s = s.take k ++ [s.getD k 0, s.getD (k + 1) 0] ++ s.drop (k + 2) := by
  have h1 : k < s.length := by omega
  have e : s.drop k = s.getD k 0 :: s.getD (k + 1) 0 :: s.drop (k + 2) := by
    rw [List.drop_eq_getElem_cons h1, List.drop_eq_getElem_cons hk]
    simp [List.getD, h1, hk]
  have := (List.take_append_drop k s).symm
  rw [e] at this
  simpa using this
theorem sum_turned (s : List UInt8) (k : Nat) (hk : k + 1 < s.length) (hne : turnL s k ≠ s) : sumN (turnL s k) ≠ sumN s := by
  intro h
  have h1 := congrArg (· / 65536) h
  simp only [sumN_up] at h1
  rw [addS_two _ _ (by decide), addS_two _ _ (by decide)] at h1
  have hs := split_two s k hk
  have e1 : rawB (turnL s k) = rawB (s.take k ++ [s.getD (k + 1) 0, s.getD k 0] ++ s.drop (k + 2)) := rfl
  have e2 : rawB s = rawB (s.take k ++ [s.getD k 0, s.getD (k + 1) 0] ++ s.drop (k + 2)) := congrArg rawB hs
  have e3 : (turnL s k).length = s.length := by
    rw [congrArg List.length hs]; simp [turnL]
  have hab : s.getD k 0 ≠ s.getD (k + 1) 0 := fun e => hne (by
    have : turnL s k = s.take k ++ [s.getD (k + 1) 0, s.getD k 0] ++ s.drop (k + 2) := rfl
    rw [this, e]; rw [e] at hs; exact hs.symm)
  rw [e1, e2, e3] at h1
  simp only [rawB_append, List.length_append, List.length_cons, List.length_nil, rawA, List.map_append, List.map_cons, List.map_nil, List.sum_append, List.sum_cons, List.sum_nil, rawB] at h1
  have b1 := (s.getD k 0).toNat_lt
  have b2 := (s.getD (k + 1) 0).toNat_lt
  have h3 : (s.getD k 0).toNat ≠ (s.getD (k + 1) 0).toNat := fun e => hab (UInt8.toNat_inj.1 e)
  generalize (s.getD k 0).toNat = a at *
  generalize (s.getD (k + 1) 0).toNat = b at *
  simp only [Nat.mul_add, Nat.add_mul, Nat.mul_one, Nat.zero_add, Nat.add_zero] at h1
  omega
end Go.Proofs.Ytbmdodkgaehgnaa.Sm
