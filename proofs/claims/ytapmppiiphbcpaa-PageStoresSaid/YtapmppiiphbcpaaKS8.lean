/- The walk of Open. -/
import Derived.Deep.RegionHeld3
import Derived.Test.YtapmppiiphbcpaaKS9
namespace Go.Proofs.Ytapmppiiphbcpaa.Sm
open Go Go.RowKit
attribute [local go_sem] Oper.semAt_some

theorem below_then {w w1 w2 : World} (h : Below w.heap.size w w1) (k : Below w1.heap.size w1 w2) : Below w.heap.size w w2 := h.trans (k.mono h.size)
theorem bool_eq (h : Nat × Nat) (v : Nat) (h1 : h.1 < 65521) : (!((h.1 : Int) == (v : Int) % 65536) || !((h.2 : Int) == (v : Int) / 65536)) = !decide (v = wholeN h) := by
  unfold wholeN
  rw [Bool.eq_iff_iff]
  simp
  omega
/-- What is opened. -/
def opens (s : List UInt8) : Bool := decide (4 ≤ s.length) && decide (sealV (s.drop (s.length - 4)) = sumN (s.take (s.length - 4)))
def openR (s : List UInt8) : Value := if opens s then .tuple #[.string ⟨(s.take (s.length - 4)).toArray⟩, .int .i64 0] else .tuple #[.string ⟨#[]⟩, .int .i64 20]

end Go.Proofs.Ytapmppiiphbcpaa.Sm

/- Sums, reckoned: joined, changed, turned. -/
namespace Go.Proofs.Ytapmppiiphbcpaa.Sm
open Go Go.RowKit

/-! ### Closed forms -/
def rawA (t : List UInt8) : Nat := (t.map UInt8.toNat).sum
def rawB : List UInt8 → Nat
  | [] => 0
  | c :: t => (t.length + 1) * c.toNat + rawB t

theorem mul_mod_in (n a b p : Nat) : (b + n * (a % p)) % p = (b + n * a) % p := by
  rw [Nat.add_mod, Nat.mul_mod_mod, ← Nat.add_mod]

theorem addS_one : ∀ (t : List UInt8) (h : Nat × Nat), h.1 < 65521 → (addS h t).1 = (h.1 + rawA t) % 65521
  | [], h, h1 => by
    have e : (addS h []).1 = h.1 := rfl
    rw [e, rawA, List.map_nil, List.sum_nil, Nat.add_zero, Nat.mod_eq_of_lt h1]
  | c :: t, h, _ => by
    show (addS (stepS h c) t).1 = _
    rw [addS_one t _ (stepS_lt h c).1]
    simp only [stepS, rawA, List.map_cons, List.sum_cons]
    rw [Nat.mod_add_mod, Nat.add_assoc]
theorem addS_two : ∀ (t : List UInt8) (h : Nat × Nat), h.2 < 65521 → (addS h t).2 = (h.2 + t.length * h.1 + rawB t) % 65521
  | [], h, h2 => by
    have e : (addS h []).2 = h.2 := rfl
    rw [e, rawB, List.length_nil, Nat.zero_mul, Nat.add_zero, Nat.mod_eq_of_lt h2]
  | c :: t, h, _ => by
    show (addS (stepS h c) t).2 = _
    rw [addS_two t _ (stepS_lt h c).2]
    simp only [stepS, rawB, List.length_cons]
    generalize t.length = n
    generalize rawB t = B
    generalize c.toNat = k
    obtain ⟨x, y⟩ := h
    simp only
    have e1 : (y + (x + k) % 65521) % 65521 = (y + (x + k)) % 65521 := Nat.add_mod_mod _ _ _
    rw [e1]
    have e2 : ((y + (x + k)) % 65521 + n * ((x + k) % 65521) + B) % 65521 = ((y + (x + k)) + n * (x + k) + B) % 65521 := by
      rw [Nat.add_assoc, Nat.mod_add_mod, ← Nat.add_assoc, Nat.add_right_comm, mul_mod_in, Nat.add_right_comm]
    rw [e2]
    congr 1
    rw [Nat.mul_add, Nat.add_mul, Nat.add_mul, Nat.one_mul, Nat.one_mul]
    omega

theorem sumN_low (s : List UInt8) : sumN s % 65536 = (addS (1, 0) s).1 := by have := sum_lt s; unfold sumN wholeN; omega
theorem sumN_up (s : List UInt8) : sumN s / 65536 = (addS (1, 0) s).2 := by have := sum_lt s; unfold sumN wholeN; omega
theorem sumN_lt (s : List UInt8) : sumN s < 4294967296 := by have := sum_lt s; unfold sumN wholeN; omega
theorem okS_sumN (s : List UInt8) : okS (sumN s) = true := by
  unfold okS
  rw [sumN_low, sumN_up]
  simp [(sum_lt s).1, (sum_lt s).2]
theorem more_sum (s t : List UInt8) : moreN (sumN s) t = sumN (s ++ t) := by
  unfold moreN
  rw [sumN_low, sumN_up]
  unfold sumN addS
  rw [List.foldl_append]
theorem join_sum (s t : List UInt8) : joinN (sumN s) (sumN t) t.length = sumN (s ++ t) := by
  rw [← more_sum]
  unfold joinN moreN
  rw [sumN_low, sumN_up, sumN_low, sumN_up]
  congr 1
  have hs := sum_lt s
  have ht := sum_lt t
  have e1 : (addS (1, 0) t).1 = (1 + rawA t) % 65521 := addS_one t (1, 0) (by decide)
  have e2 : (addS (1, 0) t).2 = (0 + t.length * 1 + rawB t) % 65521 := addS_two t (1, 0) (by decide)
  have e3 := addS_one t (addS (1, 0) s) hs.1
  have e4 := addS_two t (addS (1, 0) s) hs.2
  unfold joinH
  refine Prod.ext ?_ ?_
  · show ((addS (1, 0) s).1 + 65520 + (addS (1, 0) t).1) % 65521 = (addS (addS (1, 0) s) t).1
    rw [e1, e3]; omega
  · show ((addS (1, 0) s).2 + (addS (1, 0) t).2 + t.length * ((addS (1, 0) s).1 + 65520)) % 65521 = (addS (addS (1, 0) s) t).2
    rw [e2, e4, Nat.mul_add]
    generalize (addS (1, 0) s).1 = x
    generalize (addS (1, 0) s).2 = y
    generalize rawB t = B
    generalize t.length = n
    generalize n * x = z
    omega

/-! ### Sealed bytes -/
theorem seal_back (n : Nat) (hn : n < 4294967296) : sealV (sealB n) = n := by
  simp only [sealV, sealB, shlS, List.foldl_cons, List.foldl_nil, Nat.toUInt8, UInt8.toNat_ofNat']
  omega
theorem sealB_len (n : Nat) : (sealB n).length = 4 := rfl
theorem opens_seal (s t : List UInt8) (h : t.length = 4) : opens (s ++ t) = decide (sealV t = sumN s) := by
  unfold opens
  have e : (s ++ t).length - 4 = s.length := by rw [List.length_append]; omega
  rw [e, List.take_left, List.drop_left, List.length_append, h]
  simp
theorem open_seal (s : List UInt8) : openR (s ++ sealB (sumN s)) = .tuple #[.string ⟨s.toArray⟩, .int .i64 0] := by
  unfold openR
  rw [opens_seal s _ rfl, seal_back _ (sumN_lt s)]
  have e : (s ++ sealB (sumN s)).length - 4 = s.length := by rw [List.length_append, sealB_len]; omega
  rw [e, List.take_left]
  simp
theorem open_not (s t : List UInt8) (h : t.length = 4) (hn : sealV t ≠ sumN s) : openR (s ++ t) = .tuple #[.string ⟨#[]⟩, .int .i64 20] := by
  unfold openR
  rw [opens_seal s t h]
  simp [hn]

/-! ### One byte changed -/
theorem rawA_set : ∀ (s : List UInt8) (i : Nat) (c : UInt8), i < s.length → rawA (s.set i c) + (s.getD i 0).toNat = rawA s + c.toNat
  | a :: s, 0, c, _ => by simp [rawA, List.getD]; omega
  | a :: s, i + 1, c, h => by
    have := rawA_set s i c (by simpa using h)
    simp [rawA, List.getD] at this ⊢
    omega
theorem sum_changed (s : List UInt8) (i : Nat) (c : UInt8) (hi : i < s.length) (hc : c ≠ s.getD i 0) : sumN (s.set i c) ≠ sumN s := by
  intro h
  have h1 := congrArg (· % 65536) h
  simp only [sumN_low] at h1
  rw [addS_one _ _ (by decide), addS_one _ _ (by decide)] at h1
  have h2 := rawA_set s i c hi
  have b1 := c.toNat_lt
  have b2 := (s.getD i 0).toNat_lt
  have h3 : c.toNat ≠ (s.getD i 0).toNat := fun e => hc (UInt8.toNat_inj.1 e)
  simp only at h1
  omega
theorem sealV_inj (a b c d a' b' c' d' : UInt8) (h : sealV [a, b, c, d] = sealV [a', b', c', d']) : a = a' ∧ b = b' ∧ c = c' ∧ d = d' := by
  simp only [sealV, shlS, List.foldl_cons, List.foldl_nil] at h
  have := a.toNat_lt; have := b.toNat_lt; have := c.toNat_lt; have := d.toNat_lt
  have := a'.toNat_lt; have := b'.toNat_lt; have := c'.toNat_lt; have := d'.toNat_lt
  refine ⟨UInt8.toNat_inj.1 ?_, UInt8.toNat_inj.1 ?_, UInt8.toNat_inj.1 ?_, UInt8.toNat_inj.1 ?_⟩ <;> omega
theorem seal_changed (t : List UInt8) (ht : t.length = 4) (i : Nat) (c : UInt8) (hi : i < 4) (hc : c ≠ t.getD i 0) : sealV (t.set i c) ≠ sealV t := by
  match t, ht with
  | [a, b, d, e], _ =>
    intro h
    have : i = 0 ∨ i = 1 ∨ i = 2 ∨ i = 3 := by omega
    rcases this with rfl | rfl | rfl | rfl
    · exact hc (sealV_inj _ _ _ _ _ _ _ _ h).1
    · exact hc (sealV_inj _ _ _ _ _ _ _ _ h).2.1
    · exact hc (sealV_inj _ _ _ _ _ _ _ _ h).2.2.1
    · exact hc (sealV_inj _ _ _ _ _ _ _ _ h).2.2.2
/-- Sealed bytes of which one is changed. -/
theorem finds (s : List UInt8) (i : Nat) (c : UInt8) (hi : i < s.length + 4) (hc : c ≠ (s ++ sealB (sumN s)).getD i 0) : openR ((s ++ sealB (sumN s)).set i c) = .tuple #[.string ⟨#[]⟩, .int .i64 20] := by
  by_cases h : i < s.length
  · rw [List.set_append_left _ _ h]
    refine open_not _ _ rfl ?_
    rw [seal_back _ (sumN_lt s)]
    refine Ne.symm (sum_changed s i c h ?_)
    simpa [List.getD, h, List.getElem?_append_left] using hc
  · rw [List.set_append_right _ _ (by omega)]
    refine open_not _ _ (by rw [List.length_set]; rfl) ?_
    have := seal_changed (sealB (sumN s)) rfl (i - s.length) c (by omega) (by
      simpa [List.getD, List.getElem?_append_right (show s.length ≤ i by omega)] using hc)
    rwa [seal_back _ (sumN_lt s)] at this

/-! ### Two neighbours turned -/
theorem rawB_append (s t : List UInt8) : rawB (s ++ t) = rawB s + t.length * rawA s + rawB t := by
  induction s with
  | nil => simp [rawB, rawA]
  | cons c s ih =>
    simp only [List.cons_append, rawB, ih, List.length_append, rawA, List.map_cons, List.sum_cons, Nat.mul_add, Nat.add_mul, Nat.one_mul]
    omega
theorem split_two (s : List UInt8) (k : Nat) (hk : k + 1 < s.length) : s = s.take k ++ [s.getD k 0, s.getD (k + 1) 0] ++ s.drop (k + 2) := by
  have h1 : k < s.length := by omega
  have e : s.drop k = s.getD k 0 :: s.getD (k + 1) 0 :: s.drop (k + 2) := by
    rw [List.drop_eq_getElem_cons h1, List.drop_eq_getElem_cons hk]
    simp [List.getD, h1, hk]
  have := (List.take_append_drop k s).symm
  rw [e] at this
  simpa using this
theorem sum_turned (s : List UInt8) (k : Nat) (hk : k + 1 < s.length) (hne : turnL s k ≠ s) : sumN (turnL s k) ≠ sumN s := by
  intro h
  have h1 := congrArg (· / 65536) h
  simp only [sumN_up] at h1
  rw [addS_two _ _ (by decide), addS_two _ _ (by decide)] at h1
  have hs := split_two s k hk
  have e1 : rawB (turnL s k) = rawB (s.take k ++ [s.getD (k + 1) 0, s.getD k 0] ++ s.drop (k + 2)) := rfl
  have e2 : rawB s = rawB (s.take k ++ [s.getD k 0, s.getD (k + 1) 0] ++ s.drop (k + 2)) := congrArg rawB hs
  have e3 : (turnL s k).length = s.length := by
    rw [congrArg List.length hs]; simp [turnL]
  have hab : s.getD k 0 ≠ s.getD (k + 1) 0 := fun e => hne (by
    have : turnL s k = s.take k ++ [s.getD (k + 1) 0, s.getD k 0] ++ s.drop (k + 2) := rfl
    rw [this, e]; rw [e] at hs; exact hs.symm)
  rw [e1, e2, e3] at h1
  simp only [rawB_append, List.length_cons, List.length_nil, rawA, List.map_append, List.map_cons, List.map_nil, List.sum_append, List.sum_cons, List.sum_nil, rawB] at h1
  have b1 := (s.getD k 0).toNat_lt
  have b2 := (s.getD (k + 1) 0).toNat_lt
  have h3 : (s.getD k 0).toNat ≠ (s.getD (k + 1) 0).toNat := fun e => hab (UInt8.toNat_inj.1 e)
  generalize (s.getD k 0).toNat = a at *
  generalize (s.getD (k + 1) 0).toNat = b at *
  simp only [Nat.mul_add, Nat.add_mul, Nat.mul_one, Nat.zero_add, Nat.add_zero] at h1
  omega
end Go.Proofs.Ytapmppiiphbcpaa.Sm

/- The walks of cut and of the known sums. -/
namespace Go.Proofs.Ytapmppiiphbcpaa.Sm
open Go Go.RowKit
attribute [local go_sem] Oper.semAt_some

theorem more_known : moreR 65521 [] = .tuple #[.int .u32 0, .int .i64 2] := by
  have h : okS 65521 = false := by decide +kernel
  simp [moreR, h]
theorem sum_known : sumN [87, 105, 107, 105, 112, 101, 100, 105, 97] = 300286872 := by decide +kernel
theorem sum_none : sumN [] = 1 := by decide +kernel
theorem open_none : openR [] = .tuple #[.string ⟨#[]⟩, .int .i64 20] := by simp [openR, opens]

/-! ### The calls of the laws -/
theorem sum_ok (s : List UInt8) (h : s.length ≤ 10000) : Veil (∀ w, Calls Try.prog 85 #[.string ⟨s.toArray⟩] w fun e w' => e = .returned (.int .u32 (sumN s)) ∧ Below w.heap.size w w') :=
  ⟨fun w => sum_any s ⟨by omega⟩ w⟩
theorem seal_ok (s u : List UInt8) (h : s.length ≤ 10000) (hu : s ++ sealB (sumN s) = u) : Veil (∀ w, Calls Try.prog 78 #[.string ⟨s.toArray⟩] w fun e w' => e = .returned (.string ⟨u.toArray⟩) ∧ Below w.heap.size w w') :=
  ⟨fun w => by subst hu; exact seal_any s ⟨by omega⟩ w⟩
end Go.Proofs.Ytapmppiiphbcpaa.Sm

/- The walks of the document's own answers: More, Sum, Join. -/
namespace Go.Proofs.Ytapmppiiphbcpaa.Sm
open Go Go.RowKit
attribute [local go_sem] Oper.semAt_some

theorem right_any (n : Nat) (w : World) : Calls Try.prog 107 #[.int .u32 n] w fun e w' => e = .returned (.bool (okS n)) ∧ w = w' := by
  have h1 : okS n = (decide ((n : Int) / 65536 < 65521) && decide ((n : Int) % 65536 < 65521)) := by
    unfold okS
    rw [Bool.eq_iff_iff]
    simp only [Bool.and_eq_true, decide_eq_true_eq]
    omega
  have h0 : 0 ≤ (n : Int) := by omega
  obtain ⟨N, hN⟩ : ∃ N : Int, (n : Int) = N := ⟨_, rfl⟩
  rw [hN] at h0 h1 ⊢
  have H1 : Veil _ := ⟨h1⟩
  clear hN h1
  go_enter Try.func107, Try.ntmps107
  by_cases h2 : N / 65536 < 65521
  · by_cases h3 : N % 65536 < 65521
    · go_wp2
      go_ret
      exact ⟨by rw [H1.out]; simp [h2, h3], rfl⟩
    · go_wp2
      go_ret
      exact ⟨by rw [H1.out]; simp [h2, h3], rfl⟩
  · go_wp2
    go_ret
    exact ⟨by rw [H1.out, decide_eq_false (Int.not_lt.2 h2)]; rfl, rfl⟩

theorem ref_step {g : Nat × Nat} {x : Nat × Nat} {c : UInt8} {X1 X2 C : Int} (ht : g = stepS x c) (he : (x.1 : Int) = X1 ∧ (x.2 : Int) = X2 ∧ (c.toNat : Int) = C) : (X1 + C) % 65521 = (g.1 : Nat) ∧ (X2 + (X1 + C) % 65521) % 65521 = (g.2 : Nat) := by
  obtain ⟨h1, h2, h3⟩ := he
  subst ht h1 h2 h3
  constructor <;> simp [stepS]

set_option maxHeartbeats 1000000 in
theorem refmore_any (n : Nat) (_ : Veil (n < 4294967296)) (s : List UInt8) (hs : Veil (s.length ≤ 9223372036854775806)) (w : World) : Calls Try.prog 103 #[.int .u32 n, .string ⟨s.toArray⟩] w fun e w' => e = .returned (moreR n s) ∧ w = w' := by
  unfold moreR
  go_enter Try.func103, Try.ntmps103
  cases hok : okS n
  · have HOK : Veil _ := ⟨hok⟩
    clear hok
    go_wp2_with (go_at_call 107; refine (right_any n _).mono ?_; rintro e w2 ⟨rfl, rfl⟩; rw [HOK.out])
    go_ret2
    exact ⟨rfl, rfl⟩
  · have HOK : Veil _ := ⟨hok⟩
    have H0 : Veil _ := ⟨okS_true hok⟩
    clear hok
    go_wp2_with (go_at_call 107; refine (right_any n _).mono ?_; rintro e w2 ⟨rfl, rfl⟩; rw [HOK.out])
    go_loop [7, 8, 9] (fun a b i => ∃ k : Nat, k ≤ s.length ∧ i = .int .i64 k ∧ a = .int .u32 (addS (n % 65536, n / 65536) (s.take k)).1 ∧ b = .int .u32 (addS (n % 65536, n / 65536) (s.take k)).2) (fun _ _ i => s.length - (intOf i).toNat)
    case atStart => exact ⟨0, Nat.zero_le _, rfl, by simp [addS], by simp [addS]⟩
    case round =>
      obtain ⟨k, hk, rfl, rfl, rfl⟩ := hrel
      by_cases hlt : k < s.length
      · have hst : Veil _ := ⟨addS_take (n % 65536, n / 65536) s k hlt⟩
        have hb : Veil _ := ⟨addS_lt (s.take k) (n % 65536, n / 65536) H0.out⟩
        obtain ⟨C, hC⟩ : ∃ C : Int, (((⟨s.toArray⟩ : ByteArray)[k]'(by simpa [ByteArray.size] using hlt)).toNat : Int) = C := ⟨_, rfl⟩
        have hC' : Veil (((s.getD k 0).toNat : Int) = C) := ⟨by rw [← hC, byte_at]⟩
        have b3 : 0 ≤ C ∧ C < 256 := by have := (s.getD k 0).toNat_lt; have := hC'.out; omega
        obtain ⟨b3, b3'⟩ := b3
        have hwk : wrap64 ((k : Int) + 1) = (k : Int) + 1 := by have := hs.out; unfold wrap64; omega
        have hwk2 : IntKind.i64.wrap ((k : Int) + 1) = (k : Int) + 1 := by have := hs.out; rw [IntKind.wrap_i64]; omega
        revert hst hb
        generalize addS (n % 65536, n / 65536) (s.take k) = x
        intro hst hb
        obtain ⟨X1, hX1⟩ : ∃ X1 : Int, (x.1 : Int) = X1 := ⟨_, rfl⟩
        obtain ⟨X2, hX2⟩ : ∃ X2 : Int, (x.2 : Int) = X2 := ⟨_, rfl⟩
        have b1 : 0 ≤ X1 ∧ X1 < 65521 := by have := hb.out; omega
        have b2 : 0 ≤ X2 ∧ X2 < 65521 := by have := hb.out; omega
        obtain ⟨b1, b1'⟩ := b1
        obtain ⟨b2, b2'⟩ := b2
        have HX : Veil _ := ⟨And.intro hX1 hX2⟩
        rw [hX1, hX2]
        clear hX1 hX2
        go_wp2
        have hr := ref_step hst.out ⟨HX.out.1, HX.out.2, hC'.out⟩
        refine ⟨⟨k + 1, by omega, by go_num, by rw [hr.1], by rw [hr.2]⟩, ?_⟩
        simp [intOf]; omega
      · obtain rfl : k = s.length := by omega
        rw [List.take_length]
        have hb : Veil _ := ⟨addS_lt s (n % 65536, n / 65536) H0.out⟩
        have ho : bits BinOp.or IntKind.u32 (((addS (n % 65536, n / 65536) s).2 : Int) * 65536) ((addS (n % 65536, n / 65536) s).1 : Int) = ((moreN n s : Nat) : Int) := or_low _ _ (by have := hb.out; omega) (by have := hb.out; omega)
        have hb2 : (((addS (n % 65536, n / 65536) s).2 : Nat) : Int) < 65521 := by have := hb.out; omega
        have hb0 : 0 ≤ (((addS (n % 65536, n / 65536) s).2 : Nat) : Int) := by omega
        revert ho hb2 hb0
        generalize (((addS (n % 65536, n / 65536) s).2 : Nat) : Int) = X2
        generalize (((addS (n % 65536, n / 65536) s).1 : Nat) : Int) = X1
        intro ho hb2 hb0
        go_wp2
        go_ret2
        exact ⟨rfl, rfl⟩

theorem refsum_any (s : List UInt8) (hs : Veil (s.length ≤ 9223372036854775806)) (w : World) : Calls Try.prog 94 #[.string ⟨s.toArray⟩] w fun e w' => e = .returned (.int .u32 (sumN s)) ∧ w = w' := by
  have hm := fun w => refmore_any 1 ⟨by decide⟩ s hs w
  have e : moreR 1 s = .tuple #[.int .u32 (sumN s), .int .i64 0] := by
    unfold moreR
    rw [if_pos (by decide)]
    rfl
  rw [e] at hm
  have HM : Veil _ := ⟨hm⟩
  clear hm e
  go_enter Try.func94, Try.ntmps94
  go_wp2_with (go_at_call 103; refine (HM.out w).mono ?_; rintro e w2 ⟨rfl, rfl⟩)
  go_ret
  exact ⟨rfl, rfl⟩

set_option maxRecDepth 100000 in
theorem join_mod (x1 x2 y2 n : Nat) : (((x2 : Int) + y2 + (n : Int) % 65521 * (((x1 : Int) + 65521 - 1) % 65521)) % 65521 : Int) = (((x2 + y2 + n * (x1 + 65520)) % 65521 : Nat) : Int) := by
  have e1 : ((x1 : Int) + 65521 - 1) % 65521 = ((x1 + 65520) % 65521 : Nat) := by omega
  have e4 : (n : Int) % 65521 = (n % 65521 : Nat) := by omega
  rw [e1, e4, ← Int.natCast_mul]
  have e3 : (x2 + y2 + n % 65521 * ((x1 + 65520) % 65521)) % 65521 = (x2 + y2 + n * (x1 + 65520)) % 65521 := by
    rw [Nat.add_mod, ← Nat.mul_mod, ← Nat.add_mod]
  rw [← e3]
  generalize n % 65521 * ((x1 + 65520) % 65521) = z
  omega
theorem nat_in {x k : Nat} (h : x < k) : 0 ≤ (x : Int) ∧ (x : Int) < (k : Int) := by omega
theorem join_lt (a b m : Nat) : joinN a b m < 4294967296 := by
  have e1 := mod_lt_p (a % 65536 + 65520 + b % 65536)
  have e2 := mod_lt_p (a / 65536 + b / 65536 + m * (a % 65536 + 65520))
  show (a / 65536 + b / 65536 + m * (a % 65536 + 65520)) % 65521 * 65536 + (a % 65536 + 65520 + b % 65536) % 65521 < 4294967296
  revert e1 e2
  generalize (a / 65536 + b / 65536 + m * (a % 65536 + 65520)) % 65521 = t
  generalize (a % 65536 + 65520 + b % 65536) % 65521 = l
  intro e1 e2
  omega
theorem or_words (t l : Nat) (e1 : l < 65536) (e2 : t < 65536) : bits BinOp.or IntKind.u64 ((t : Int) * 65536) (l : Int) = ((t * 65536 + l : Nat) : Int) := by
  have h := u64_or_nat (t * 65536) l (by omega) (by omega)
  rw [show t * 65536 ||| l = t * 65536 + l by
    rw [Nat.mul_comm t 65536]; exact (Nat.two_pow_add_eq_or_of_lt (i := 16) e1 t).symm] at h
  exact h
set_option maxRecDepth 100000 in
theorem join_prod (x m : Nat) : 0 ≤ (m : Int) % 65521 * (((x : Int) + 65521 - 1) % 65521) ∧ (m : Int) % 65521 * (((x : Int) + 65521 - 1) % 65521) < 4294967296 := by
  have h1 : 0 ≤ (m : Int) % 65521 ∧ (m : Int) % 65521 ≤ 65520 := by omega
  have h2 : 0 ≤ ((x : Int) + 65521 - 1) % 65521 ∧ ((x : Int) + 65521 - 1) % 65521 ≤ 65520 := by omega
  revert h1 h2
  generalize (m : Int) % 65521 = p
  generalize ((x : Int) + 65521 - 1) % 65521 = q
  intro h1 h2
  refine ⟨Int.mul_nonneg h1.1 h2.1, ?_⟩
  have := Int.mul_le_mul h1.2 h2.2 h2.1 (by omega)
  omega
set_option maxRecDepth 100000 in
/-- What is reckoned with a, b, n, told by numbers of their own. -/
theorem join_nums (a b : Nat) (n : Int) (ha : okS a = true) (hb : okS b = true) (hn1 : 0 ≤ n) : ∃ C D E F M S T V : Int, (a : Int) % 65536 = C ∧ (a : Int) / 65536 = D ∧ (b : Int) % 65536 = E ∧ (b : Int) / 65536 = F
    ∧ n % 65521 * ((C + 65521 - 1) % 65521) = M ∧ (C + E + 65521 - 1) % 65521 = S ∧ (D + F + M) % 65521 = T ∧ bits BinOp.or IntKind.u64 (T * 65536) S = V
    ∧ (0 ≤ C ∧ C < 65521) ∧ (0 ≤ D ∧ D < 65521) ∧ (0 ≤ E ∧ E < 65521) ∧ (0 ≤ F ∧ F < 65521) ∧ (0 ≤ M ∧ M < 4294967296) ∧ (0 ≤ S ∧ S < 65521) ∧ (0 ≤ T ∧ T < 65521) ∧ (0 ≤ V ∧ V < 4294967296) ∧ V = (joinN a b n.toNat : Nat) := by
  have h1 := okS_true ha
  have h2 := okS_true hb
  obtain ⟨m, rfl⟩ : ∃ m : Nat, n = m := ⟨n.toNat, by omega⟩
  have hj := join_mod (a % 65536) (a / 65536) (b / 65536) m
  have hjl := join_lt a b m
  have e1 := mod_lt_p (a % 65536 + 65520 + b % 65536)
  have e2 := mod_lt_p (a / 65536 + b / 65536 + m * (a % 65536 + 65520))
  have hV : bits BinOp.or IntKind.u64 ((((a / 65536 + b / 65536 + m * (a % 65536 + 65520)) % 65521 : Nat) : Int) * 65536) (((a % 65536 + 65520 + b % 65536) % 65521 : Nat) : Int) = (joinN a b m : Nat) := or_words _ _ e1 e2
  have hmm := join_prod (a % 65536) m
  have e3 : (a / 65536 + b / 65536 + m * (a % 65536 + 65520)) % 65521 < 65521 := Nat.mod_lt _ (by decide)
  have e4 : (a % 65536 + 65520 + b % 65536) % 65521 < 65521 := Nat.mod_lt _ (by decide)
  refine ⟨((a % 65536 : Nat) : Int), ((a / 65536 : Nat) : Int), ((b % 65536 : Nat) : Int), ((b / 65536 : Nat) : Int), _, ((a % 65536 + 65520 + b % 65536) % 65521 : Nat), ((a / 65536 + b / 65536 + m * (a % 65536 + 65520)) % 65521 : Nat), (joinN a b m : Nat), Int.natCast_emod a 65536 |>.symm, Int.natCast_ediv a 65536 |>.symm, Int.natCast_emod b 65536 |>.symm, Int.natCast_ediv b 65536 |>.symm, rfl, ?_, hj, hV, nat_in h1.1, nat_in h1.2, nat_in h2.1, nat_in h2.2, hmm, nat_in e4, nat_in e3, nat_in hjl, by rw [Int.toNat_natCast]⟩
  generalize a % 65536 = x
  generalize b % 65536 = y
  omega
end Go.Proofs.Ytapmppiiphbcpaa.Sm

/- The walk of the document's own Join. -/
namespace Go.Proofs.Ytapmppiiphbcpaa.Sm
open Go Go.RowKit
attribute [local go_sem] Oper.semAt_some

end Go.Proofs.Ytapmppiiphbcpaa.Sm
