/- Numbers and their bytes are one to one: reckoning. -/
import Derived.Test.YtckkiilbabbeaaaDoorKS6
namespace Go.Proofs.YtckkiilbabbeaaaDoor
open Go Go.RowKit Sm

theorem shl64_pow (l : List UInt8) : ∀ (v k : Nat), v < 256 ^ k → l.foldl shl64 v < 256 ^ (k + l.length) := by
  induction l with
  | nil => intro v k h; simpa using h
  | cons c l ih =>
    intro v k h
    have hc := c.toNat_lt
    have h1 : shl64 v c < 256 ^ (k + 1) := by
      unfold shl64
      have h2 : v * 256 % 18446744073709551616 ≤ v * 256 := Nat.mod_le _ _
      have h3 : 256 ^ (k + 1) = 256 ^ k * 256 := Nat.pow_succ ..
      generalize 256 ^ k = p at *
      omega
    have := ih _ (k + 1) h1
    rw [List.length_cons, show k + (l.length + 1) = k + 1 + l.length by omega]
    exact this
theorem getB_pow (l : List UInt8) : getB l < 256 ^ l.length := by
  have := shl64_pow l 0 0 (by decide)
  rwa [Nat.zero_add] at this
theorem putB_succ (v n : Nat) : putB v (n + 1) = byteAt v n :: putB v n := by
  unfold putB
  rw [List.range_succ_eq_map, List.map_cons, List.map_map]
  congr 1
  apply List.map_congr_left
  intro i hi
  simp only [Function.comp_apply, Nat.succ_eq_add_one]
  congr 1
  omega
theorem putB_zero (v : Nat) : putB v 0 = [] := rfl

theorem foldl_putB (v : Nat) : ∀ (n acc : Nat), acc * 256 ^ n + 256 ^ n ≤ 18446744073709551616 → (putB v n).foldl shl64 acc = acc * 256 ^ n + v % 256 ^ n
  | 0, acc, _ => by simp [putB_zero, Nat.mod_one]
  | n + 1, acc, h => by
    have hp : 256 ^ (n + 1) = 256 ^ n * 256 := Nat.pow_succ ..
    have hpos : 0 < 256 ^ n := Nat.pow_pos (by decide)
    have hd : (byteAt v n).toNat = v / 256 ^ n % 256 := by simp [byteAt, Nat.toUInt8, UInt8.toNat_ofNat']
    have hlt : acc * 256 < 18446744073709551616 := by
      have h1 : acc * 256 ≤ acc * 256 ^ (n + 1) := Nat.mul_le_mul_left _ (by rw [hp]; exact Nat.le_mul_of_pos_left _ hpos)
      have h2 : 0 < 256 ^ (n + 1) := Nat.pow_pos (by decide)
      omega
    rw [putB_succ, List.foldl_cons]
    have e : shl64 acc (byteAt v n) = acc * 256 + v / 256 ^ n % 256 := by
      unfold shl64
      rw [hd, Nat.mod_eq_of_lt hlt]
    rw [e, foldl_putB v n]
    · rw [hp, Nat.mod_mul, Nat.add_mul, Nat.mul_assoc, Nat.mul_comm 256 (256 ^ n), Nat.mul_comm (v / 256 ^ n % 256)]
      omega
    · have hm : v / 256 ^ n % 256 ≤ 255 := by omega
      have : (acc * 256 + v / 256 ^ n % 256) * 256 ^ n + 256 ^ n ≤ (acc * 256 + 255) * 256 ^ n + 256 ^ n := Nat.add_le_add_right (Nat.mul_le_mul_right _ (by omega)) _
      have e2 : (acc * 256 + 255) * 256 ^ n + 256 ^ n = acc * 256 ^ (n + 1) + 256 ^ (n + 1) := by
        rw [hp, Nat.add_mul, Nat.mul_assoc, Nat.mul_comm 256 (256 ^ n)]
        omega
      omega
theorem getB_putB (v n : Nat) (hn : n ≤ 8) (hv : v < 256 ^ n) : getB (putB v n) = v := by
  unfold getB
  have h8 : 256 ^ n ≤ 256 ^ 8 := Nat.pow_le_pow_right (by decide) hn
  have e8 : (256 : Nat) ^ 8 = 18446744073709551616 := rfl
  rw [foldl_putB v n 0 (by omega), Nat.zero_mul, Nat.zero_add, Nat.mod_eq_of_lt hv]
theorem putB_snoc (v n : Nat) : putB v (n + 1) = putB (v / 256) n ++ [byteAt v 0] := by
  unfold putB
  rw [List.range_succ, List.map_append, List.map_singleton, Nat.add_sub_cancel, Nat.sub_self]
  congr 1
  refine List.map_congr_left fun i hi => ?_
  have hi := List.mem_range.1 hi
  unfold byteAt
  rw [Nat.div_div_eq_div_mul, ← Nat.pow_succ', show (n - 1 - i).succ = n - i by omega]
theorem putB_getB (s : List UInt8) (h : s.length ≤ 8) : putB (getB s) s.length = s := by
  induction hn : s.length generalizing s with
  | zero => rw [List.eq_nil_of_length_eq_zero hn]; rfl
  | succ n ih =>
    have hne : s ≠ [] := by rintro rfl; simp at hn
    obtain ⟨t, c, rfl⟩ : ∃ t c, s = t ++ [c] := ⟨s.dropLast, s.getLast hne, (List.dropLast_concat_getLast hne).symm⟩
    simp only [List.length_append, List.length_cons, List.length_nil] at hn h
    have hp := getB_pow t
    have h7 : 256 ^ t.length ≤ 256 ^ 7 := Nat.pow_le_pow_right (by decide) (by omega)
    have e7 : (256 : Nat) ^ 7 = 72057594037927936 := rfl
    have hc := c.toNat_lt
    have e : getB (t ++ [c]) = getB t * 256 + c.toNat := by
      unfold getB
      rw [List.foldl_append]
      show shl64 (getB t) c = _
      unfold shl64
      rw [Nat.mod_eq_of_lt (by omega)]
      rfl
    rw [putB_snoc, e, show (getB t * 256 + c.toNat) / 256 = getB t by omega, ih t (by omega) (by omega)]
    congr 2
    unfold byteAt
    rw [Nat.pow_zero, Nat.div_one]
    apply UInt8.toNat_inj.1
    simp only [Nat.toUInt8, UInt8.toNat_ofNat']
    omega
end Go.Proofs.YtckkiilbabbeaaaDoor
