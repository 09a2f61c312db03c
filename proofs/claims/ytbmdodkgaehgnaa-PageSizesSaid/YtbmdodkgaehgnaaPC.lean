/- Pages and bytes are one to one: reckoning. -/
import Derived.Test.YtbmdodkgaehgnaaP8
namespace Go.Proofs.Ytbmdodkgaehgnaa
open Go Go.RowKit Sm

theorem putB_succ (v n : Nat) : putB v (n + 1) = byteAt v n :: putB v n := by
  unfold putB
  rw [List.range_succ_eq_map, List.map_cons, List.map_map]
  congr 1
  apply List.map_congr_left
  intro i hi
  simp only [Function.comp_apply, Nat.succ_eq_add_one]
  congr 1
  omega
theorem putB_zero (v : Nat) : putB v 0 = [] := rfl

theorem foldl_putB (v : Nat) : ∀ (n acc : Nat), acc * 256 ^ n + 256 ^ n ≤ 18446744073709551616 → (putB v n).foldl shl64 acc = acc * 256 ^ n + v % 256 ^ n
  | 0, acc, _ => by simp [putB_zero, Nat.mod_one]
  | n + 1, acc, h => by
    have hp : 256 ^ (n + 1) = 256 ^ n * 256 := Nat.pow_succ ..
    have hpos : 0 < 256 ^ n := Nat.pow_pos (by decide)
    have hd : (byteAt v n).toNat = v / 256 ^ n % 256 := by simp [byteAt, Nat.toUInt8, UInt8.toNat_ofNat']
    have hlt : acc * 256 < 18446744073709551616 := by
      have h1 : acc * 256 ≤ acc * 256 ^ (n + 1) := Nat.mul_le_mul_left _ (by rw [hp]; exact Nat.le_mul_of_pos_left _ hpos)
      have h2 : 0 < 256 ^ (n + 1) := Nat.pow_pos (by decide)
      omega
    rw [putB_succ, List.foldl_cons]
    have e : shl64 acc (byteAt v n) = acc * 256 + v / 256 ^ n % 256 := by
      unfold shl64
      rw [hd, Nat.mod_eq_of_lt hlt]
    rw [e, foldl_putB v n]
    · rw [hp, Nat.mod_mul, Nat.add_mul, Nat.mul_assoc, Nat.mul_comm 256 (256 ^ n), Nat.mul_comm (v / 256 ^ n % 256)]
      omega
    · have hm : v / 256 ^ n % 256 ≤ 255 := by omega
      have : (acc * 256 + v / 256 ^ n % 256) * 256 ^ n + 256 ^ n ≤ (acc * 256 + 255) * 256 ^ n + 256 ^ n := Nat.add_le_add_right (Nat.mul_le_mul_right _ (by omega)) _
      have e2 : (acc * 256 + 255) * 256 ^ n + 256 ^ n = acc * 256 ^ (n + 1) + 256 ^ (n + 1) := by
        rw [hp, Nat.add_mul, Nat.mul_assoc, Nat.mul_comm 256 (256 ^ n)]
        omega
      omega
theorem getB_putB (v n : Nat) (hn : n ≤ 8) (hv : v < 256 ^ n) : getB (putB v n) = v := by
  unfold getB
  have h8 : 256 ^ n ≤ 256 ^ 8 := Nat.pow_le_pow_right (by decide) hn
  have e8 : (256 : Nat) ^ 8 = 18446744073709551616 := rfl
  rw [foldl_putB v n 0 (by omega), Nat.zero_mul, Nat.zero_add, Nat.mod_eq_of_lt hv]

/-- The four segments of a head, and what stands behind it. -/
theorem segs (a b c d r : List UInt8) (ha : a.length = 1) (hb : b.length = 4) (hc : c.length = 8) (hd : d.length = 2) :
    (a ++ (b ++ (c ++ (d ++ r)))).take 1 = a ∧ ((a ++ (b ++ (c ++ (d ++ r)))).drop 1).take 4 = b ∧ ((a ++ (b ++ (c ++ (d ++ r)))).drop 5).take 8 = c ∧ ((a ++ (b ++ (c ++ (d ++ r)))).drop 13).take 2 = d ∧ (a ++ (b ++ (c ++ (d ++ r)))).drop 15 = r := by
  have h1 : (a ++ (b ++ (c ++ (d ++ r)))).drop 1 = b ++ (c ++ (d ++ r)) := List.drop_left' ha
  have h5 : (a ++ (b ++ (c ++ (d ++ r)))).drop 5 = c ++ (d ++ r) := by
    rw [show 5 = 1 + 4 from rfl, ← List.drop_drop, h1]; exact List.drop_left' hb
  have h13 : (a ++ (b ++ (c ++ (d ++ r)))).drop 13 = d ++ r := by
    rw [show 13 = 5 + 8 from rfl, ← List.drop_drop, h5]; exact List.drop_left' hc
  have h15 : (a ++ (b ++ (c ++ (d ++ r)))).drop 15 = r := by
    rw [show 15 = 13 + 2 from rfl, ← List.drop_drop, h13]; exact List.drop_left' hd
  rw [h1, h5, h13, h15]
  exact ⟨List.take_left' ha, List.take_left' hb, List.take_left' hc, List.take_left' hd, rfl⟩

theorem Pg.enc_form (p : Pg) : p.enc = putB p.kind.toNat 1 ++ (putB p.id 4 ++ (putB p.tx 8 ++ (putB p.body.length 2 ++ (p.body ++ (sealB (sumN p.text) ++ List.replicate (256 - p.sealed.length) 0))))) := by
  simp [Pg.enc, Pg.sealed, Pg.text, Pg.head, wrB]

/-- The page of a page's bytes. -/
theorem Pg.back (p : Pg) (hp : p.Ok) (hr : p.right = true) : isPg p.enc = true ∧ Pg.of p.enc = p := by
  have hrr := p.right_iff.1 hr
  obtain ⟨r1, r2, r3, r4, r5, r6⟩ := hrr
  obtain ⟨s1, s2, s3, s4, s5⟩ := segs (putB p.kind.toNat 1) (putB p.id 4) (putB p.tx 8) (putB p.body.length 2) (p.body ++ (sealB (sumN p.text) ++ List.replicate (256 - p.sealed.length) 0)) (by simp) (by simp) (by simp) (by simp)
  rw [← p.enc_form] at s1 s2 s3 s4 s5
  have g1 : getB (putB p.kind.toNat 1) = p.kind.toNat := getB_putB _ _ (by decide) (by omega)
  have g2 : getB (putB p.id 4) = p.id := getB_putB _ _ (by decide) (by have : (256 : Nat) ^ 4 = 4294967296 := rfl; omega)
  have g3 : getB (putB p.tx 8) = p.tx := getB_putB _ _ (by decide) (by have : (256 : Nat) ^ 8 = 18446744073709551616 := rfl; have := hp.tx; omega)
  have g4 : getB (putB p.body.length 2) = p.body.length := getB_putB _ _ (by decide) (by have : (256 : Nat) ^ 2 = 65536 := rfl; omega)
  have hl : lenOf p.enc = p.body.length := by unfold lenOf; rw [s4, g4]
  have ho : Pg.of p.enc = p := by
    unfold Pg.of
    rw [s1, s2, s3, s5, hl, g1, g2, g3, List.take_left' rfl]
    have : ((p.kind.toNat : Nat) : Int) = p.kind := by omega
    rw [this]
  refine ⟨?_, ho⟩
  unfold isPg
  rw [ho, hl, hr, p.enc_len r6]
  simp [r6]
end Go.Proofs.Ytbmdodkgaehgnaa
