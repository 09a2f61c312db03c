/- Keys: number, placed: the walks. -/
import Derived.LoopN
import Derived.Test.YtgaahgnjmhnggaaKH3
namespace Go.Proofs.Ytgaahgnjmhnggaa
open Go Go.RowKit Sm
attribute [local go_sem] Oper.semAt_some

theorem or_byte32 (v : Nat) (c : UInt8) (hv : v < 16777216) : bits BinOp.or IntKind.u32 (IntKind.u32.wrap ((v : Int) * 256)) (c.toNat : Int) = ((shl64 v c : Nat) : Int) := by
  have hc := c.toNat_lt
  have e : IntKind.u32.wrap ((v : Int) * 256) = ((v * 256 : Nat) : Int) := by rw [IntKind.wrap_u32]; omega
  rw [e, u32_or_nat _ _ (by omega) (by omega)]
  unfold shl64
  rw [show v * 256 % 18446744073709551616 = v * 256 by omega, Nat.mul_comm v 256, Nat.two_pow_add_eq_or_of_lt (i := 8) hc]
theorem getB_take_lt (s : List UInt8) (m : Nat) (h : m < 4) : getB (s.take m) < 16777216 := by
  have h1 := getB_pow (s.take m)
  have h2 : (256 : Nat) ^ (s.take m).length ≤ 256 ^ 3 := Nat.pow_le_pow_right (by decide) (by rw [List.length_take]; omega)
  have h3 : (256 : Nat) ^ 3 = 16777216 := rfl
  omega

set_option maxRecDepth 20000 in
set_option maxHeartbeats 1000000 in
theorem number_any (s : List UInt8) (hs : s.length ≤ 4) (w : World) : Calls Try.prog 29 #[.string ⟨s.toArray⟩] w fun e w' => e = .returned (.int .u32 (getB s)) ∧ w = w' := by
  go_enter Try.func29, Try.ntmps29
  go_wp2
  go_loop [3, 7] (fun n j => ∃ m : Nat, m ≤ s.length ∧ j = .int .i64 m ∧ n = .int .u32 (getB (s.take m))) (fun _ j => s.length - (intOf j).toNat)
  case atStart => exact ⟨0, Nat.zero_le _, rfl, rfl⟩
  case round =>
    obtain ⟨m, hm, rfl, rfl⟩ := hrel
    by_cases hlm : m < s.length
    · have HG : Veil _ := ⟨getB_take s m hlm⟩
      have hvl := getB_take_lt s m (by omega)
      have hci : (⟨s.toArray⟩ : ByteArray)[m]'(by simpa [ByteArray.size] using hlm) = s.getD m 0 := by
        simp [List.getD, hlm]
        rfl
      revert hci; revert HG; revert hvl
      generalize getB (s.take m) = v
      generalize s.getD m 0 = c
      intro hvl HG hci
      obtain ⟨V, hV⟩ : ∃ V : Int, (v : Int) = V := ⟨_, rfl⟩
      obtain ⟨C, hC⟩ : ∃ C : Int, (c.toNat : Int) = C := ⟨_, rfl⟩
      obtain ⟨R, hR⟩ : ∃ R : Int, ((shl64 v c : Nat) : Int) = R := ⟨_, rfl⟩
      have ho : bits BinOp.or IntKind.u32 (V * 256 % 4294967296) C = R := by rw [← hV, ← hC, ← hR, ← IntKind.wrap_u32]; exact or_byte32 v c hvl
      have hc2 : 0 ≤ C ∧ C < 256 := by have := c.toNat_lt; omega
      obtain ⟨hc2, hc3⟩ := hc2
      have HR : Veil _ := ⟨hR⟩
      rw [hV]
      clear hV hR
      go_wp2
      refine ⟨⟨m + 1, by omega, by go_num, by rw [HG.out, ← HR.out]⟩, ?_⟩
      simp only [intOf]; omega
    · obtain rfl : m = s.length := by omega
      rw [List.take_length]
      go_wp2
      go_ret
      exact ⟨rfl, rfl⟩

set_option maxRecDepth 20000 in
set_option maxHeartbeats 1000000 in
theorem placed_none (k : Int) (p : Option Addr) (c : Nat) (w : World) : Calls Try.prog 30 #[.int .i64 k, .slice p 0 c] w fun e w' => e = .returned (placedB k []).v ∧ Below w.heap.size w w' := by
  have e : (placedB k []).v = .agg #[.int .i64 k, .int .u32 0, .int .u16 0, .int .u32 0] := by
    unfold placedB Pl.v
    by_cases h : k = 3 <;> simp [h]
  rw [e]
  go_enter Try.func30, Try.ntmps30
  go_wp2
  refine wp_loop_rounds 1 ?_
  rw [rounds_succ]
  go_wp2
  exact bodyPost_ret (results_place1 rfl rfl (heap_alloc2_old _ _ _)) rfl ⟨rfl, below_al (below_al (Below.refl _ _) _) _⟩

set_option maxRecDepth 20000 in
set_option maxHeartbeats 1000000 in
theorem placed_one (k : Int) (x : Nat) (g c : Nat) (_ : 1 ≤ c) (w : World) (h0 : w.cell? ⟨g, 0, none⟩ = some (.int .u32 x)) : Calls Try.prog 30 #[.int .i64 k, .slice (some ⟨g, 0, none⟩) 1 c] w fun e w' => e = .returned (placedB k [x]).v ∧ Below w.heap.size w w' := by
  have e : (placedB k [x]).v = .agg #[.int .i64 k, .int .u32 x, .int .u16 0, .int .u32 0] := by
    unfold placedB Pl.v
    by_cases h : k = 3 <;> simp [h]
  rw [e]
  have hg := World.block_lt_of_cell? _ _ h0
  dsimp only at hg
  go_enter Try.func30, Try.ntmps30
  go_wp2
  refine wp_loop_rounds 2 ?_
  rw [rounds_succ]
  go_wp2
  rw [rounds_succ]
  go_wp2
  exact bodyPost_ret (results_place1 rfl rfl (heap_alloc2_old _ _ _)) rfl ⟨rfl, below_al (below_al (Below.refl _ _) _) _⟩

set_option maxRecDepth 20000 in
set_option maxHeartbeats 1000000 in
theorem placed_two (k : Int) (x y : Nat) (g c : Nat) (_ : 2 ≤ c) (w : World) (h0 : w.cell? ⟨g, 0, none⟩ = some (.int .u32 x)) (h1 : w.cell? ⟨g, 1, none⟩ = some (.int .u32 y)) : Calls Try.prog 30 #[.int .i64 k, .slice (some ⟨g, 0, none⟩) 2 c] w fun e w' => e = .returned (placedB k [x, y]).v ∧ Below w.heap.size w w' := by
  have hg := World.block_lt_of_cell? _ _ h0
  dsimp only at hg
  by_cases k3 : k = 3
  · subst k3
    have e : (placedB 3 [x, y]).v = .agg #[.int .i64 3, .int .u32 x, .int .u16 0, .int .u32 y] := by
      unfold placedB Pl.v
      simp
    rw [e]
    go_enter Try.func30, Try.ntmps30
    go_wp2
    refine wp_loop_rounds 3 ?_
    rw [rounds_succ]
    go_wp2
    rw [rounds_succ]
    go_wp2
    rw [rounds_succ]
    go_wp2
    exact bodyPost_ret (results_place1 rfl rfl (heap_alloc2_old _ _ _)) rfl ⟨rfl, below_al (below_al (Below.refl _ _) _) _⟩
  · have e : (placedB k [x, y]).v = .agg #[.int .i64 k, .int .u32 x, .int .u16 ((y : Int) % 65536), .int .u32 0] := by
      unfold placedB Pl.v
      simp [k3]
    rw [e]
    go_enter Try.func30, Try.ntmps30
    go_wp2
    refine wp_loop_rounds 3 ?_
    rw [rounds_succ]
    go_wp2
    rw [rounds_succ]
    go_wp2
    rw [rounds_succ]
    go_wp2
    exact bodyPost_ret (results_place1 rfl rfl (heap_alloc2_old _ _ _)) rfl ⟨rfl, below_al (below_al (Below.refl _ _) _) _⟩
end Go.Proofs.Ytgaahgnjmhnggaa
