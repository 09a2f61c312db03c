/- The walk of within: are all numbers of a slice from lo to hi? -/
import Derived.Test.YtbmdodkgaehgnaaRows
import Derived.Test.YtbmdodkgaehgnaaD0
namespace Go.Proofs.Ytbmdodkgaehgnaa
open Go.RowKit

/-- A slice reads as a list of int64. -/
def Ints (w : World) (p : Option Addr) (zs : List Int) : Prop :=
  zs ≠ [] → ∃ b off, p = some ⟨b, off, none⟩ ∧ ∀ i, i < zs.length → w.cell? ⟨b, off + i, none⟩ = some (.int .i64 (zs.getD i 0))

def allIn (lo hi : Int) (zs : List Int) : Bool := zs.all fun n => decide (lo ≤ n) && decide (n ≤ hi)

theorem allIn_take (lo hi : Int) (zs : List Int) (k : Nat) (h : k < zs.length) : allIn lo hi (zs.take (k + 1)) = (allIn lo hi (zs.take k) && (decide (lo ≤ zs.getD k 0) && decide (zs.getD k 0 ≤ hi))) := by
  unfold allIn
  rw [List.take_succ_eq_append_getElem h, List.all_append]
  simp [List.getD, h]

set_option maxRecDepth 10000 in
set_option maxHeartbeats 400000 in
theorem within_any (lo hi : Int) (p : Option Addr) (zs : List Int) (cap : Nat) (w : World) (hz : Ints w p zs) (hl : zs.length ≤ 9223372036854775807) :
    Calls Try.prog 40 #[.int .i64 lo, .int .i64 hi, .slice p zs.length cap] w fun e w' => e = .returned (.bool (allIn lo hi zs)) ∧ w = w' := by
  go_enter Try.func40, Try.ntmps40
  go_wp2
  go_loop [8, 11] (fun _ i => ∃ k : Nat, k ≤ zs.length ∧ i = .int .i64 k ∧ allIn lo hi (zs.take k) = true) (fun _ i => zs.length - (intOf i).toNat)
  case atStart => exact ⟨0, Nat.zero_le _, rfl, rfl⟩
  case round =>
    obtain ⟨k, hk, rfl, hall⟩ := hrel
    by_cases hlt : k < zs.length
    · obtain ⟨b, off, rfl, hc⟩ := hz (by intro h; simp [h] at hlt)
      have hck := hc k hlt
      have ht := allIn_take lo hi zs k hlt
      by_cases h1 : lo ≤ zs.getD k 0 ∧ zs.getD k 0 ≤ hi
      · obtain ⟨h1, h2⟩ := h1
        generalize hx : zs.getD k 0 = x at *
        have ht' : allIn lo hi (zs.take (k + 1)) = true := by rw [ht, hall]; simp [h1, h2]
        have HT := Lib.hid ht'
        clear ht ht' hall hc hz hx
        go_wp2
        go_round
        case rel => exact ⟨k + 1, by omega, by go_num, HT.out⟩
        case measure => simp [intOf]; omega
      · have hf : allIn lo hi zs = false := by
          cases hh : allIn lo hi zs
          · rfl
          · have := List.all_eq_true.1 hh (zs[k]) (List.getElem_mem hlt)
            simp at this
            exact absurd this (by simpa [List.getD, hlt] using h1)
        generalize hx : zs.getD k 0 = x at *
        have HF := Lib.hid hf
        clear ht hall hc hz hx hf
        by_cases h3 : x < lo
        · clear h1
          go_wp2
          go_ret
          exact ⟨by rw [HF.out]; rfl, rfl⟩
        · have h4 : hi < x := by omega
          clear h1
          go_wp2
          go_ret
          exact ⟨by rw [HF.out]; rfl, rfl⟩
    · obtain rfl : k = zs.length := by omega
      have ha : allIn lo hi zs = true := by simpa using hall
      have HA := Lib.hid ha
      clear hall hz ha
      go_wp2
      go_ret
      exact ⟨by rw [HA.out]; rfl, rfl⟩
end Go.Proofs.Ytbmdodkgaehgnaa
