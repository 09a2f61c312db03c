/- The walk of Open. -/
import Derived.Test.YtecpickpimcoaaaS9
import Derived.Deep.RegionHeld3
namespace Go.Proofs.Ytecpickpimcoaaa
open Go Go.RowKit
attribute [local go_sem] Oper.semAt_some

theorem below_then {w w1 w2 : World} (h : Below w.heap.size w w1) (k : Below w1.heap.size w1 w2) : Below w.heap.size w w2 := h.trans (k.mono h.size)
theorem bool_eq (h : Nat × Nat) (v : Nat) (h1 : h.1 < 65521) : (!((h.1 : Int) == (v : Int) % 65536) || !((h.2 : Int) == (v : Int) / 65536)) = !decide (v = wholeN h) := by
  unfold wholeN
  rw [Bool.eq_iff_iff]
  simp
  omega
/-- What is opened. -/
def opens (s : List UInt8) : Bool := decide (4 ≤ s.length) && decide (sealV (s.drop (s.length - 4)) = sumN (s.take (s.length - 4)))
def openR (s : List UInt8) : Value := if opens s then .tuple #[.string ⟨(s.take (s.length - 4)).toArray⟩, .int .i64 0] else .tuple #[.string ⟨#[]⟩, .int .i64 20]

set_option maxHeartbeats 1000000 in
theorem open_short (s : List UInt8) (hs : s.length < 4) (w : World) : Calls Try.prog 19 #[.string ⟨s.toArray⟩] w fun e w' => e = .returned (.tuple #[.string ⟨#[]⟩, .int .i64 20]) ∧ Below w.heap.size w w' := by
  go_enter Try.func19, Try.ntmps19
  have hw : wrap64 ((s.length : Int) - 4) = (s.length : Int) - 4 := by unfold wrap64; omega
  have hw1 : (s.length : Int) - 4 < 0 := by omega
  go_wp2
  refine wp_scope_ahead 0 rfl ?_
  go_wp2
  go_step3
  refine jump_goto ?_
  go_wp2
  rw [Exit.noGoto_ret]
  go_ret2
  exact ⟨rfl, Below.refl _ _⟩

set_option maxHeartbeats 2000000 in
theorem open_long (s : List UInt8) (hs : Veil (s.length ≤ 1000000)) (n : Nat) (hn : n + 4 = s.length) (w : World) : Calls Try.prog 19 #[.string ⟨s.toArray⟩] w fun e w' => e = .returned (if sealV (s.drop n) = sumN (s.take n) then .tuple #[.string ⟨(s.take n).toArray⟩, .int .i64 0] else .tuple #[.string ⟨#[]⟩, .int .i64 20]) ∧ Below w.heap.size w w' := by
  go_enter Try.func19, Try.ntmps19
  have hw : wrap64 ((s.length : Int) - 4) = n := by have := hs.out; unfold wrap64; omega
  have hle : n ≤ s.length := by omega
  have hlr : Veil (s.length ≤ 9223372036854775807 ∧ (s.drop n).length ≤ 9223372036854775807) := ⟨by have := hs.out; rw [List.length_drop]; omega⟩
  have HL : Veil _ := ⟨hn⟩
  have hex : (⟨s.toArray⟩ : ByteArray).extract n s.length = ⟨(s.drop n).toArray⟩ := by rw [extract_mid, List.take_of_length_le]; simp
  have hex0 : (⟨s.toArray⟩ : ByteArray).extract 0 n = ⟨(s.take n).toArray⟩ := by rw [extract_mid]; simp
  clear hn
  go_wp2
  refine wp_scope_ahead 0 rfl ?_
  go_wp2
  have hb0 : Below w.heap.size w w := Below.refl _ _
  have hg := guard_run
  have hq := neq_run
  go_region_held3 (fun w' => Below w.heap.size w w') (first | assumption | exact hb0 | exact hb0.drew | exact below_then (by assumption) hb4 | exact below_then (by assumption) hb3 | exact below_then (by assumption) hb2) (first | (go_at_call 26; refine (split_any 1 (by decide) _).mono ?_; rintro e w2 ⟨rfl, hb2⟩) | (go_at_call 27; refine (add_any (1, 0) (by decide) (by decide) s hlr.out.1 n hle _).mono ?_; rintro e w3 ⟨rfl, hb3⟩; simp only [halvesv, u32v]) | (go_at_call 31; refine (sealed_any (s.drop n) hlr.out.2 _).mono ?_; rintro e w4 ⟨rfl, hb4⟩; simp only [halvesv, u32v]))
  have hbe := bool_eq (addS (1, 0) (s.take n)) (sealV (s.drop n)) (sum_lt (s.take n)).1
  revert hbe
  generalize (!((((addS (1, 0) (s.take n)).1 : Nat) : Int) == ((sealV (s.drop n) : Nat) : Int) % 65536) || !((((addS (1, 0) (s.take n)).2 : Nat) : Int) == ((sealV (s.drop n) : Nat) : Int) / 65536)) = b
  intro hbe
  have HB : Veil _ := ⟨hbe⟩
  have hb4' : Veil (Below w.heap.size w w4) := ⟨by assumption⟩
  clear hbe hb4
  have hcl : Veil ((s.take n).length ≤ 1099511627776) := ⟨by have := hs.out; rw [List.length_take]; omega⟩
  cases b
  · have he : Veil (sealV (s.drop n) = sumN (s.take n)) := ⟨by have := HB.out; simpa [sumN] using this.symm⟩
    go_wp2_with (go_at_call 32; refine (clone_any (s.take n) hcl _).mono ?_; rintro e w5 ⟨rfl, hb5⟩)
    refine jump_ret ?_
    go_ret2
    exact ⟨by rw [if_pos he.out]; rfl, below_then hb4'.out hb5⟩
  · have he : Veil (¬ sealV (s.drop n) = sumN (s.take n)) := ⟨by have := HB.out; simpa [sumN] using this.symm⟩
    go_wp2
    go_step3
    refine jump_goto ?_
    go_wp2
    rw [Exit.noGoto_ret]
    go_ret2
    exact ⟨by rw [if_neg he.out]; rfl, hb4'.out⟩

theorem open_any (s : List UInt8) (hs : Veil (s.length ≤ 1000000)) (w : World) : Calls Try.prog 19 #[.string ⟨s.toArray⟩] w fun e w' => e = .returned (openR s) ∧ Below w.heap.size w w' := by
  unfold openR opens
  by_cases h : 4 ≤ s.length
  · have := open_long s hs (s.length - 4) (by omega) w
    by_cases h2 : sealV (s.drop (s.length - 4)) = sumN (s.take (s.length - 4))
    · rw [if_pos h2] at this
      rwa [if_pos (by simp [h, h2])]
    · rw [if_neg h2] at this
      rwa [if_neg (by simp [h2])]
  · have := open_short s (by omega) w
    rwa [if_neg (by simp [h])]
end Go.Proofs.Ytecpickpimcoaaa
