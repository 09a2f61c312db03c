/- The walks of text, sums, sealed, Clone: the small functions round the sums. -/
import Derived.Test.YtbmdodkgaehgnaaS3
namespace Go.Proofs.Ytbmdodkgaehgnaa.Sm
open Go.RowKit
attribute [local go_sem] Oper.semAt_some

/-- The text of bytes that a slice holds. -/
theorem text_any (b off cap : Nat) (s : List UInt8) (w : World) (hr : w.rangeAt b off (u8s s)) : Calls Try.prog 56 #[.slice (some ⟨b, off, none⟩) s.length cap] w fun e w' => e = .returned (.string ⟨s.toArray⟩) ∧ w = w' := by
  have hcv := run_convert_u8s (P := Try.prog) w 32 9 5 Try.underlying32 Try.underlying5 Try.underlying9 b off cap s hr
  clear hr
  go_enter Try.func56, Try.ntmps56
  go_wp2
  go_ret
  exact ⟨rfl, rfl⟩

def okS (n : Nat) : Bool := decide (n % 65536 < 65521) && decide (n / 65536 < 65521)
theorem okS_true {n : Nat} (h : okS n = true) : n % 65536 < 65521 ∧ n / 65536 < 65521 := by simpa [okS] using h
theorem split_ints (n : Nat) (hn : n < 4294967296) (w : World) : Calls Try.prog 70 #[.int .u32 n] w fun e w' => ∃ X Y : Int, e = .returned (.agg #[.int .u32 X, .int .u32 Y]) ∧ Veil (X = (n % 65536 : Nat) ∧ Y = (n / 65536 : Nat)) ∧ Below w.heap.size w w' :=
  (split_any n hn w).mono fun e w' ⟨he, hb⟩ => ⟨_, _, he, ⟨rfl, rfl⟩, hb⟩
theorem okS_of {n : Nat} {X Y : Int} (h : Veil (X = (n % 65536 : Nat) ∧ Y = (n / 65536 : Nat))) : (okS n = true ↔ X < 65521 ∧ Y < 65521) := by
  obtain ⟨⟨rfl, rfl⟩⟩ := h
  simp [okS]
  omega
theorem all_take_succ (f : Nat → Bool) (ns : List Nat) (k : Nat) (h : k < ns.length) : (ns.take (k + 1)).all f = ((ns.take k).all f && f (ns.getD k 0)) := by
  rw [List.take_succ_eq_append_getElem h, List.all_append]; simp [List.getD, h]

theorem all_bad {ns : List Nat} {k n : Nat} (h2 : (ns.take (k + 1)).all okS = ((ns.take k).all okS && okS n)) (hf : okS n = false) : ns.all okS = false := by
  rw [hf, Bool.and_false] at h2
  cases h3 : ns.all okS
  · rfl
  · have := List.all_eq_true.1 h3
    rw [List.all_eq_true.2 (fun x hx => this x (List.mem_of_mem_take hx))] at h2
    cases h2

end Go.Proofs.Ytbmdodkgaehgnaa.Sm
