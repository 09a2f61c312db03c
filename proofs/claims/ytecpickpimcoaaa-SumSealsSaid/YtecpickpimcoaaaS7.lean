/- The walk of Turn. -/
import Derived.Test.YtecpickpimcoaaaS6
namespace Go.Proofs.Ytecpickpimcoaaa
open Go Go.RowKit
attribute [local go_sem] Oper.semAt_some

/-- The byte there and the next one change places. -/
def turnL (s : List UInt8) (k : Nat) : List UInt8 := s.take k ++ [s.getD (k + 1) 0, s.getD k 0] ++ s.drop (k + 2)
def turnR (s : List UInt8) (at' : Int) : Value := if 0 ≤ at' ∧ at' < (s.length : Int) - 1 then .tuple #[.string ⟨(turnL s at'.toNat).toArray⟩, .int .i64 0] else .tuple #[.string ⟨#[]⟩, .int .i64 2]

set_option maxHeartbeats 1000000 in
theorem turn_no (s : List UInt8) (hs : Veil (s.length ≤ 1000000)) (at' : Int) (h : at' < 0 ∨ (0 ≤ at' ∧ (s.length : Int) - 1 ≤ at')) (w : World) : Calls Try.prog 21 #[.string ⟨s.toArray⟩, .int .i64 at'] w fun e w' => e = .returned (.tuple #[.string ⟨#[]⟩, .int .i64 2]) ∧ Below w.heap.size w w' := by
  go_enter Try.func21, Try.ntmps21
  rcases h with h | ⟨h0, h⟩
  · go_wp2
    go_ret2
    exact ⟨rfl, Below.refl _ _⟩
  · have hw : wrap64 ((s.length : Int) - 1) = (s.length : Int) - 1 := by have := hs.out; unfold wrap64; omega
    go_wp2
    go_ret2
    exact ⟨rfl, Below.refl _ _⟩

theorem byte_at (s : List UInt8) (k : Nat) (hk : k < (⟨s.toArray⟩ : ByteArray).size) : (⟨s.toArray⟩ : ByteArray)[k]'hk = s.getD k 0 := by
  have h : k < s.length := by simpa [ByteArray.size] using hk
  simp [List.getD, h]
  rfl
theorem turn_cells (s : List UInt8) (k : Nat) (hk : k + 1 < s.length) (h1 : k + 1 < (⟨s.toArray⟩ : ByteArray).size) (h2 : k < (⟨s.toArray⟩ : ByteArray).size) : [Value.int IntKind.u8 ((⟨s.toArray⟩ : ByteArray)[k + 1]'h1).toNat, Value.int IntKind.u8 ((⟨s.toArray⟩ : ByteArray)[k]'h2).toNat] = u8s [s.getD (k + 1) 0, s.getD k 0] := by
  rw [byte_at, byte_at]; rfl
theorem extract_mid (s : List UInt8) (a b : Nat) : (⟨s.toArray⟩ : ByteArray).extract a b = ⟨((s.drop a).take (b - a)).toArray⟩ := by
  apply ByteArray.ext
  rw [ByteArray.data_extract]
  simp [List.extract_eq_take_drop]
theorem turn_eq (s : List UInt8) (k : Nat) : (⟨(s.take k).toArray⟩ : ByteArray) ++ ⟨[s.getD (k + 1) 0, s.getD k 0].toArray⟩ ++ ⟨(s.drop (k + 2)).toArray⟩ = ⟨(turnL s k).toArray⟩ := by
  rw [str_append, str_append]; rfl

set_option maxHeartbeats 1000000 in
theorem turn_yes (s : List UInt8) (hs : Veil (s.length ≤ 1000000)) (k : Nat) (hk : k + 1 < s.length) (w : World) : Calls Try.prog 21 #[.string ⟨s.toArray⟩, .int .i64 k] w fun e w' => e = .returned (.tuple #[.string ⟨(turnL s k).toArray⟩, .int .i64 0]) ∧ Below w.heap.size w w' := by
  go_enter Try.func21, Try.ntmps21
  have h2 : (k : Int) < (s.length : Int) - 1 := by omega
  have hw : wrap64 ((s.length : Int) - 1) = (s.length : Int) - 1 := by have := hs.out; unfold wrap64; omega
  have hw1 : wrap64 ((k : Int) + 1) = (k : Int) + 1 := by have := hs.out; unfold wrap64; omega
  have hw2 : wrap64 ((k : Int) + 2) = (k : Int) + 2 := by have := hs.out; unfold wrap64; omega
  have hw1' : IntKind.i64.wrap ((k : Int) + 1) = (k : Int) + 1 := by have := hs.out; rw [IntKind.wrap_i64]; omega
  have hw2' : IntKind.i64.wrap ((k : Int) + 2) = (k : Int) + 2 := by have := hs.out; rw [IntKind.wrap_i64]; omega
  have i1 : (k : Int) + 1 < s.length := by omega
  have i0 : (0 : Int) ≤ (k : Int) + 1 := by omega
  have i2 : (k : Int) + 2 ≤ s.length := by omega
  have b0 : k ≤ s.length := by omega
  have b1 : k < s.length := by omega
  have b2 : k + 2 ≤ s.length := by omega
  go_wp2
  obtain ⟨W, hW⟩ : ∃ W, w.drew = W := ⟨_, rfl⟩
  refine region_plan 19 [(true, 0), (true, 1), (true, 2), (true, 3), (true, 4), (true, 5), (true, 6), (true, 7), (true, 8), (true, 9), (true, 13), (true, 14), (true, 15), (true, 16), (false, 10), (false, 11), (true, 12), (true, 17), (true, 18)] (by kernel_rfl) (by kernel_rfl) (fun _ => True) W hW trivial ?_
  simp only [planOps, List.filterMap_cons, List.filterMap_nil, List.getElem?_toArray, List.getElem?_cons_zero, List.getElem?_cons_succ, Option.map_some]
  iterate 14 (refine plan_quiet rfl ?_ ?_ (fun K hK => ?_); rotate_left; (intro w' hw'; go_simp; rfl); (go_simp; refine hK _ ?_; clear hK K))
  refine plan_change (fun K hK => ?_)
  go_wp2
  refine hK _ _ trivial ?_
  clear hK K
  refine plan_change (fun K hK => ?_)
  go_wp2_with (go_at_call 33; refine (text_new [s.getD (k + 1) 0, s.getD k 0] W (turn_cells s k hk _ _)).mono ?_; rintro e w3 ⟨rfl, rfl⟩)
  refine hK _ _ trivial ?_
  clear hK K
  have n1 : ¬ 9223372036854775807 < k + 2 := by have := hs.out; omega
  refine plan_quiet rfl ?_ ?_ (fun K hK => ?_); rotate_left; (intro w' hw'; go_simp; rfl); (go_simp; refine hK _ ?_; clear hK K)
  have n2 : ¬ 9223372036854775807 < k + 2 + (s.length - ((k : Int) + 2).toNat) := by have := hs.out; omega
  iterate 2 (refine plan_quiet rfl ?_ ?_ (fun K hK => ?_); rotate_left; (intro w' hw'; go_simp; rfl); (go_simp; refine hK _ ?_; clear hK K))
  refine wpPlan_nil ?_
  simp only [List.drop_succ_cons, List.drop_zero]
  go_wp2
  refine only_normal ?_
  go_wp2
  go_ret2
  have hb : Below w.heap.size w W := by rw [← hW]; exact (Below.refl _ w).drew
  refine ⟨congrArg (fun x => Ending.returned (Value.tuple #[Value.string x, .int .i64 0])) ?_, hb.alloc hb.size _⟩
  rw [show ((k : Int) + 2).toNat = k + 2 by omega, extract_mid, extract_mid]
  rw [show (s.drop 0).take (k - 0) = s.take k by simp, show (s.drop (k + 2)).take (s.length - (k + 2)) = s.drop (k + 2) by rw [List.take_of_length_le]; simp]
  have e : (⟨#[s[k + 1], s[k]]⟩ : ByteArray) = ⟨[s.getD (k + 1) 0, s.getD k 0].toArray⟩ := by simp [List.getD, hk, b1]
  rw [e, turn_eq]

theorem turn_any (s : List UInt8) (hs : Veil (s.length ≤ 1000000)) (at' : Int) (w : World) : Calls Try.prog 21 #[.string ⟨s.toArray⟩, .int .i64 at'] w fun e w' => e = .returned (turnR s at') ∧ Below w.heap.size w w' := by
  by_cases h : 0 ≤ at' ∧ at' < (s.length : Int) - 1
  · have := turn_yes s hs at'.toNat (by omega) w
    rw [show ((at'.toNat : Nat) : Int) = at' by omega] at this
    unfold turnR
    rwa [if_pos h]
  · have := turn_no s hs at' (by omega) w
    unfold turnR
    rwa [if_neg h]
end Go.Proofs.Ytecpickpimcoaaa
