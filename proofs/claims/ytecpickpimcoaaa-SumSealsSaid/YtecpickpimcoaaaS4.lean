/- The walks of text, sums, sealed, Clone: the small functions round the sums. -/
import Derived.Test.YtecpickpimcoaaaS3
namespace Go.Proofs.Ytecpickpimcoaaa
open Go.RowKit
attribute [local go_sem] Oper.semAt_some

/-- The text of bytes that a slice holds. -/
theorem text_any (b off cap : Nat) (s : List UInt8) (w : World) (hr : w.rangeAt b off (u8s s)) : Calls Try.prog 33 #[.slice (some ⟨b, off, none⟩) s.length cap] w fun e w' => e = .returned (.string ⟨s.toArray⟩) ∧ w = w' := by
  have hcv := run_convert_u8s (P := Try.prog) w 37 9 5 Try.underlying37 Try.underlying5 Try.underlying9 b off cap s hr
  clear hr
  go_enter Try.func33, Try.ntmps33
  go_wp2
  go_ret
  exact ⟨rfl, rfl⟩

def okS (n : Nat) : Bool := decide (n % 65536 < 65521) && decide (n / 65536 < 65521)
theorem okS_true {n : Nat} (h : okS n = true) : n % 65536 < 65521 ∧ n / 65536 < 65521 := by simpa [okS] using h
theorem split_ints (n : Nat) (hn : n < 4294967296) (w : World) : Calls Try.prog 26 #[.int .u32 n] w fun e w' => ∃ X Y : Int, e = .returned (.agg #[.int .u32 X, .int .u32 Y]) ∧ Veil (X = (n % 65536 : Nat) ∧ Y = (n / 65536 : Nat)) ∧ Below w.heap.size w w' :=
  (split_any n hn w).mono fun e w' ⟨he, hb⟩ => ⟨_, _, he, ⟨rfl, rfl⟩, hb⟩
theorem okS_of {n : Nat} {X Y : Int} (h : Veil (X = (n % 65536 : Nat) ∧ Y = (n / 65536 : Nat))) : (okS n = true ↔ X < 65521 ∧ Y < 65521) := by
  obtain ⟨⟨rfl, rfl⟩⟩ := h
  simp [okS]
  omega
theorem all_take_succ (f : Nat → Bool) (ns : List Nat) (k : Nat) (h : k < ns.length) : (ns.take (k + 1)).all f = ((ns.take k).all f && f (ns.getD k 0)) := by
  rw [List.take_succ_eq_append_getElem h, List.all_append]; simp [List.getD, h]

theorem all_bad {ns : List Nat} {k n : Nat} (h2 : (ns.take (k + 1)).all okS = ((ns.take k).all okS && okS n)) (hf : okS n = false) : ns.all okS = false := by
  rw [hf, Bool.and_false] at h2
  cases h3 : ns.all okS
  · rfl
  · have := List.all_eq_true.1 h3
    rw [List.all_eq_true.2 (fun x hx => this x (List.mem_of_mem_take hx))] at h2
    cases h2

set_option maxHeartbeats 1000000 in
theorem sums_any (b cap : Nat) (ns : List Nat) (w : World) (hc : ∀ i, i < ns.length → w.cell? ⟨b, i, none⟩ = some (.int .u32 (ns.getD i 0))) (hb : b < w.heap.size) (hn : Veil (∀ n ∈ ns, n < 4294967296)) (hl : ns.length ≤ 10) :
    Calls Try.prog 25 #[.slice (some ⟨b, 0, none⟩) ns.length cap] w fun e w' => e = .returned (.bool (ns.all okS)) ∧ Below w.heap.size w w' := by
  go_enter Try.func25, Try.ntmps25
  have HC := Lib.hid hc
  clear hc
  go_wp2
  go_loopw [8] (fun i wr => ∃ k : Nat, k ≤ ns.length ∧ i = .int .i64 k ∧ Below w.heap.size w wr ∧ Veil ((ns.take k).all okS = true)) (fun i _ => ns.length - (intOf i).toNat)
  case atStart => exact ⟨0, Nat.zero_le _, rfl, Below.refl _ _, ⟨rfl⟩⟩
  case round =>
    obtain ⟨k, hk, rfl, hB, hA⟩ := hrel
    by_cases hlt : k < ns.length
    · have hck : wr.cell? ⟨b, k, none⟩ = some (.int .u32 (ns.getD k 0)) := (hB.cell hb).trans (HC.out k hlt)
      have hnk : Veil (ns.getD k 0 < 4294967296) := ⟨hn.out _ (by simp [List.getD, hlt])⟩
      have ht : Veil ((ns.take (k + 1)).all okS = ((ns.take k).all okS && okS (ns.getD k 0))) := ⟨all_take_succ okS ns k hlt⟩
      revert hck hnk ht
      generalize ns.getD k 0 = n
      intro hck hnk ht
      have HF : Veil (okS n = false → ns.all okS = false) := ⟨all_bad ht.out⟩
      have HG : Veil (okS n = true → Veil ((ns.take (k + 1)).all okS = true)) := ⟨fun hf => ⟨by rw [ht.out, hA.out, hf]; rfl⟩⟩
      have HB := Lib.hid hB
      clear hB
      go_wp2_with (go_at_call 26; refine (split_ints n hnk.out _).mono ?_; rintro e w2 ⟨X, Y, rfl, hXY, hb2⟩)
      all_goals have hok := okS_of hXY
      all_goals have hb3 := below_al (HB.out.trans (hb2.mono HB.out.size)) (Obj.cells #[Value.int IntKind.u32 X, Value.int IntKind.u32 Y] 43)
      all_goals
        first
          | refine ⟨⟨k + 1, by omega, by go_num, hb3, HG.out (hok.2 ?_)⟩, ?_⟩
            · omega
            · simp [intOf]; omega
          | go_ret
            refine ⟨?_, hb3⟩
            cases h1 : okS n
            · rw [HF.out h1]; rfl
            · have := hok.1 h1
              exfalso
              omega
    · obtain rfl : k = ns.length := by omega
      have hall : ns.all okS = true := by have := hA.out; rwa [List.take_length] at this
      have HALL : Veil (ns.all okS = true) := ⟨hall⟩
      clear hall hA
      have HB := Lib.hid hB
      clear hB
      go_wp2
      go_ret
      exact ⟨by rw [HALL.out]; rfl, HB.out⟩
end Go.Proofs.Ytecpickpimcoaaa
