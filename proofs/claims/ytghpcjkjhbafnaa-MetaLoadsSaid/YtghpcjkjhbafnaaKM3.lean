/- The walk of Encode of a meta. -/
import Derived.BigQuiet
import Derived.Test.YtghpcjkjhbafnaaKP5
namespace Go.Proofs.Ytghpcjkjhbafnaa
open Go Go.RowKit Sm
attribute [local go_sem] Oper.semAt_some

theorem blw_then {w w1 w2 : World} (h : Below w.heap.size w w1) (k : Below w1.heap.size w1 w2) : Below w.heap.size w w2 := h.trans (k.mono h.size)
theorem blw_drewN {w w1 : World} (n : Nat) (h : Below w.heap.size w w1) : Below w.heap.size w (w1.drewN n) := ⟨h.os, h.tape, h.output, h.size, h.block⟩
theorem rep_zeros (n : Nat) (hn : n ≤ 1000) (w : World) : Calls Try.prog 61 #[.string ⟨#[0]⟩, .int .i64 (n : Int)] w fun e w' => e = .returned (.string ⟨(List.replicate n 0).toArray⟩) ∧ Below w.heap.size w w' := by
  have h := Try.strings_Repeat ⟨#[0]⟩ n w (by omega) (by simp [ByteArray.size]; omega)
  have e : Lib.repeatL ([0] : List UInt8) n = List.replicate n 0 := by
    have := Lib.repeatL_replicate 0 1 n
    simpa using this
  rw [show (⟨#[0]⟩ : ByteArray).data.toList = [0] from rfl, e] at h
  exact h

theorem words5 (A B c d e : Nat) : Veil (∀ (W : World) (g : Nat), g = W.heap.size → Calls Try.prog 60 #[.slice (some ⟨g, 0, none⟩) 5 5] (W.alloc (.cells #[.int .u32 A, .int .u32 B, .int .u32 c, .int .u32 d, .int .u32 e] 46)) fun x w' => x = .returned (.string ⟨(wrd [A, B, c, d, e]).toArray⟩) ∧ Below W.heap.size W w') :=
  ⟨fun W g hg => by subst hg; exact (words_any W.heap.size 5 [A, B, c, d, e] _ (u32s_new [A, B, c, d, e] W 46 (cs := [.int .u32 A, .int .u32 B, .int .u32 c, .int .u32 d, .int .u32 e]) rfl) (by simp) (by simp)).mono fun x w' ⟨he, hb⟩ => ⟨he, (below_al (Below.refl _ W) _).trans (hb.mono (by simp))⟩⟩
theorem words2 (A B : Nat) : Veil (∀ (W : World) (g : Nat), g = W.heap.size → Calls Try.prog 60 #[.slice (some ⟨g, 0, none⟩) 2 2] (W.alloc (.cells #[.int .u32 A, .int .u32 B] 46)) fun x w' => x = .returned (.string ⟨(wrd [A, B]).toArray⟩) ∧ Below W.heap.size W w') :=
  ⟨fun W g hg => by subst hg; exact (words_any W.heap.size 2 [A, B] _ (u32s_new [A, B] W 46 (cs := [.int .u32 A, .int .u32 B]) rfl) (by simp) (by simp)).mono fun x w' ⟨he, hb⟩ => ⟨he, (below_al (Below.refl _ W) _).trans (hb.mono (by simp))⟩⟩

set_option maxRecDepth 20000 in
set_option maxHeartbeats 1000000 in
theorem mencode_any (m : Mt) (hm : Veil m.Ok) (w : World) : Calls Try.prog 30 #[m.v] w fun e w' => e = .returned m.encR ∧ Below w.heap.size w w' := by
  have hR : Veil (∀ w, Calls Try.prog 32 #[m.v] w fun e w' => e = .returned (.bool m.right) ∧ Below w.heap.size w w') := ⟨mright_any m hm⟩
  unfold Mt.encR
  cases hr : m.right
  · rw [hr] at hR
    clear hr hm
    obtain ⟨t, a, h, f⟩ := m
    unfold Mt.v at hR ⊢
    simp only at hR ⊢
    go_enter Try.func30, Try.ntmps30
    go_wp2_with (go_at_call 32; refine (hR.out _).mono ?_; rintro e w2 ⟨rfl, hb2⟩)
    go_ret2
    exact ⟨rfl, (below_al (Below.refl _ _) _).trans (hb2.mono (by simp))⟩
  · rw [hr] at hR
    have HE : Veil _ := ⟨m.enc_eq hm.out.tx⟩
    have ht : m.tx < 18446744073709551616 := hm.out.tx
    have hA : IntKind.u32.wrap (((m.tx / 4294967296 : Nat) : Int)) = ((m.tx / 4294967296 : Nat) : Int) := by rw [IntKind.wrap_u32']; omega
    have hB : IntKind.u32.wrap (m.tx : Int) = ((m.tx % 4294967296 : Nat) : Int) := by rw [IntKind.wrap_u32']; omega
    have hD : (m.tx : Int) / 4294967296 = ((m.tx / 4294967296 : Nat) : Int) := by omega
    rw [HE.out]
    clear HE hr hm ht
    revert hA hB hD
    generalize m.tx / 4294967296 = A
    generalize m.tx % 4294967296 = B
    intro hA hB hD
    have HW5 := words5 A B m.root m.high m.free
    have HW2 := words2 A B
    have hRep : Veil _ := ⟨rep_zeros 36 (by decide)⟩
    have hl1 : (wrd [A, B, m.root, m.high, m.free]).length = 20 := wrd_len _
    have hl2 : (wrd [A, B]).length = 8 := wrd_len _
    have hl3 : (List.replicate 36 (0 : UInt8)).length = 36 := List.length_replicate
    revert HW5 HW2 hRep hl1 hl2 hl3
    generalize wrd [A, B, m.root, m.high, m.free] = S1
    generalize wrd [A, B] = S2
    generalize List.replicate 36 (0 : UInt8) = S3
    intro HW5 HW2 hRep hl1 hl2 hl3
    have hnb1 : ¬ 9223372036854775807 < S1.length + S3.length := by omega
    have hnb2 : ¬ 9223372036854775807 < S1.length + S3.length + S2.length := by omega
    clear hl1 hl2 hl3
    obtain ⟨t, a, h, f⟩ := m
    unfold Mt.v at hR ⊢
    simp only [if_true] at *
    go_enter Try.func30, Try.ntmps30
    go_wp2_with (first
      | (go_at_call 61; refine (hRep.out _).mono ?_; rintro e w4 ⟨rfl, hb4⟩)
      | (go_at_call 60; (with_reducible refine (HW5.out _ _ ?_).mono ?_); rfl; rintro e w3 ⟨rfl, hb3⟩)
      | (go_at_call 60; (with_reducible refine (HW2.out _ _ ?_).mono ?_); rfl; rintro e w5 ⟨rfl, hb5⟩)
      | (go_at_call 32; refine (hR.out _).mono ?_; rintro e w2 ⟨rfl, hb2⟩; obtain ⟨hc2, hf2⟩ := bcell hb2; have hz2 : w.heap.size < w2.heap.size := (by have := hb2.size; simp at this; omega)))
    go_quiet (fail)
    go_wp2_with (first
      | (go_at_call 61; refine (hRep.out _).mono ?_; rintro e w4 ⟨rfl, hb4⟩)
      | (go_at_call 60; (with_reducible refine (HW5.out _ _ ?_).mono ?_); rfl; rintro e w3 ⟨rfl, hb3⟩)
      | (go_at_call 60; (with_reducible refine (HW2.out _ _ ?_).mono ?_); rfl; rintro e w5 ⟨rfl, hb5⟩))
    go_ret2
    have b2 := blw_drewN nq ((below_al (Below.refl _ w) _).trans (hb2.mono (by simp)))
    exact ⟨congrArg (fun x => Ending.returned (Value.tuple #[Value.string x, .int .i64 0])) (by rw [str_append, str_append]), blw_then (blw_then (blw_then b2 hb3) hb4) hb5⟩
end Go.Proofs.Ytghpcjkjhbafnaa
