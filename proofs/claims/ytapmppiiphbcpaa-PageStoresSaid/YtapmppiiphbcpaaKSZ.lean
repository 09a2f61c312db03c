/- The walks of the document's own answers: Seal, Open, Turn. -/
import Derived.Deep.QuietTactic
import Derived.BigQuiet
import Derived.Test.YtapmppiiphbcpaaKS8
namespace Go.Proofs.Ytapmppiiphbcpaa.Sm
open Go Go.RowKit
attribute [local go_sem] Oper.semAt_some

theorem conv_four (n : Nat) (w : World) : (convert 104 9 (.slice (some ⟨w.heap.size, 0, none⟩) 4 4)).run Try.prog (w.alloc (.cells #[Value.int IntKind.u8 ((n : Int) / 16777216 % 256), Value.int IntKind.u8 ((n : Int) / 65536 % 256), Value.int IntKind.u8 ((n : Int) / 256 % 256), Value.int IntKind.u8 ((n : Int) % 256)] 5)) = .ok (.string ⟨(sealB n).toArray⟩) (w.alloc (.cells #[Value.int IntKind.u8 ((n : Int) / 16777216 % 256), Value.int IntKind.u8 ((n : Int) / 65536 % 256), Value.int IntKind.u8 ((n : Int) / 256 % 256), Value.int IntKind.u8 ((n : Int) % 256)] 5)) := by
  have hc := seal_cells n
  have := run_convert_u8s (P := Try.prog) (w.alloc (.cells (u8s (sealB n)).toArray 5)) 104 9 5 Try.underlying104 Try.underlying5 Try.underlying9 w.heap.size 0 4 (sealB n) (by
    have := rangeAt_whole (heap_alloc_new w (.cells (u8s (sealB n)).toArray 5)) 0 (u8s (sealB n)).length
    rwa [List.drop_zero, List.take_length] at this)
  rw [← hc] at this
  exact this

set_option maxHeartbeats 1000000 in
theorem refseal_any (s : List UInt8) (hs : Veil (s.length ≤ 1000000)) (w : World) : Calls Try.prog 83 #[.string ⟨s.toArray⟩] w fun e w' => e = .returned (.string ⟨(s ++ sealB (sumN s)).toArray⟩) ∧ Below w.heap.size w w' := by
  have hs' : Veil (s.length ≤ 9223372036854775806) := ⟨by have := hs.out; omega⟩
  have hcv := conv_four (sumN s) w
  have hlt := sumN_lt s
  have hN : ((sumN s : Nat) : Int) < 4294967296 := by omega
  have hN0 : 0 ≤ ((sumN s : Nat) : Int) := by omega
  have RS : Veil (∀ w, Calls Try.prog 94 #[.string ⟨s.toArray⟩] w fun e w' => e = .returned (.int .u32 (sumN s)) ∧ w = w') := ⟨fun w => refsum_any s hs' w⟩
  obtain ⟨q, hq⟩ : ∃ q, sealB (sumN s) = q := ⟨_, rfl⟩
  have hql : q.length = 4 := by rw [← hq, sealB_len]
  have hnb : ¬ 9223372036854775807 < s.length + q.length := by have := hs.out; omega
  rw [hq] at hcv ⊢
  clear hq hlt hql
  revert hcv RS hN hN0
  generalize ((sumN s : Nat) : Int) = N
  intro hN hN0 RS hcv
  rw [show N / 16777216 % 256 = N / 16777216 by omega] at hcv
  go_enter Try.func83, Try.ntmps83
  go_wp2_with (go_at_call 94; refine (RS.out _).mono ?_; rintro e w2 ⟨rfl, rfl⟩)
  go_ret
  exact ⟨congrArg (fun x => Ending.returned (Value.string x)) (str_append _ _), below_al (Below.refl _ _) _⟩

theorem sealB_back (t : List UInt8) (h : t.length = 4) : sealB (sealV t) = t := by
  match t, h with
  | [a, b, c, d], _ =>
    have := a.toNat_lt; have := b.toNat_lt; have := c.toNat_lt; have := d.toNat_lt
    simp only [sealV, shlS, sealB, List.foldl_cons, List.foldl_nil, List.cons.injEq, and_true]
    refine ⟨?_, ?_, ?_, ?_⟩ <;> (apply UInt8.toNat_inj.1; simp only [Nat.toUInt8, UInt8.toNat_ofNat']; omega)

theorem take_one (s : List UInt8) (i : Nat) (h : i < s.length) : (s.drop i).take 1 = [s.getD i 0] := by
  rw [List.drop_eq_getElem_cons h, List.take_succ_cons, List.take_zero]; simp [List.getD, h]

/-! ### The law -/
theorem openR_form (s : List UInt8) : ∃ (u : List UInt8) (E : Int), openR s = .tuple #[.string ⟨u.toArray⟩, .int .i64 E] := by
  unfold openR
  split
  · exact ⟨_, _, rfl⟩
  · exact ⟨[], _, rfl⟩
theorem turnR_form (s : List UInt8) (at' : Int) : ∃ (u : List UInt8) (E : Int), turnR s at' = .tuple #[.string ⟨u.toArray⟩, .int .i64 E] := by
  unfold turnR
  split
  · exact ⟨_, _, rfl⟩
  · exact ⟨[], _, rfl⟩

end Go.Proofs.Ytapmppiiphbcpaa.Sm
