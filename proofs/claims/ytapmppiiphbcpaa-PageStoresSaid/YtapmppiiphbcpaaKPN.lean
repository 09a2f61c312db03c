/- The law on sizes, and an untouched disk: PageSizes. -/
import Derived.Deep.QuietTactic
import Derived.BigQuiet
import Derived.Test.YtapmppiiphbcpaaKPM
import Derived.Test.YtapmppiiphbcpaaKP8
import Derived.Test.YtapmppiiphbcpaaKD8
namespace Go.Proofs.Ytapmppiiphbcpaa
open Go Go.RowKit Sm
attribute [local go_sem] Oper.semAt_some

theorem accL_new (n id : Nat) (h : id * 4 + 3 < n) : accL (Dk.new n) id 4 = List.replicate 256 0 := by
  have hz : ∀ i, i < n → (Dk.new n).seen.getD i [] = List.replicate 64 0 := fun i hi => by
    simp [Dk.new, List.getD, hi, zero64]
  unfold accL
  simp only [List.range_succ, List.range_zero, List.nil_append, List.map_cons, List.map_nil, List.cons_append, List.flatten_cons, List.flatten_nil]
  rw [hz _ (by omega), hz _ (by omega), hz _ (by omega), hz _ (by omega)]
  simp only [List.append_nil, List.replicate_append_replicate]
theorem zeros_none : isPg (List.replicate 256 0) = false := by decide +kernel
theorem rdV_new (n id : Nat) (h : id * 4 + 3 < n) : rdV (Dk.new n) id = .tuple #[.agg #[.int .i64 0, .int .u32 0, .int .u64 0, .string ⟨#[]⟩], .int .i64 30] := by
  unfold rdV rdOk
  have hok : loadOk (Dk.new n) id = true := by simp [loadOk, Dk.new]; omega
  rw [accL_new n id h, zeros_none, hok]
  rfl

/-- What Encode answers: letters, and what is known of them. -/
theorem size1 (q : Pg) (hq : q.Ok) : ∃ (E : List UInt8) (C : Int), (∀ w, Calls Try.prog 55 #[q.v] w fun e w' => e = .returned (.tuple #[.string ⟨E.toArray⟩, .int .i64 C]) ∧ Below w.heap.size w w') ∧ ((C = 0 ∧ E.length = 256 ∧ q.body.length ≤ 237 ∧ (⟨E.toArray⟩ : ByteArray).extract 15 (15 + q.body.length) = ⟨q.body.toArray⟩) ∨ C = 30) := by
  have h1 := fun w => encode_any q ⟨hq⟩ w
  unfold Pg.encR at h1
  by_cases h : q.right = true
  · rw [if_pos h] at h1
    have h6 := (q.right_iff.1 h).2.2.2.2.2
    refine ⟨q.enc, 0, h1, .inl ⟨rfl, q.enc_len h6, h6, ?_⟩⟩
    have e1 : (⟨q.enc.toArray⟩ : ByteArray).extract 15 (15 + q.body.length) = ⟨((q.enc.drop 15).take q.body.length).toArray⟩ := by
      apply ByteArray.ext
      simp [ByteArray.data_extract]
    have s5 := (segs (putB q.kind.toNat 1) (putB q.id 4) (putB q.tx 8) (putB q.body.length 2) (q.body ++ (sealB (sumN q.text) ++ List.replicate (256 - q.sealed.length) 0)) (by simp) (by simp) (by simp) (by simp)).2.2.2.2
    rw [← q.enc_form] at s5
    rw [e1, s5, List.take_left' rfl]
  · rw [if_neg h] at h1
    exact ⟨[], 30, h1, .inr rfl⟩

theorem lo32 {n : Int} (h : (Lit.int IntKind.u32 n).wf = true) : 0 ≤ n := by
  have := (Lit.wf_int_iff .u32 n).1 h
  simp [IntKind.min, IntKind.signed, IntKind.max, IntKind.bits] at this
  omega
theorem hi32 {n : Int} (h : (Lit.int IntKind.u32 n).wf = true) : n < 4294967296 := by
  have := (Lit.wf_int_iff .u32 n).1 h
  simp [IntKind.min, IntKind.signed, IntKind.max, IntKind.bits] at this
  omega
end Go.Proofs.Ytapmppiiphbcpaa
