/- The law on the page of bytes: PageDecodes. -/
import Derived.Test.YtapmppiiphbcpaaKPA
import Derived.Test.YtapmppiiphbcpaaKPD
namespace Go.Proofs.Ytapmppiiphbcpaa
open Go Go.RowKit Sm
attribute [local go_sem] Oper.semAt_some

theorem min_int (n c : Nat) (W : World) : (Builtin.min_ #[3, 3] 3 #[.int .i64 (n : Int), .int .i64 (c : Int)]).run Try.prog W = .ok (.int .i64 ((min n c : Nat) : Int)) W := by
  rw [run_min_int2]
  by_cases h : (c : Int) < n
  · rw [if_pos h, show min n c = c by omega]
  · rw [if_neg h, show min n c = n by omega]
theorem take_ext (b : List UInt8) (c : Nat) : (⟨b.toArray⟩ : ByteArray).extract 0 (min b.length c) = ⟨(b.take c).toArray⟩ := by
  have h1 : (⟨b.toArray⟩ : ByteArray).extract 0 (min b.length c) = ⟨(b.take (min b.length c)).toArray⟩ := by
    apply ByteArray.ext
    simp [ByteArray.data_extract]
  rw [h1]
  congr 2
  rw [List.take_eq_take_iff]
  omega

/-- What Decode and the document's answer of a text, in letters. -/
theorem decodes (u : List UInt8) (hu : u.length ≤ 1000000) : ∃ (K I T C : Int) (B : List UInt8), (∀ w, Calls Try.prog 56 #[.string ⟨u.toArray⟩] w fun e w' => e = .returned (.tuple #[.agg #[.int .i64 K, .int .u32 I, .int .u64 T, .string ⟨B.toArray⟩], .int .i64 C]) ∧ Below w.heap.size w w') ∧ (∀ w, Calls Try.prog 61 #[.string ⟨u.toArray⟩] w fun e w' => e = .returned (.tuple #[.agg #[.int .i64 K, .int .u32 I, .int .u64 T, .string ⟨B.toArray⟩], .int .i64 C]) ∧ Below w.heap.size w w') :=
  ⟨_, _, _, _, _, decode_any u hu, refdecode_any u hu⟩

end Go.Proofs.Ytapmppiiphbcpaa
