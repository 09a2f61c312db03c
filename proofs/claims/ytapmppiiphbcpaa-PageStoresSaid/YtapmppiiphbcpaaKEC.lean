/- The law on what is stored and loaded: MetaLoads. -/
import Derived.BigQuiet
import Derived.Test.YtapmppiiphbcpaaKEB
import Derived.Test.YtapmppiiphbcpaaKPE
namespace Go.Proofs.Ytapmppiiphbcpaa
open Go Go.RowKit Sm
attribute [local go_sem] Oper.semAt_some

/-- A slice of texts in memory. -/
def Strs (w : World) (p : Option Addr) (l : List (List UInt8)) : Prop :=
  l ≠ [] → ∃ b off, p = some ⟨b, off, none⟩ ∧ ∀ i x, l[i]? = some x → x.length ≤ 9223372036854775807 ∧ w.cell? ⟨b, off + i, none⟩ = some (.string ⟨x.toArray⟩)

theorem wr_len (D : Dk) (i : Int) (s : List UInt8) : (D.wr i s).kept.length = D.kept.length := by rw [wr_keeps]
/-- What Load answers, in letters. -/
theorem loadMV_form (D : Dk) : ∃ T A H F C : Int, loadMV D = .tuple #[.agg #[.int .u64 T, .int .u32 A, .int .u32 H, .int .u32 F], .int .i64 C] := by
  unfold loadMV
  split
  · split
    · exact ⟨_, _, _, _, _, rfl⟩
    · exact ⟨_, _, _, _, _, rfl⟩
  · exact ⟨_, _, _, _, _, rfl⟩

def LoadsI (w : World) (d kb sb r n k : Nat) (A : World) : Prop := ∃ D, Both w d kb sb r (fun _ => False) D D A ∧ D.kept.length = n ∧ D.uns.length ≤ 2 * k ∧ D.ops ≤ 2 * k ∧ D.Inv
section
variable {w A : World} {d kb sb r : Nat} {P : Nat → Prop} {D R : Dk}
theorem b_write (h : Both w d kb sb r P D R A) (i : Int) (s : List UInt8) (hu : D.uns.length < 1000000000000) (ho : D.ops < 1000000000000000) :
    Calls Try.prog 43 #[.pointer (some ⟨d, 0, none⟩), .int .i64 i, .string ⟨s.toArray⟩] A fun e w' => e = .returned (.int .i64 (D.wrc i s)) ∧ Both w d kb sb r P (D.wr i s) R w' :=
  (both_real h fun _ hD => wr_any hD i s hu ho).mono fun _ _ ⟨h1, h2, _⟩ => ⟨h1, h2⟩
theorem b_rwrite (h : Both w d kb sb r P D R A) (i : Int) (s : List UInt8) (hu : R.uns.length ≤ 1000000) (ho : R.ops ≤ 1000000) :
    Calls Try.prog 49 #[.pointer (some ⟨r, 0, none⟩), .int .i64 i, .string ⟨s.toArray⟩] A fun e w' => e = .returned (.int .i64 (R.wrc i s)) ∧ Both w d kb sb r P D (R.wr i s) w' :=
  (both_ref h fun _ _ _ hR => rwr_any hR i s hu ho).mono fun _ _ ⟨h1, h2, _⟩ => ⟨h1, h2⟩
theorem b_64 (h : Both w d kb sb r P D R A) : ∀ k, k < D.kept.length → (D.seen.getD k []).length ≤ 1000 := fun k hk => by
  have ho := h.okD
  have hl : k < D.seen.length := by rw [ho.len]; exact hk
  have := ho.s64 (D.seen.getD k []) (by simp [List.getD, hl])
  omega
end

end Go.Proofs.Ytapmppiiphbcpaa
