/- Metas and bytes are one to one: reckoning; a disk that the law itself has made. -/
import Derived.Deep.RegionHeld3
import Derived.Test.YtokbmimbbeedcaaGreatDoorKM4
import Derived.Test.YtokbmimbbeedcaaGreatDoorKPO
import Derived.Test.YtokbmimbbeedcaaGreatDoorKP1
import Derived.Test.YtokbmimbbeedcaaGreatDoorKP8
import Derived.Test.YtokbmimbbeedcaaGreatDoorKP7
namespace Go.Proofs.YtokbmimbbeedcaaGreatDoor
open Go Go.RowKit Sm

/-- A disk that the law itself has made. -/
def MyD (w : World) (d kb sb : Nat) (D : Dk) (A : World) : Prop := ∃ v, DiskAt A d kb sb v D ∧ From w.heap.size d kb sb v ∧ Below w.heap.size w A
section
variable {w A A' : World} {d kb sb : Nat} {D : Dk}
theorem MyD.in (h : MyD w d kb sb D A) : Below w.heap.size w A := h.choose_spec.2.2
theorem MyD.ok (h : MyD w d kb sb D A) : D.Ok := h.choose_spec.1.ok
theorem MyD.new {n : Nat} {e : Ending} (hb : Below w.heap.size w A) (h : NewPost A n e A') : ∃ d kb sb, e = .returned (.tuple #[.pointer (some ⟨d, 0, none⟩), .int .i64 0]) ∧ MyD w d kb sb (Dk.new n) A' ∧ Below A.heap.size A A' := by
  obtain ⟨d, kb, sb, he, hD, hb2, h1, h2, h3⟩ := h
  have := hb.size
  exact ⟨d, kb, sb, he, ⟨_, hD, From.new (by omega) (by omega) (by omega), hb.trans (hb2.mono hb.size)⟩, hb2⟩
theorem MyD.below (h : MyD w d kb sb D A) (hb : Below A.heap.size A A') : MyD w d kb sb D A' := by
  obtain ⟨v, hD, hF, hB⟩ := h
  exact ⟨v, hD.kept' (Turned.new hb : Turned (fun _ => False) A A') (fun _ => False.elim), hF, hB.trans (hb.mono hB.size)⟩
/-- What else the law has made, from B0 on below the disk's blocks, or elsewhere. -/
theorem MyD.turned {F : Nat → Prop} (h : MyD w d kb sb D A) (ht : Turned F A A') (h1 : ∀ k, F k → w.heap.size ≤ k) (h2 : ∀ v, DiskAt A d kb sb v D → ∀ k, F k → ¬ Foot d kb sb v k) : MyD w d kb sb D A' := by
  obtain ⟨v, hD, hF, hB⟩ := h
  exact ⟨v, hD.kept' ht (h2 v hD), hF, hB.trans (ht.toBelow hB.size (fun k _ hk => h1 k hk))⟩
theorem MyD.post {e : Ending} {r : Value} {D' : Dk} {v : Value} (hF : From w.heap.size d kb sb v) (hB : Below w.heap.size w A) (h : DiskPost A d kb sb v D' r e A') : e = .returned r ∧ MyD w d kb sb D' A' := by
  obtain ⟨he, v', hD', hT, hv⟩ := h
  exact ⟨he, v', hD', hF.next hB.size hv, hF.below hB (Nat.le_refl _) hT⟩
end
end Go.Proofs.YtokbmimbbeedcaaGreatDoor

/- The law that what is stored with the next Tx is loaded: MetaTurns. -/
namespace Go.Proofs.YtokbmimbbeedcaaGreatDoor
open Go Go.RowKit Sm
attribute [local go_sem] Oper.semAt_some

/-- That one, with another Tx. -/
def Mt.at (m : Mt) (tx : Nat) : Mt := ⟨tx, m.root, m.high, m.free⟩
end Go.Proofs.YtokbmimbbeedcaaGreatDoor
