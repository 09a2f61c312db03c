/- The walks of place, Store, held, places of metas. -/
import Derived.Test.YtapmppiiphbcpaaKM4
import Derived.Test.YtapmppiiphbcpaaKPO
namespace Go.Proofs.Ytapmppiiphbcpaa
open Go Go.RowKit Sm
attribute [local go_sem] Oper.semAt_some

/-- The sector of a transaction's meta. -/
def secM (tx : Nat) : Nat := tx % 2 * 4
theorem secM_lt (tx : Nat) : secM tx ≤ 4 := by unfold secM; omega
/-- A box made ahead of a disk's call. -/
theorem post_ahead {w W w' : World} {d kb sb : Nat} {v : Value} {D : Dk} {r : Value} {e : Ending} (hb : Below w.heap.size w W) (h : DiskPost W d kb sb v D r e w') : DiskPost w d kb sb v D r e w' := by
  obtain ⟨he, v', hD, hT, ho⟩ := h
  refine ⟨he, v', hD, (Turned.new hb : Turned (Foot d kb sb v) w W).trans (hT.wider fun _ _ h => h), ?_⟩
  rcases ho with e | e
  · exact .inl e
  · exact .inr fun k hk => Nat.le_trans hb.size (e k hk)

/-- The meta that stands in its own place. -/
def heldM (s : List UInt8) (k : Nat) : Mt := if isMt s && decide ((Mt.of s).tx % 2 = k) then Mt.of s else Mt.zero

end Go.Proofs.Ytapmppiiphbcpaa

/- The walk of Load of a meta. -/
namespace Go.Proofs.Ytapmppiiphbcpaa
open Go Go.RowKit Sm
attribute [local go_sem] Oper.semAt_some

theorem calls_wide {P : Program} {f : FuncId} {args : Array Value} {w : World} {R : Ending → World → Prop} {n : Nat} (h : Calls P f args w R) : Fence.wide.fn f ∧ CallsIn Fence.wide n P f args w R :=
  ⟨trivial, (callsIn_wide (n := n)).2 h⟩
/-- What the iterator hands over. -/
def handsM (k : Nat) : Array Value := #[.int .i64 ((k * 4 : Nat) : Int)]

end Go.Proofs.Ytapmppiiphbcpaa
