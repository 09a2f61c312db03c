/- The walk of Encode. -/
import Derived.Test.YtokbmimbbeedcaaGreatDoorSh
import Derived.Test.YtokbmimbbeedcaaGreatDoorKP1
namespace Go.Proofs.YtokbmimbbeedcaaGreatDoor
open Go Go.RowKit Sm
attribute [local go_sem] Oper.semAt_some

def Pg.head (p : Pg) : List UInt8 := wrB [(1, p.kind.toNat), (4, p.id), (8, p.tx), (2, p.body.length)]
def Pg.text (p : Pg) : List UInt8 := p.head ++ p.body
def Pg.sealed (p : Pg) : List UInt8 := p.text ++ sealB (sumN p.text)
def Pg.enc (p : Pg) : List UInt8 := p.sealed ++ List.replicate (256 - p.sealed.length) 0
def Pg.encR (p : Pg) : Value := if p.right then .tuple #[.string ⟨p.enc.toArray⟩, .int .i64 0] else .tuple #[.string ⟨#[]⟩, .int .i64 30]
end Go.Proofs.YtokbmimbbeedcaaGreatDoor

/- Metas: which are right; numbers as bytes, four each. -/
namespace Go.Proofs.YtokbmimbbeedcaaGreatDoor
open Go Go.RowKit Sm
attribute [local go_sem] Oper.semAt_some

/-- A meta: its transaction, root, high, free. -/
structure Mt where
  tx : Nat
  root : Nat
  high : Nat
  free : Nat
deriving DecidableEq
def Mt.v (m : Mt) : Value := .agg #[.int .u64 m.tx, .int .u32 m.root, .int .u32 m.high, .int .u32 m.free]
structure Mt.Ok (m : Mt) : Prop where
  tx : m.tx < 18446744073709551616
  root : m.root < 4294967296
  high : m.high < 4294967296
  free : m.free < 4294967296
def pageOk (high id : Nat) : Bool := decide (id = 0 ∨ (2 ≤ id ∧ id < high))
def Mt.right (m : Mt) : Bool := decide (1 ≤ m.tx ∧ 2 ≤ m.high ∧ m.high ≤ 16384) && [m.root, m.free].all (pageOk m.high)
theorem Mt.right_iff (m : Mt) : m.right = true ↔ (1 ≤ m.tx ∧ 2 ≤ m.high ∧ m.high ≤ 16384 ∧ (m.root = 0 ∨ (2 ≤ m.root ∧ m.root < m.high)) ∧ (m.free = 0 ∨ (2 ≤ m.free ∧ m.free < m.high))) := by
  simp [Mt.right, pageOk, and_assoc]
end Go.Proofs.YtokbmimbbeedcaaGreatDoor

/- The walk of words: numbers as bytes, four each. -/
namespace Go.Proofs.YtokbmimbbeedcaaGreatDoor
open Go Go.RowKit Sm
attribute [local go_sem] Oper.semAt_some

/-- A meta's bytes. -/
def Mt.enc (m : Mt) : List UInt8 := putB m.tx 8 ++ putB m.root 4 ++ putB m.high 4 ++ putB m.free 4 ++ List.replicate 36 0 ++ putB m.tx 8
def Mt.encR (m : Mt) : Value := if m.right then .tuple #[.string ⟨m.enc.toArray⟩, .int .i64 0] else .tuple #[.string ⟨#[]⟩, .int .i64 40]
end Go.Proofs.YtokbmimbbeedcaaGreatDoor
