/- The walks of Right, cut, numbers. -/
import Derived.Laws.BitsAllLaws
import Derived.Test.YtfjjodkapofgjaaGreatDoorKS6
namespace Go.Proofs.YtfjjodkapofgjaaGreatDoor
open Go Go.RowKit Sm
attribute [local go_sem] Oper.semAt_some

/-- A page: its kind, id, transaction, body. -/
structure Pg where
  kind : Int
  id : Nat
  tx : Nat
  body : List UInt8
def Pg.v (p : Pg) : Value := .agg #[.int .i64 p.kind, .int .u32 p.id, .int .u64 p.tx, .string ⟨p.body.toArray⟩]
structure Pg.Ok (p : Pg) : Prop where
  k1 : -9223372036854775808 ≤ p.kind
  k2 : p.kind ≤ 9223372036854775807
  id : p.id < 4294967296
  tx : p.tx < 18446744073709551616
  b : p.body.length ≤ 1000000
def Pg.right (p : Pg) : Bool := decide (1 ≤ p.kind ∧ p.kind ≤ 3 ∧ 2 ≤ p.id ∧ p.id < 16384 ∧ 1 ≤ p.tx ∧ p.body.length ≤ 237)
theorem Pg.right_iff (p : Pg) : p.right = true ↔ (1 ≤ p.kind ∧ p.kind ≤ 3 ∧ 2 ≤ p.id ∧ p.id < 16384 ∧ 1 ≤ p.tx ∧ p.body.length ≤ 237) := by simp [Pg.right]

def cutAt (from' n : Nat) : Nat := if n = 0 then 0 else from'
end Go.Proofs.YtfjjodkapofgjaaGreatDoor

/- The walk of numbers: the numbers of these sizes at the beginning of bytes. -/
namespace Go.Proofs.YtfjjodkapofgjaaGreatDoor
open Go Go.RowKit Sm
attribute [local go_sem] Oper.semAt_some

/-- The numbers of these sizes. -/
def offB (zs : List Nat) (i : Nat) : Nat := (zs.take i).sum
def segB (s : List UInt8) (zs : List Nat) (i : Nat) : List UInt8 := (s.drop (offB zs i)).take (zs.getD i 0)
def numsB (s : List UInt8) (zs : List Nat) : List Nat := (List.range zs.length).map fun i => getB (segB s zs i)
def u64s (l : List Nat) : List Value := l.map fun (n : Nat) => Value.int .u64 n
theorem offB_succ (zs : List Nat) (k : Nat) (h : k < zs.length) : offB zs (k + 1) = offB zs k + zs.getD k 0 := by
  unfold offB
  rw [List.take_succ_eq_append_getElem h, List.sum_append]
  simp [List.getD, h]
theorem numsB_take (s : List UInt8) (zs : List Nat) (k : Nat) (h : k < zs.length) : (numsB s zs).take (k + 1) = (numsB s zs).take k ++ [getB (segB s zs k)] := by
  rw [List.take_succ_eq_append_getElem (by simpa [numsB] using h)]
  simp [numsB]
theorem offB_le (zs : List Nat) (k : Nat) : offB zs k ≤ zs.sum := by
  unfold offB
  have := List.sum_append (l₁ := zs.take k) (l₂ := zs.drop k)
  rw [List.take_append_drop] at this
  omega

theorem or_byte64 (v : Nat) (c : UInt8) : bits BinOp.or IntKind.u64 (IntKind.u64.wrap ((v : Int) * 256)) (c.toNat : Int) = ((shl64 v c : Nat) : Int) := by
  have hc := c.toNat_lt
  have e : IntKind.u64.wrap ((v : Int) * 256) = ((v * 256 % 18446744073709551616 : Nat) : Int) := by rw [IntKind.wrap_u64]; omega
  rw [e, u64_or_nat _ _ (by omega) (by omega)]
  have h : v * 256 % 18446744073709551616 = (v % 72057594037927936) * 256 := by omega
  unfold shl64
  rw [h, Nat.mul_comm (v % 72057594037927936) 256, Nat.two_pow_add_eq_or_of_lt (i := 8) hc]

theorem info_u64 : (Tryz.prog.info? 100).map (fun i => (i.zero, i.size, i.bytes)) = some (some (.int .u64 0), 1, 8) := by kernel_rfl

theorem below_grown' {w wr w' : World} {v : Value} {e : TypeId} {sz n : Nat} {xs : List Value} {o : Obj} (hB : Below w.heap.size w wr) (hown : wr.ownsRow w.heap.size e sz v n xs) (hg : (wr.alloc o).grownBy w' v.ownBlock) : Below w.heap.size w w' := by
  have ht : Turned (fun j => v.ownBlock = some j) (wr.alloc o) w' := Turned.grown hg (fun j hj _ => hj)
  have ht2 : Turned (fun j => v.ownBlock = some j) wr w' := ((Turned.refl _ wr).alloc o).trans ht
  exact hB.trans (ht2.toBelow hB.size (fun k hk e => (World.ownsRow.lt hown k e).1))

end Go.Proofs.YtfjjodkapofgjaaGreatDoor

/- The document's own numbers as bytes: Put, Get. -/
namespace Go.Proofs.YtfjjodkapofgjaaGreatDoor
open Go Go.RowKit Sm
attribute [local go_sem] Oper.semAt_some

end Go.Proofs.YtfjjodkapofgjaaGreatDoor
