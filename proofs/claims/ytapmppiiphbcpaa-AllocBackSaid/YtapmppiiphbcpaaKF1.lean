/- The law of drawn regions where only new blocks are made: what each operation tells is a value, or a block that stands. -/
import Derived.Test.YtapmppiiphbcpaaKG
import Derived.Test.YtapmppiiphbcpaaKD0
namespace Go.Proofs.Ytapmppiiphbcpaa
open Go Go.RowKit

theorem str_add (a b : List UInt8) : (⟨a.toArray⟩ : ByteArray) ++ ⟨b.toArray⟩ = ⟨(a ++ b).toArray⟩ := by
  apply ByteArray.ext
  simp
/-- What an operation tells. -/
inductive Fact
  | any
  | is (v : Value)
  | row (B : Nat) (f : Nat → Value) (c : Array Value) (t : TypeId)
  | of (p : Value → Prop)
def Fact.holds : Fact → Value → World → Prop
  | .any, _, _ => True
  | .is x, v, _ => v = x
  | .row B f c t, v, W => ∃ g, B ≤ g ∧ v = f g ∧ W.heap[g]? = some (.cells c t (0, 0))
  | .of p, v, _ => p v
theorem Fact.below {W W' : World} {v : Value} (hb : Below W.heap.size W W') : ∀ {f : Fact}, f.holds v W → f.holds v W'
  | .any, h => h
  | .is _, h => h
  | .of _, h => h
  | .row _ _ _ _, ⟨g, h1, h2, h3⟩ => ⟨g, h1, h2, (hb.block g (Array.getElem?_eq_some_iff.1 h3).1).trans h3⟩
def factAt (fs : List Fact) (i : Nat) : Value → World → Prop := (fs.getD i .any).holds
/-- All that the facts tell, one by one. -/
def heldFacts (vals : Nat → Value) (W : World) : Nat → List Fact → Prop
  | _, [] => True
  | k, f :: fs => f.holds (vals k) W ∧ heldFacts vals W (k + 1) fs
theorem heldFacts_of {vals : Nat → Value} {W : World} : ∀ (fs : List Fact) (k : Nat), (∀ j, j < fs.length → (fs.getD j .any).holds (vals (k + j)) W) → heldFacts vals W k fs
  | [], _, _ => trivial
  | f :: fs, k, h => ⟨h 0 (by simp), heldFacts_of fs (k + 1) fun j hj => by
      have := h (j + 1) (by simpa using hj)
      rwa [show k + (j + 1) = k + 1 + j by omega] at this⟩

section
variable {P : Program} {Q : Exit → Act → World → Prop} {id : Nat} {a : Act} {w : World} {ol : List Oper}
/-- What one step must come to, given the facts it waits for. -/
def newSteps (P : Program) (ops : Array Oper) (w : World) (fs : List Fact) (a : Act) := freeSteps P ops (fun W W' => Below W.heap.size W W') (fun W => Below w.heap.size w W) (factAt fs) a 0
theorem region_new (fs : List Fact) (rd : List (List (Nat × Nat))) (pr : List (List Nat)) (all : List (Nat × Nat)) (hm : P.follows .mixedOrders = true) (hB : Region.freeOrderB ol.toArray fs.length a.tmps.size rd pr all = true)
    (hst : newSteps P ol.toArray w fs a (ol.take fs.length) rd pr) (hend : ∀ (vals : Nat → Value) (W : World), Below w.heap.size w W → heldFacts vals W 0 fs → wpList P ol.toArray Q (ol.drop fs.length) (putsL vals all a) W) : (Code.region id ol.toArray true).wp P Q a w :=
  region_free fs.length rd pr all (fun W W' => Below W.heap.size W W') (fun W => Below w.heap.size w W) (factAt fs) hm hB _ rfl (fun W W' hI hR => hI.trans (hR.mono hI.size)) (fun i v W W' _ hR h => Fact.below hR (f := fs.getD i .any) h) (Below.refl _ _).drew hst
    fun vals W hI hF => hend vals W hI (heldFacts_of fs 0 fun j hj => by rw [Nat.zero_add]; exact hF j hj)
theorem region_new_in {l k : Nat} (fs : List Fact) (rd : List (List (Nat × Nat))) (pr : List (List Nat)) (all : List (Nat × Nat)) (hm : P.follows .mixedOrders = true) (hB : Region.freeOrderB ol.toArray fs.length a.tmps.size rd pr all = true) (hd : ol.all noDefer = true)
    (hst : newSteps P ol.toArray w fs a (ol.take fs.length) rd pr) (hend : ∀ (vals : Nat → Value) (W : World), Below w.heap.size w W → heldFacts vals W 0 fs → wpList P ol.toArray (Only Q) (ol.drop fs.length) (putsL vals all a) W) : (Code.region id ol.toArray true).wpIn (Fence.wide.inRound l) k P Q a w :=
  region_free_in fs.length rd pr all (fun W W' => Below W.heap.size W W') (fun W => Below w.heap.size w W) (factAt fs) hm hB hd _ rfl (fun W W' hI hR => hI.trans (hR.mono hI.size)) (fun i v W W' _ hR h => Fact.below hR (f := fs.getD i .any) h) (Below.refl _ _).drew hst
    fun vals W hI hF => hend vals W hI (heldFacts_of fs 0 fun j hj => by rw [Nat.zero_add]; exact hF j hj)
end
end Go.Proofs.Ytapmppiiphbcpaa
