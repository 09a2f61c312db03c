/- The walk of bytes (the document's own). -/
import Derived.Test.YtaolhhgfnhhgaaaKN1
namespace Go.Proofs.Ytaolhhgfnhhgaaa
open Go Go.RowKit Sm
attribute [local go_sem] Oper.semAt_some

theorem nput_four (vl : Nat) (w : World) : Calls Try.prog 27 #[.int .u64 vl, .int .i64 4] w fun e w' => e = .returned (.string ⟨(putB vl 4).toArray⟩) ∧ Below w.heap.size w w' := put_any vl 4 (by decide) w
theorem nput_one (vl : Nat) (w : World) : Calls Try.prog 27 #[.int .u64 vl, .int .i64 1] w fun e w' => e = .returned (.string ⟨(putB vl 1).toArray⟩) ∧ Below w.heap.size w w' := put_any vl 1 (by decide) w
def pairB (p : Pr) : List UInt8 := putB p.k.length 1 ++ p.k ++ putB p.v.length 1 ++ p.v
def psB (L : List Pr) (k : Nat) : List UInt8 := putB L.length 1 ++ (L.take k).flatMap pairB
def kidB (n : Nd) (i : Nat) : List UInt8 := putB (n.ks.getD i []).length 1 ++ n.ks.getD i [] ++ putB (n.ds.getD (i + 1) 0) 4
def bsB (n : Nd) (k : Nat) : List UInt8 := putB n.ds.length 1 ++ putB (n.ds.getD 0 0) 4 ++ (List.range k).flatMap (kidB n)
def Nd.enc (n : Nd) : List UInt8 := if n.ds.length = 0 then psB n.ps n.ps.length else bsB n n.ks.length
theorem psB_succ (L : List Pr) (k : Nat) (h : k < L.length) : psB L (k + 1) = psB L k ++ putB (L.getD k Pr.zero).k.length 1 ++ (L.getD k Pr.zero).k ++ putB (L.getD k Pr.zero).v.length 1 ++ (L.getD k Pr.zero).v := by
  unfold psB
  have e : L.take (k + 1) = L.take k ++ [L.getD k Pr.zero] := by
    rw [List.take_add_one]; simp [List.getD, h]
  rw [e]
  simp [pairB]
theorem bsB_succ (n : Nd) (k : Nat) : bsB n (k + 1) = bsB n k ++ putB (n.ks.getD k []).length 1 ++ n.ks.getD k [] ++ putB (n.ds.getD (k + 1) 0) 4 := by
  unfold bsB
  rw [List.range_succ]
  simp [kidB]
theorem psB_len {L : List Pr} (h : ∀ p ∈ L, p.k.length ≤ 1000000 ∧ p.v.length ≤ 1000000) : ∀ k, k ≤ L.length → (psB L k).length ≤ 1 + k * 2000002
  | 0, _ => by simp [psB]
  | k + 1, hk => by
    have ih := psB_len h k (by omega)
    have := h _ (getD_mem (show k < L.length by omega) Pr.zero)
    rw [psB_succ L k (by omega)]
    simp only [List.length_append, putB_length]
    omega
theorem bsB_len {n : Nd} (h : ∀ s ∈ n.ks, s.length ≤ 1000000) : ∀ k, k ≤ n.ks.length → (bsB n k).length ≤ 5 + k * 1000005
  | 0, _ => by simp [bsB]
  | k + 1, hk => by
    have ih := bsB_len h k (by omega)
    have := h _ (getD_mem (show k < n.ks.length by omega) [])
    rw [bsB_succ n k]
    simp only [List.length_append, putB_length]
    omega

end Go.Proofs.Ytaolhhgfnhhgaaa

/- The walk of bytes of a branch; of a node. -/
namespace Go.Proofs.Ytaolhhgfnhhgaaa
open Go Go.RowKit Sm
attribute [local go_sem] Oper.semAt_some

end Go.Proofs.Ytaolhhgfnhhgaaa
