/- The walk of written: numbers as bytes, one behind the other. -/
import Derived.Test.YtaolhhgfnhhgaaaKS6
namespace Go.Proofs.Ytaolhhgfnhhgaaa
open Go Go.RowKit Sm
attribute [local go_sem] Oper.semAt_some

def wrB (ns : List (Nat × Nat)) : List UInt8 := ns.flatMap fun x => putB x.2 x.1
theorem wrB_take (ns : List (Nat × Nat)) (k : Nat) (h : k < ns.length) : wrB (ns.take (k + 1)) = wrB (ns.take k) ++ putB (ns.getD k (0, 0)).2 (ns.getD k (0, 0)).1 := by
  unfold wrB
  rw [List.take_succ_eq_append_getElem h, List.flatMap_append]
  simp [List.getD, h]
def Nums (w : World) (b : Nat) (ns : List (Nat × Nat)) : Prop := ∀ i, i < ns.length → w.cell? ⟨b, i * 2, none⟩ = some (.int .i64 (ns.getD i (0, 0)).1) ∧ w.cell? ⟨b, i * 2 + 1, none⟩ = some (.int .u64 (ns.getD i (0, 0)).2)

theorem byte_shr (vl : Nat) (z : Int) (hz : 0 ≤ z) : (vl : Int) / 2 ^ (8 * z).toNat % 256 = ((byteAt vl z.toNat).toNat : Int) := by
  obtain ⟨n, rfl⟩ := Int.eq_ofNat_of_zero_le hz
  have e : (8 * (n : Int)).toNat = 8 * n := by omega
  have h2 : (256 : Nat) ^ n = 2 ^ (8 * n) := by rw [Nat.pow_mul]
  simp only [byteAt, Nat.toUInt8, UInt8.toNat_ofNat', Int.toNat_natCast, h2]
  rw [e]
  generalize 8 * n = m
  have h3 : ((2 : Int) ^ m) = ((2 ^ m : Nat) : Int) := by simp
  rw [h3]
  generalize 2 ^ m = q
  have h4 : (vl : Int) / (q : Int) = ((vl / q : Nat) : Int) := by simp
  rw [h4]
  have h5 : (2 : Nat) ^ 8 = 256 := rfl
  rw [h5]
  omega
theorem cell_alloc_one (w : World) (x : Value) (t : TypeId) : (w.alloc (.cells #[x] t)).cell? ⟨w.heap.size, 0, none⟩ = some x := by
  have := heap_alloc_new w (.cells #[x] t)
  unfold World.cell?
  rw [this]
  rfl
theorem wrB_le : ∀ (ns : List (Nat × Nat)), (∀ x ∈ ns, x.1 ≤ 8) → (wrB ns).length ≤ 8 * ns.length := by
  intro ns
  induction ns with
  | nil => intro _; simp [wrB]
  | cons a ns ih =>
    intro h
    have := ih fun x hx => h x (List.mem_cons_of_mem _ hx)
    have := h a (List.mem_cons_self ..)
    simp only [wrB, List.flatMap_cons, List.length_append, putB_length, List.length_cons] at *
    omega
theorem own_next {w : World} {base : Nat} {p : Option Addr} {L T T' : List UInt8} {c : UInt8} {n cap : Nat} (h : OwnB w base (.slice p ((L ++ T).length + 1 : Nat) cap) ((L ++ T) ++ [c])) (e : T' = T ++ [c]) (hn : n = (L ++ T).length + 1) : OwnB w base (.slice p n cap) (L ++ T') := by
  subst hn e
  rw [← List.append_assoc]
  exact h
theorem own_lt {w : World} {base : Nat} {v : Value} {L : List UInt8} (h : OwnB w base v L) {j : Nat} (hj : v.ownBlock = some j) : base ≤ j ∧ j < w.heap.size := World.ownsRow.lt h j hj
theorem conv_own {w : World} {base : Nat} {v : Value} {L : List UInt8} (h : OwnB w base v L) : (convert 46 9 v).run Try.prog w = .ok (.string ⟨L.toArray⟩) w := by
  obtain ⟨h1, h2⟩ := h
  rcases h2 with ⟨rfl, h0⟩ | ⟨g, cap, cur, rfl, hg, hh, hn, hc, hs, ht⟩
  · obtain rfl : L = [] := List.eq_nil_of_length_eq_zero h0
    kernel_rfl
  · refine run_convert_u8s (P := Try.prog) w 46 9 5 Try.underlying46 Try.underlying5 Try.underlying9 g 0 cap L ?_
    have := rangeAt_whole (cur := cur.toList) (by simpa using hh) 0 L.length
    rw [Nat.mul_one] at ht
    rwa [List.drop_zero, ht] at this
/-- Behind one append: what was there ahead of the call stands. -/
theorem below_grown {w wr w' : World} {v : Value} {L : List UInt8} {o : Obj} (hB : Below w.heap.size w wr) (hown : OwnB wr w.heap.size v L) (hg : (wr.alloc o).grownBy w' v.ownBlock) : Below w.heap.size w w' := by
  have ht : Turned (fun j => v.ownBlock = some j) (wr.alloc o) w' := Turned.grown hg (fun j hj _ => hj)
  have ht2 : Turned (fun j => v.ownBlock = some j) wr w' := ((Turned.refl _ wr).alloc o).trans ht
  exact hB.trans (ht2.toBelow hB.size (fun k hk e => (own_lt hown e).1))

end Go.Proofs.Ytaolhhgfnhhgaaa
