/- Two disks side by side, the program's and the plain one, and blocks that the law guards. -/
import Derived.Test.YtapmppiiphbcpaaKE5
import Derived.Test.YtapmppiiphbcpaaKMB
namespace Go.Proofs.Ytapmppiiphbcpaa
open Go Go.RowKit Sm

/-- The program's disk with D, the plain one with R. -/
def Both (w : World) (d kb sb r : Nat) (P : Nat → Prop) (D R : Dk) (A : World) : Prop :=
  ∃ v vs vw vb, DiskAt A d kb sb v D ∧ RefAt A r vs vw vb R ∧ From w.heap.size d kb sb v ∧ (∀ k, RFoot r vs vw vb k → w.heap.size ≤ k) ∧ (∀ k, Foot d kb sb v k → ¬ RFoot r vs vw vb k) ∧ Below w.heap.size w A ∧ ∀ k, P k → k < A.heap.size ∧ ¬ Foot d kb sb v k ∧ ¬ RFoot r vs vw vb k

theorem RefAt.rlt {A : World} {r : Nat} {vs vw vb : Value} {R : Dk} (h : RefAt A r vs vw vb R) {k : Nat} (hk : RFoot r vs vw vb k) : k < A.heap.size := by
  rcases hk with rfl | hk | hk | hk
  · exact lt_of_heap h.box
  · exact (h.s.lt k hk).2
  · exact (h.u.lt k hk).2
  · exact (h.b.lt k hk).2
section
variable {w A A' : World} {d kb sb r : Nat} {P : Nat → Prop} {D R : Dk}
theorem Both.in (h : Both w d kb sb r P D R A) : Below w.heap.size w A := by obtain ⟨_, _, _, _, _, _, _, _, _, h, _⟩ := h; exact h
theorem Both.okD (h : Both w d kb sb r P D R A) : D.Ok := by obtain ⟨_, _, _, _, h, _⟩ := h; exact h.ok
theorem Both.less {Q : Nat → Prop} (h : Both w d kb sb r P D R A) (hQ : ∀ k, Q k → P k) : Both w d kb sb r Q D R A := by
  obtain ⟨v, vs, vw, vb, h1, h2, h3, h4, h5, h6, h7⟩ := h
  exact ⟨v, vs, vw, vb, h1, h2, h3, h4, h5, h6, fun k hk => h7 k (hQ k hk)⟩
theorem Both.below (h : Both w d kb sb r P D R A) (hb : Below A.heap.size A A') : Both w d kb sb r P D R A' := by
  obtain ⟨v, vs, vw, vb, h1, h2, h3, h4, h5, h6, h7⟩ := h
  exact ⟨v, vs, vw, vb, h1.kept' (Turned.new hb : Turned (fun _ => False) A A') (fun _ => False.elim), h2.kept' (Turned.new hb : Turned (fun _ => False) A A') (fun _ => False.elim), h3, h4, h5, h6.trans (hb.mono h6.size), fun k hk => ⟨Nat.lt_of_lt_of_le (h7 k hk).1 hb.size, (h7 k hk).2⟩⟩
theorem Both.add (h : Both w d kb sb r P D R A) (o : Obj) : Both w d kb sb r (fun k => P k ∨ k = A.heap.size) D R (A.alloc o) := by
  have h' := h.below (below_al (Below.refl _ A) o)
  obtain ⟨v, vs, vw, vb, h1, h2, h3, h4, h5, h6, h7⟩ := h
  refine ⟨v, vs, vw, vb, h1.kept' ((Turned.refl (fun _ => False) A).alloc o) (fun _ => False.elim), h2.kept' ((Turned.refl (fun _ => False) A).alloc o) (fun _ => False.elim), h3, h4, h5, h'.in, ?_⟩
  rintro k (hk | rfl)
  · exact ⟨by rw [World.size_alloc]; have := (h7 k hk).1; omega, (h7 k hk).2⟩
  · exact ⟨by rw [World.size_alloc]; omega, fun hf => by have := h1.flt hf; omega, fun hf => by have := h2.rlt hf; omega⟩
theorem Both.turned {F : Nat → Prop} (h : Both w d kb sb r P D R A) (ht : Turned F A A') (hF : ∀ k, F k → P k ∧ w.heap.size ≤ k) : Both w d kb sb r P D R A' := by
  obtain ⟨v, vs, vw, vb, h1, h2, h3, h4, h5, h6, h7⟩ := h
  exact ⟨v, vs, vw, vb, h1.kept' ht (fun k hk => (h7 k (hF k hk).1).2.1), h2.kept' ht (fun k hk => (h7 k (hF k hk).1).2.2), h3, h4, h5, h6.trans (ht.toBelow h6.size (fun k _ hk => (hF k hk).2)), fun k hk => ⟨Nat.lt_of_lt_of_le (h7 k hk).1 ht.size, (h7 k hk).2⟩⟩
/-- Two new ones. -/
theorem Both.new {n m : Nat} (h : MyD w d kb sb (Dk.new n) A) {vs : Value} (hb : Below A.heap.size A A') (hr : RefAt A' r vs (.slice none 0 0) (.slice none 0 0) (Dk.new m)) (h1 : A.heap.size ≤ r) (h2 : ∀ k, vs.ownBlock = some k → A.heap.size ≤ k) : Both w d kb sb r (fun _ => False) (Dk.new n) (Dk.new m) A' := by
  have hw := h.in.size
  obtain ⟨v, hD, hF, hB⟩ := h
  have hfr : ∀ k, RFoot r vs (.slice none 0 0) (.slice none 0 0) k → A.heap.size ≤ k := by
    rintro k (rfl | hk | hk | hk)
    · exact h1
    · exact h2 k hk
    · cases hk
    · cases hk
  exact ⟨v, vs, _, _, hD.kept' (Turned.new hb : Turned (fun _ => False) A A') (fun _ => False.elim), hr, hF, fun k hk => Nat.le_trans hw (hfr k hk), fun k hk hk2 => by have := hD.flt hk; have := hfr k hk2; omega, hB.trans (hb.mono hB.size), fun _ h => h.elim⟩
/-- A call of the program's disk. -/
theorem both_real {f : FuncId} {args : Array Value} {D' : Dk} {ans : Value} (h : Both w d kb sb r P D R A) (hc : ∀ v, DiskAt A d kb sb v D → Calls Try.prog f args A (DiskPost A d kb sb v D' ans)) :
    Calls Try.prog f args A fun e w' => e = .returned ans ∧ Both w d kb sb r P D' R w' ∧ ∀ k, P k → w'.heap[k]? = A.heap[k]? := by
  obtain ⟨v, vs, vw, vb, h1, h2, h3, h4, h5, h6, h7⟩ := h
  refine (hc v h1).mono ?_
  rintro e w' ⟨he, v', hD', hT, hv⟩
  have hfoot : ∀ k, Foot d kb sb v' k → Foot d kb sb v k ∨ A.heap.size ≤ k := by
    rintro k (hf | hf | hf | hf)
    · exact .inl (.inl hf)
    · exact .inl (.inr (.inl hf))
    · exact .inl (.inr (.inr (.inl hf)))
    · rcases hv with e | e
      · exact .inl (.inr (.inr (.inr (by rw [← e]; exact hf))))
      · exact .inr (e k hf)
  refine ⟨he, ⟨v', vs, vw, vb, hD', h2.kept' hT (fun k hk => h5 k hk), h3.next h6.size hv, h4, fun k hk => ?_, h3.below h6 (Nat.le_refl _) hT, fun k hk => ⟨Nat.lt_of_lt_of_le (h7 k hk).1 hT.size, fun hf => ?_, (h7 k hk).2.2⟩⟩, fun k hk => hT.block k (h7 k hk).1 (h7 k hk).2.1⟩
  · rcases hfoot k hk with h | h
    · exact h5 k h
    · exact fun hr => by have := h2.rlt hr; omega
  · rcases hfoot k hf with h | h
    · exact (h7 k hk).2.1 h
    · have := (h7 k hk).1; omega
/-- A call of the plain disk. -/
theorem both_ref {f : FuncId} {args : Array Value} {R' : Dk} {ans : Value} (h : Both w d kb sb r P D R A) (hc : ∀ vs vw vb, RefAt A r vs vw vb R → Calls Try.prog f args A fun e w' => RefPost A r vs vw vb R' e ans w') :
    Calls Try.prog f args A fun e w' => e = .returned ans ∧ Both w d kb sb r P D R' w' ∧ ∀ k, P k → w'.heap[k]? = A.heap[k]? := by
  obtain ⟨v, vs, vw, vb, h1, h2, h3, h4, h5, h6, h7⟩ := h
  refine (hc vs vw vb h2).mono ?_
  rintro e w' ⟨he, vw', vb', hR', hT, hu, hb⟩
  have hfoot : ∀ k, RFoot r vs vw' vb' k → RFoot r vs vw vb k ∨ A.heap.size ≤ k := by
    rintro k (hf | hf | hf | hf)
    · exact .inl (.inl hf)
    · exact .inl (.inr (.inl hf))
    · rcases hu k hf with h | h
      · exact .inl (.inr (.inr (.inl h)))
      · exact .inr h
    · rcases hb k hf with h | h
      · exact .inl (.inr (.inr (.inr h)))
      · exact .inr h
  refine ⟨he, ⟨v, vs, vw', vb', h1.kept' hT (fun k hk hf => h5 k hf hk), hR', h3, fun k hk => ?_, fun k hk hr => ?_, h6.trans (hT.toBelow h6.size (fun k _ hk => h4 k hk)), fun k hk => ⟨Nat.lt_of_lt_of_le (h7 k hk).1 hT.size, (h7 k hk).2.1, fun hf => ?_⟩⟩, fun k hk => hT.block k (h7 k hk).1 (h7 k hk).2.2⟩
  · rcases hfoot k hk with h | h
    · exact h4 k h
    · have := h6.size; omega
  · rcases hfoot k hr with h | h
    · exact h5 k hk h
    · have := h1.flt hk; omega
  · rcases hfoot k hf with h | h
    · exact (h7 k hk).2.2 h
    · have := (h7 k hk).1; omega
end

theorem RefPost.same {w w' : World} {r : Nat} {vs vw vb : Value} {R : Dk} {e : Ending} {ans : Value} (h : RefAt w r vs vw vb R) (he : e = .returned ans) (hb : Below w.heap.size w w') : RefPost w r vs vw vb R e ans w' :=
  ⟨he, vw, vb, h.kept' (Turned.new hb : Turned (fun _ => False) w w') (fun _ => False.elim), Turned.new hb, fun _ h => .inl h, fun _ h => .inl h⟩
/-- The plain disk's write, whatever its sector and text. -/
theorem rwr_any {w : World} {r : Nat} {vs vw vb : Value} {R : Dk} (h : RefAt w r vs vw vb R) (i : Int) (s : List UInt8) (hu : R.uns.length ≤ 1000000) (ho : R.ops ≤ 1000000) :
    Calls Try.prog 49 #[.pointer (some ⟨r, 0, none⟩), .int .i64 i, .string ⟨s.toArray⟩] w fun e w' => RefPost w r vs vw vb (R.wr i s) e (.int .i64 (R.wrc i s)) w' := by
  by_cases h1 : 0 ≤ i ∧ i < R.kept.length
  · by_cases h2 : s.length ≤ 64
    · have e1 : R.wr i s = R.write i.toNat s := if_pos ⟨h1.1, h1.2, h2⟩
      have e2 : R.wrc i s = 0 := by rw [Dk.wrc, if_pos h1, if_pos h2]
      rw [e1, e2]
      have := rwrite_in h i.toNat s (by omega) ⟨h2⟩ ⟨hu⟩ ⟨ho⟩
      rw [Int.toNat_of_nonneg h1.1] at this
      exact this
    · have e1 : R.wr i s = R := if_neg fun hh => h2 hh.2.2
      have e2 : R.wrc i s = 2 := by rw [Dk.wrc, if_pos h1, if_neg h2]
      rw [e1, e2]
      exact (rwrite_long h i s h1.1 h1.2 (by omega)).mono fun e w' ⟨he, hw⟩ => RefPost.same h he (hw ▸ Below.refl _ _)
  · have e1 : R.wr i s = R := if_neg fun hh => h1 ⟨hh.1, hh.2.1⟩
    have e2 : R.wrc i s = 10 := by rw [Dk.wrc, if_neg h1]
    rw [e1, e2]
    exact (rwrite_sector h i _ (by omega)).mono fun e w' ⟨he, hw⟩ => RefPost.same h he (hw ▸ Below.refl _ _)
/-- A box made ahead of a plain disk's call. -/
theorem rpost_ahead {w W w' : World} {r : Nat} {vs vw vb : Value} {R : Dk} {ans : Value} {e : Ending} (hb : Below w.heap.size w W) (h : RefPost W r vs vw vb R e ans w') : RefPost w r vs vw vb R e ans w' := by
  obtain ⟨he, vw', vb', hR, hT, h1, h2⟩ := h
  refine ⟨he, vw', vb', hR, (Turned.new hb : Turned (RFoot r vs vw vb) w W).trans (hT.wider fun _ _ h => h), fun k hk => ?_, fun k hk => ?_⟩
  · exact (h1 k hk).imp id fun h => Nat.le_trans hb.size h
  · exact (h2 k hk).imp id fun h => Nat.le_trans hb.size h
end Go.Proofs.Ytapmppiiphbcpaa
