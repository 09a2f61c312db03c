/- The plain disk: what stays, what is set; lists of numbers compared; zeros. -/
import Derived.Deep.QuietTactic
import Derived.BigQuiet
import Derived.Laws.MakeOwn
import Derived.Test.YtapmppiiphbcpaaKD8
namespace Go.Proofs.Ytapmppiiphbcpaa
open Go Go.RowKit

/-- Its blocks. -/
def RFoot (r : Nat) (vs vw vb : Value) (k : Nat) : Prop := k = r ∨ vs.ownBlock = some k ∨ vw.ownBlock = some k ∨ vb.ownBlock = some k

theorem RefAt.kept' {w w' : World} {r : Nat} {vs vw vb : Value} {D : Dk} {F : Nat → Prop} (h : RefAt w r vs vw vb D) (ht : Turned F w w') (hF : ∀ k, F k → ¬ RFoot r vs vw vb k) : RefAt w' r vs vw vb D :=
  ⟨ht.heap h.box fun hf => hF _ hf (.inl rfl), ht.ownsRow h.s fun k hk hf => hF k hf (.inr (.inl hk)), ht.ownsRow h.u fun k hk hf => hF k hf (.inr (.inr (.inl hk))), ht.ownsRow h.b fun k hk hf => hF k hf (.inr (.inr (.inr hk))), h.rs, h.ru, h.rb, h.su, h.sb, h.ub⟩

theorem ownsRow_set {w : World} {base e g n n' cap i : Nat} {xs : List Value} (h : w.ownsRow base e 1 (.slice (some ⟨g, 0, none⟩) n' cap) n xs) (v : Value) : (w.setCell ⟨g, i, none⟩ v).ownsRow base e 1 (.slice (some ⟨g, 0, none⟩) n' cap) n (xs.set i v) := by
  obtain ⟨h1, h2⟩ := h
  rcases h2 with ⟨h2, -⟩ | ⟨g', cap', cur, hv, hg, hh, hc, hm, hs, ht⟩
  · cases h2
  · simp only [Value.slice.injEq, Option.some.injEq, Addr.mk.injEq] at hv
    obtain ⟨⟨rfl, -, -⟩, rfl, rfl⟩ := hv
    refine ⟨by simpa using h1, Or.inr ⟨g, cap, cur.setIfInBounds i v, rfl, hg, heap_setCell_at hh i v, hc, hm, by simpa using hs, ?_⟩⟩
    rw [← ht, Array.toList_setIfInBounds, List.take_set]

theorem RefAt.setS {w : World} {r g n cs : Nat} {vw vb : Value} {D : Dk} (h : RefAt w r (.slice (some ⟨g, 0, none⟩) n cs) vw vb D) (i : Nat) (s : List UInt8) :
    RefAt (w.setCell ⟨g, i, none⟩ (sv s)) r (.slice (some ⟨g, 0, none⟩) n cs) vw vb { D with kept := D.kept.set i s } := by
  have hT : Turned (· = g) w (w.setCell ⟨g, i, none⟩ (sv s)) := (Turned.refl (· = g) w).setCell (p := ⟨g, i, none⟩) rfl _
  have hgo : (Value.slice (some ⟨g, 0, none⟩) n cs).ownBlock = some g := rfl
  refine ⟨hT.heap h.box fun e => h.rs (by rw [hgo, ← e]), ?_, hT.ownsRow h.u fun k hk e => h.su k (by rw [hgo, e]) hk, hT.ownsRow h.b fun k hk e => h.sb k (by rw [hgo, e]) hk, h.rs, h.ru, h.rb, h.su, h.sb, h.ub⟩
  have := ownsRow_set (i := i) h.s (sv s)
  simpa [List.map_set] using this

/-- Its writes gone, its count set. -/
theorem RefAt.cleared {w : World} {r : Nat} {vs vw vb : Value} {D : Dk} (h : RefAt w r vs vw vb D) (n : Nat) {w' : World} (hT : Turned (· = r) w w') (hb : w'.heap[r]? = some (.cells #[vs, .slice none 0 0, .slice none 0 0, .int .i64 n] 39 (0, 0))) :
    RefAt w' r vs (.slice none 0 0) (.slice none 0 0) { D with uns := [], ops := n } :=
  ⟨hb, hT.ownsRow h.s fun k hk e => h.rs (by rw [hk, e]), World.ownsRow_nil _ _ _ _, World.ownsRow_nil _ _ _ _, h.rs, by simp [Value.ownBlock], by simp [Value.ownBlock], fun k _ => by simp [Value.ownBlock], fun k _ => by simp [Value.ownBlock], fun k h => by simp [Value.ownBlock] at h⟩

theorem lt_of_cell {w : World} {b o : Nat} {v : Value} (h : w.cell? ⟨b, o, none⟩ = some v) : b < w.heap.size := World.block_lt_of_cell? w ⟨b, o, none⟩ h

set_option maxRecDepth 10000 in
set_option maxHeartbeats 1000000 in
theorem ints_same (p q : Option Addr) (zs : List Int) (c1 c2 : Nat) (w : World) (hp : Ints w p zs) (hq : Ints w q zs) (hl : Veil (zs.length ≤ 1000000)) :
    Calls Try.prog 17 #[.slice p zs.length c1, .slice q zs.length c2] w fun e w' => e = .returned (.bool true) ∧ Below w.heap.size w w' := by
  have HP : Veil _ := ⟨hp⟩
  have HQ : Veil _ := ⟨hq⟩
  clear hp hq
  go_enter Try.func17, Try.ntmps17
  go_wp2
  go_loopw [5] (fun i wr => ∃ k : Nat, k ≤ zs.length ∧ i = .int .i64 k ∧ Below w.heap.size w wr) (fun i _ => zs.length - (intOf i).toNat)
  case atStart => exact ⟨0, Nat.zero_le _, rfl, Below.refl _ _⟩
  case round =>
    obtain ⟨k, hk, rfl, hB⟩ := hrel
    by_cases hlt : k < zs.length
    · obtain ⟨b1, o1, rfl, hc1⟩ := HP.out (by intro h; rw [h] at hlt; simp at hlt)
      obtain ⟨b2, o2, rfl, hc2⟩ := HQ.out (by intro h; rw [h] at hlt; simp at hlt)
      have d1 := hc1 k hlt
      have d2 := hc2 k hlt
      have e1 : wr.cell? ⟨b1, o1 + k, none⟩ = some (.int .i64 (zs.getD k 0)) := (hB.cell (lt_of_cell d1)).trans d1
      have e2 : wr.cell? ⟨b2, o2 + k, none⟩ = some (.int .i64 (zs.getD k 0)) := (hB.cell (lt_of_cell d2)).trans d2
      revert e1 e2
      generalize zs.getD k 0 = z
      intro e1 e2
      have hwk : wrap64 ((k : Int) + 1) = (k : Int) + 1 := by have := hl.out; unfold wrap64; omega
      have hlt2 : (k : Int) < zs.length := by omega
      have HB : Veil _ := ⟨hB⟩
      clear hc1 hc2 d1 d2 hB
      go_wp2_with fail
      go_quiet (fail)
      go_wp2
      refine ⟨⟨k + 1, by omega, by rw [hwk]; go_num, HB.out.trans (((Turned.refl (fun _ => False) wr).drewN nq).toBelow HB.out.size (fun _ _ h => h.elim))⟩, ?_⟩
      rw [hwk]
      simp [intOf]
      omega
    · obtain rfl : k = zs.length := by omega
      have HB : Veil _ := ⟨hB⟩
      clear hB
      go_wp2
      go_ret
      exact ⟨rfl, HB.out⟩

theorem replicate_u8s (n : Nat) : List.replicate n (Value.int .u8 0) = u8s (List.replicate n 0) := by simp [u8s, u8v]
theorem made_zeros (n : Nat) : madeCells #[.int .u8 0] n = (List.replicate n (Value.int .u8 0)).toArray := by
  apply Array.ext
  · simp [madeCells]
  · intro i h1 h2
    simp [madeCells, Nat.mod_one]
theorem info_u8 : (Try.prog.info? 5).map (fun i => (i.zero, i.size, i.bytes)) = some (some (.int .u8 0), 1, 1) := by kernel_rfl

set_option maxRecDepth 10000 in
set_option maxHeartbeats 1000000 in
theorem zeros_any (n : Nat) (hn : n ≤ 64) (w : World) : Calls Try.prog 47 #[.int .i64 n] w fun e w' => e = .returned (sv (List.replicate n 0)) ∧ Below w.heap.size w w' := by
  obtain ⟨i0, hi, hz0, hz1, hz2⟩ := info_parts info_u8
  have hmk : ∀ W : World, (Instr.makeSlice 104 (.int .i64 (n : Int)) (.int .i64 (n : Int))).run Try.prog W = .ok (.slice (some ⟨W.heap.size, 0, none⟩) n n) (W.alloc (.cells (List.replicate n (Value.int .u8 0)).toArray 5)) := fun W => by
    have h := run_make (P := Try.prog) W 104 5 i0 (.int .u8 0) Try.underlying104 hi hz0 .i64 .i64 (n : Int) (n : Int) (by omega) (by omega) (by rw [hz2]; omega) (by omega)
    rw [hz1, Nat.mul_one, show ((n : Int).toNat) = n by omega] at h
    rw [← made_zeros]
    exact h
  have hcv : ∀ W : World, (convert 104 9 (.slice (some ⟨W.heap.size, 0, none⟩) n n)).run Try.prog (W.alloc (.cells (List.replicate n (Value.int .u8 0)).toArray 5)) = .ok (sv (List.replicate n 0)) (W.alloc (.cells (List.replicate n (Value.int .u8 0)).toArray 5)) := fun W => by
    rw [replicate_u8s]
    have := run_convert_u8s (P := Try.prog) (W.alloc (.cells (u8s (List.replicate n 0)).toArray 5)) 104 9 5 Try.underlying104 Try.underlying5 Try.underlying9 W.heap.size 0 n (List.replicate n 0) (by
      have := rangeAt_whole (heap_alloc_new W (.cells (u8s (List.replicate n 0)).toArray 5)) 0 (u8s (List.replicate n 0)).length
      rwa [List.drop_zero, List.take_length] at this)
    rw [List.length_replicate] at this
    exact this
  obtain ⟨S, hS⟩ : ∃ S, sv (List.replicate n 0) = S := ⟨_, rfl⟩
  obtain ⟨C, hC⟩ : ∃ C, Obj.cells (List.replicate n (Value.int .u8 0)).toArray 5 = C := ⟨_, rfl⟩
  rw [hS] at hcv ⊢
  rw [hC] at hcv hmk
  clear hi hz0 hz1 hz2 hS hC hn
  go_enter Try.func47, Try.ntmps47
  go_wp2
  go_ret
  exact ⟨rfl, below_al (Below.refl _ _) _⟩
end Go.Proofs.Ytapmppiiphbcpaa
