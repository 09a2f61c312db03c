/- Nodes as they come in. -/
import Derived.Lib.SmallJoins
import Derived.ProofKit
import Derived.OpenShut
import Derived.ChangeMaps5
import Derived.Deep.Strs
import Derived.Deep.Slices
import Derived.Deep.Fields
import Derived.DataShut
import Derived.Test.YtalnmaoidaldhaaKOF
namespace Go.Proofs.Ytalnmaoidaldhaa
open Go.ChangeShapes Go.WideShapes Go.ChangeAt Go.RowKit

theorem slice_there6 {P : Program} {w : World} {base : Nat} {t e : TypeId} (ht : P.underlying t = some (.slice e)) {a : Addr} {len cap : Nat} (hv : Value.okWide P w .any base t (.slice (some a) len cap)) : a.spot = none ∧ a.block < w.heap.size := by
  simp only [Value.okWide, Cell.okWide, ht, Cell.ok] at hv
  obtain ⟨-, -, -, hs, row, cells, hsh, -⟩ := hv
  refine ⟨hs, ?_⟩
  cases hb : w.heap[a.block]? with
  | none => simp [World.shape?, hb] at hsh
  | some o => exact (Array.getElem?_eq_some_iff.1 hb).1

theorem add_spot6 {a : Addr} (h : a.spot = none) (n : Nat) : a.add n = ⟨a.block, a.off + n, none⟩ := by
  cases a with
  | mk b o sp =>
    simp only at h
    subst h
    unfold Addr.add
    split
    · rename_i hn; subst hn; rfl
    · rfl

theorem u32_lt6 {z : Int} (h : (Lit.int IntKind.u32 z).wf = true) : z.toNat < 4294967296 := by
  have h0 := (Lit.wf_int_iff .u32 z).1 h
  simp [IntKind.min, IntKind.signed, IntKind.max, IntKind.bits] at h0
  omega
theorem u32_back6 {z : Int} (h : (Lit.int IntKind.u32 z).wf = true) : ((z.toNat : Nat) : Int) = z := by
  have h0 := (Lit.wf_int_iff .u32 z).1 h
  simp [IntKind.min, IntKind.signed, IntKind.max, IntKind.bits] at h0
  omega
theorem els_of_cells {α : Type} {E : El α} {w : World} {a : Addr} (hsp : a.spot = none) {f : Nat → α} {len : Nat} (h : ∀ i, i < len → ∀ j, j < E.z → w.cell? ⟨a.block, a.off + i * E.z + j, none⟩ = (E.enc (f i))[j]?) : Els E w (some a) ((List.range len).map f) := fun _ => by
  refine ⟨a.block, a.off, by cases a; simp only at hsp; subst hsp; rfl, fun i j hi hj => ?_⟩
  have hlt : i < len := by simpa using hi
  have hg : ((List.range len).map f).getD i E.d = f i := by simp [List.getD, hlt]
  rw [hg]
  exact h i hlt j hj

section
variable {H : Type} {enc : TypeId × Value → H} {w : World} {held : Bool}

set_option maxRecDepth 10000 in
theorem open_elsP {base fuel : Nat} {v : Value} {x : DataW H × List MemPlace} (hv : Value.okWide Try.prog w .any base 22 v) (hf : DataW.trod enc Try.prog w 0 (fun _ => true) held fuel 22 [v] = some x) :
    ∃ (p : Option Addr) (l : List Pr) (lc : Nat), v = .slice p l.length lc ∧ Els elP w p l ∧ SlOk p l.length lc ∧ ∀ x ∈ l, x.k.length ≤ 9223372036854775807 ∧ x.v.length ≤ 9223372036854775807 := by
  obtain ⟨a, len, cap, rfl⟩ := okWide_slice Try.underlying22 hv
  rcases Go.Deep.open_slice Try.underlying22 hf with ⟨hcs, -⟩ | ⟨a', len', cap', m, n, D, Pl, hcs, -, hl, hm, hmm, -, hi⟩
  · simp only [List.cons.injEq, Value.slice.injEq, and_true] at hcs
    obtain ⟨rfl, rfl, rfl⟩ := hcs
    exact ⟨none, [], 0, rfl, Els.nil _ _, ⟨Nat.le_refl _, by decide, fun _ => rfl, fun a ha => (by cases ha)⟩, fun s hs => (by cases hs)⟩
  · simp only [List.cons.injEq, Value.slice.injEq, and_true] at hcs
    obtain ⟨rfl, rfl, rfl⟩ := hcs
    obtain ⟨hsp, hblk⟩ := slice_there6 Try.underlying22 hv
    have hc2 : Try.prog.cellsOf 39 = 2 := by kernel_rfl
    have each : ∀ i, ∃ x : Pr, i < len → (x.k.length ≤ 9223372036854775807 ∧ x.v.length ≤ 9223372036854775807) ∧ ∀ j, j < elP.z → w.cell? ⟨a'.block, a'.off + i * elP.z + j, none⟩ = (elP.enc x)[j]? := by
      intro i
      by_cases him : i < len
      · obtain ⟨cs', hc, ht'⟩ := hi i (by rw [hmm]; simp only [if_true]; omega)
        rw [hc2, add_spot6 hsp] at hc
        obtain ⟨-, hcl, hat⟩ := World.cells?_some hc
        obtain ⟨y0, y1, n', -, hlen, h0, h1⟩ := trod_struct2 Try.underlying39 ht'
        obtain ⟨c0, c1, rfl⟩ : ∃ c0 c1, cs' = [c0, c1] := by
          match cs', hcl with
          | [c0, c1], _ => exact ⟨_, _, rfl⟩
        obtain ⟨x, e0, -, w0⟩ := DataW.trod_string Try.underlying9 h0
        obtain ⟨y, e1, -, w1⟩ := DataW.trod_string Try.underlying9 h1
        have k16 : Try.prog.cellsOf 9 = 1 := by kernel_rfl
        simp [k16] at e0
        simp [k16] at e1
        subst e0 e1
        refine ⟨⟨x.data.toList, y.data.toList⟩, fun _ => ⟨⟨Nat.le_trans (Nat.le_of_eq Array.length_toList) (Nat.le_trans w0 (by decide +kernel)), Nat.le_trans (Nat.le_of_eq Array.length_toList) (Nat.le_trans w1 (by decide +kernel))⟩, fun j hj => ?_⟩⟩
        match j, hj with
        | 0, _ => exact hat 0 (by omega)
        | 1, _ => exact hat 1 (by omega)
      · exact ⟨Pr.zero, fun h => absurd h him⟩
    obtain ⟨f, hf'⟩ := Classical.axiomOfChoice each
    refine ⟨some a', (List.range len).map f, cap, by simp, els_of_cells hsp (fun i hi => (hf' i hi).2), ⟨by simpa using hl, Nat.le_trans hm (by decide +kernel), fun h => (by cases h), fun b hb => by cases hb; exact hsp⟩, fun s hs => ?_⟩
    obtain ⟨i, hir, rfl⟩ := List.mem_map.1 hs
    exact (hf' i (List.mem_range.1 hir)).1

set_option maxRecDepth 10000 in
theorem open_elsK {base fuel : Nat} {v : Value} {x : DataW H × List MemPlace} (hv : Value.okWide Try.prog w .any base 23 v) (hf : DataW.trod enc Try.prog w 0 (fun _ => true) held fuel 23 [v] = some x) :
    ∃ (p : Option Addr) (l : List (List UInt8)) (lc : Nat), v = .slice p l.length lc ∧ Els elK w p l ∧ SlOk p l.length lc ∧ ∀ x ∈ l, x.length ≤ 9223372036854775807 := by
  obtain ⟨a, len, cap, rfl⟩ := okWide_slice Try.underlying23 hv
  rcases Go.Deep.open_slice Try.underlying23 hf with ⟨hcs, -⟩ | ⟨a', len', cap', m, n, D, Pl, hcs, -, hl, hm, hmm, -, hi⟩
  · simp only [List.cons.injEq, Value.slice.injEq, and_true] at hcs
    obtain ⟨rfl, rfl, rfl⟩ := hcs
    exact ⟨none, [], 0, rfl, Els.nil _ _, ⟨Nat.le_refl _, by decide, fun _ => rfl, fun a ha => (by cases ha)⟩, fun s hs => (by cases hs)⟩
  · simp only [List.cons.injEq, Value.slice.injEq, and_true] at hcs
    obtain ⟨rfl, rfl, rfl⟩ := hcs
    obtain ⟨hsp, hblk⟩ := slice_there6 Try.underlying23 hv
    have hc2 : Try.prog.cellsOf 9 = 1 := by kernel_rfl
    have each : ∀ i, ∃ x : (List UInt8), i < len → (x.length ≤ 9223372036854775807) ∧ ∀ j, j < elK.z → w.cell? ⟨a'.block, a'.off + i * elK.z + j, none⟩ = (elK.enc x)[j]? := by
      intro i
      by_cases him : i < len
      · obtain ⟨cs', hc, ht'⟩ := hi i (by rw [hmm]; simp only [if_true]; omega)
        rw [hc2, add_spot6 hsp] at hc
        obtain ⟨-, hcl, hat⟩ := World.cells?_some hc
        obtain ⟨c0, rfl⟩ : ∃ c0, cs' = [c0] := by
          match cs', hcl with
          | [c0], _ => exact ⟨_, rfl⟩
        obtain ⟨t, e0, -, w0⟩ := DataW.trod_string Try.underlying9 ht'
        simp only [List.cons.injEq, and_true] at e0
        subst e0
        refine ⟨t.data.toList, fun _ => ⟨Nat.le_trans (Nat.le_of_eq Array.length_toList) (Nat.le_trans w0 (by decide +kernel)), fun j hj => ?_⟩⟩
        match j, hj with
        | 0, _ => exact hat 0 (by omega)
      · exact ⟨[], fun h => absurd h him⟩
    obtain ⟨f, hf'⟩ := Classical.axiomOfChoice each
    refine ⟨some a', (List.range len).map f, cap, by simp, els_of_cells hsp (fun i hi => (hf' i hi).2), ⟨by simpa using hl, Nat.le_trans hm (by decide +kernel), fun h => (by cases h), fun b hb => by cases hb; exact hsp⟩, fun s hs => ?_⟩
    obtain ⟨i, hir, rfl⟩ := List.mem_map.1 hs
    exact (hf' i (List.mem_range.1 hir)).1

set_option maxRecDepth 10000 in
theorem open_elsD {base fuel : Nat} {v : Value} {x : DataW H × List MemPlace} (hv : Value.okWide Try.prog w .any base 24 v) (hf : DataW.trod enc Try.prog w 0 (fun _ => true) held fuel 24 [v] = some x) :
    ∃ (p : Option Addr) (l : List Nat) (lc : Nat), v = .slice p l.length lc ∧ Els elD w p l ∧ SlOk p l.length lc ∧ ∀ x ∈ l, x < 4294967296 := by
  obtain ⟨a, len, cap, rfl⟩ := okWide_slice Try.underlying24 hv
  rcases Go.Deep.open_slice Try.underlying24 hf with ⟨hcs, -⟩ | ⟨a', len', cap', m, n, D, Pl, hcs, -, hl, hm, hmm, -, hi⟩
  · simp only [List.cons.injEq, Value.slice.injEq, and_true] at hcs
    obtain ⟨rfl, rfl, rfl⟩ := hcs
    exact ⟨none, [], 0, rfl, Els.nil _ _, ⟨Nat.le_refl _, by decide, fun _ => rfl, fun a ha => (by cases ha)⟩, fun s hs => (by cases hs)⟩
  · simp only [List.cons.injEq, Value.slice.injEq, and_true] at hcs
    obtain ⟨rfl, rfl, rfl⟩ := hcs
    obtain ⟨hsp, hblk⟩ := slice_there6 Try.underlying24 hv
    have hc2 : Try.prog.cellsOf 49 = 1 := by kernel_rfl
    have each : ∀ i, ∃ x : Nat, i < len → (x < 4294967296) ∧ ∀ j, j < elD.z → w.cell? ⟨a'.block, a'.off + i * elD.z + j, none⟩ = (elD.enc x)[j]? := by
      intro i
      by_cases him : i < len
      · obtain ⟨cs', hc, ht'⟩ := hi i (by rw [hmm]; simp only [if_true]; omega)
        rw [hc2, add_spot6 hsp] at hc
        obtain ⟨-, hcl, hat⟩ := World.cells?_some hc
        obtain ⟨c0, rfl⟩ : ∃ c0, cs' = [c0] := by
          match cs', hcl with
          | [c0], _ => exact ⟨_, rfl⟩
        obtain ⟨t, e0, -, w0⟩ := DataW.trod_int (k := .u32) Try.underlying49 ht'
        simp only [List.cons.injEq, and_true] at e0
        subst e0
        refine ⟨t.toNat, fun _ => ⟨u32_lt6 w0, fun j hj => ?_⟩⟩
        match j, hj with
        | 0, _ =>
          show w.cell? _ = some (Value.int .u32 ((t.toNat : Nat) : Int))
          rw [u32_back6 w0]
          exact hat 0 (by omega)
      · exact ⟨0, fun h => absurd h him⟩
    obtain ⟨f, hf'⟩ := Classical.axiomOfChoice each
    refine ⟨some a', (List.range len).map f, cap, by simp, els_of_cells hsp (fun i hi => (hf' i hi).2), ⟨by simpa using hl, Nat.le_trans hm (by decide +kernel), fun h => (by cases h), fun b hb => by cases hb; exact hsp⟩, fun s hs => ?_⟩
    obtain ⟨i, hir, rfl⟩ := List.mem_map.1 hs
    exact (hf' i (List.mem_range.1 hir)).1

set_option maxRecDepth 10000 in
theorem open_node {base : Nat} {v : Value} {d : DataW H} {ps : List MemPlace} (hv : Value.okWide Try.prog w .any base 26 v) (h : DataW.Trod enc Try.prog w 0 (fun _ => true) held 26 v d ps) :
    ∃ n a, v = Nd.v n a ∧ NdIn w n a := by
  have hv' := hv
  obtain ⟨v0, v1, v2, y0, y1, y2, n, rfl, rfl, rfl, h0, h1, h2⟩ := Go.Joins.open_agg3 Try.underlying26 (by kernel_rfl) (by kernel_rfl) hv h
  have hs : Value.okWide Try.prog w .any base 22 v0 ∧ Value.okWide Try.prog w .any base 23 v1 ∧ Value.okWide Try.prog w .any base 24 v2 := by
    simp only [Value.okWide, Try.underlying26] at hv'
    obtain ⟨cs, hcs, -, ts, hts, -, hrow⟩ := hv'
    have ht3 : Try.prog.cellTypes Try.prog.depth 26 = some [22, 23, 24] := by kernel_rfl
    rw [ht3] at hts
    cases hts
    cases hcs
    refine ⟨?_, ?_, ?_⟩
    · obtain ⟨u, hu, hc⟩ := hrow 0 v0 (by simp)
      simp only [List.length_cons, List.length_nil, Nat.reduceAdd, Nat.reduceMod, List.getElem?_cons_zero, Option.some.injEq] at hu
      subst hu
      simp only [Value.okWide, Try.underlying22]
      exact hc
    · obtain ⟨u, hu, hc⟩ := hrow 1 v1 (by simp)
      simp only [List.length_cons, List.length_nil, Nat.reduceAdd, Nat.reduceMod, List.getElem?_cons_succ, List.getElem?_cons_zero, Option.some.injEq] at hu
      subst hu
      simp only [Value.okWide, Try.underlying23]
      exact hc
    · obtain ⟨u, hu, hc⟩ := hrow 2 v2 (by simp)
      simp only [List.length_cons, List.length_nil, Nat.reduceAdd, Nat.reduceMod, List.getElem?_cons_succ, List.getElem?_cons_zero, Option.some.injEq] at hu
      subst hu
      simp only [Value.okWide, Try.underlying24]
      exact hc
  obtain ⟨p, l, lc, rfl, hS, hok, hx⟩ := open_elsP hs.1 h0
  obtain ⟨p', l', lc', rfl, hS', hok', hx'⟩ := open_elsK hs.2.1 h1
  obtain ⟨p'', l'', lc'', rfl, hS'', hok'', hx''⟩ := open_elsD hs.2.2 h2
  exact ⟨⟨l, l', l''⟩, ⟨p, lc, p', lc', p'', lc''⟩, rfl, ⟨⟨hS, hS', hS''⟩, ⟨hok, hok', hok''⟩, hx, hx', hx''⟩⟩
end
end Go.Proofs.Ytalnmaoidaldhaa
