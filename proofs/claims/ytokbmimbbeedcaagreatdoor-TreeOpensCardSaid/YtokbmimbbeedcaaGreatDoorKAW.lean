/- What comes in: an alloc, spares. -/
import Derived.Lib.SmallJoins
import Derived.Deep.Strs
import Derived.Test.YtokbmimbbeedcaaGreatDoorKA4
import Derived.Test.YtokbmimbbeedcaaGreatDoorKMQ
namespace Go.Proofs.YtokbmimbbeedcaaGreatDoor
open Go.ChangeShapes Go.WideShapes Go.ChangeAt Go.RowKit

theorem u32_lt {z : Int} (h : (Lit.int IntKind.u32 z).wf = true) : z.toNat < 4294967296 := by
  have h0 := (Lit.wf_int_iff .u32 z).1 h
  simp [IntKind.min, IntKind.signed, IntKind.max, IntKind.bits] at h0
  omega
theorem u32_back {z : Int} (h : (Lit.int IntKind.u32 z).wf = true) : ((z.toNat : Nat) : Int) = z := by
  have h0 := (Lit.wf_int_iff .u32 z).1 h
  simp [IntKind.min, IntKind.signed, IntKind.max, IntKind.bits] at h0
  omega

section
variable {H : Type} {enc : TypeId × Value → H} {w : World} {held : Bool}

set_option maxRecDepth 10000 in
theorem open_spares {base fuel : Nat} {v : Value} {x : DataW H × List MemPlace} (hv : Value.okWide Tryz.prog w .any base 32 v) (hf : DataW.trod enc Tryz.prog w 0 (fun _ => true) held fuel 32 [v] = some x) :
    ∃ p l lc, v = .slice p (List.length l) lc ∧ Sps w p l ∧ (∀ a, p = some a → a.block < w.heap.size) ∧ (∀ a, p = some a → a.spot = none) ∧ (p = none → lc = 0) ∧ (∀ s ∈ l, s.Ok) ∧ l.length ≤ lc ∧ lc ≤ 9223372036854775807 := by
  obtain ⟨a, len, cap, rfl⟩ := okWide_slice Tryz.underlying32 hv
  rcases Go.Deep.open_slice Tryz.underlying32 hf with ⟨hcs, -⟩ | ⟨a', len', cap', m, n, D, Pl, hcs, -, hl, hm, hmm, -, hi⟩
  · simp only [List.cons.injEq, Value.slice.injEq, and_true] at hcs
    obtain ⟨rfl, rfl, rfl⟩ := hcs
    exact ⟨none, [], 0, rfl, fun h => absurd rfl h, fun a ha => (by cases ha), fun a ha => (by cases ha), fun _ => rfl, fun s hs => (by cases hs), Nat.le_refl _, by decide⟩
  · simp only [List.cons.injEq, Value.slice.injEq, and_true] at hcs
    obtain ⟨rfl, rfl, rfl⟩ := hcs
    obtain ⟨hsp, hblk⟩ := slice_there Tryz.underlying32 hv
    have hc2 : Tryz.prog.cellsOf 70 = 2 := by kernel_rfl
    have each : ∀ i, ∃ x : Sp, i < len → x.Ok ∧ w.cell? ⟨a'.block, a'.off + i * 2, none⟩ = some (.int .u32 x.page) ∧ w.cell? ⟨a'.block, a'.off + i * 2 + 1, none⟩ = some (.int .u64 x.tx) := by
      intro i
      by_cases him : i < len
      · obtain ⟨cs', hc, ht'⟩ := hi i (by rw [hmm]; simp only [if_true]; omega)
        rw [hc2, add_spot hsp] at hc
        obtain ⟨-, hcl, hat⟩ := World.cells?_some hc
        obtain ⟨y0, y1, n', -, hlen, h0, h1⟩ := trod_struct2 Tryz.underlying70 ht'
        obtain ⟨c0, c1, rfl⟩ : ∃ c0 c1, cs' = [c0, c1] := by
          match cs', hcl with
          | [c0, c1], _ => exact ⟨_, _, rfl⟩
        obtain ⟨x, e0, -, w0⟩ := DataW.trod_int (k := .u32) Tryz.underlying23 h0
        obtain ⟨y, e1, -, w1⟩ := DataW.trod_int (k := .u64) Tryz.underlying35 h1
        have k64 : Tryz.prog.cellsOf 35 = 1 := by kernel_rfl
        have k32 : Tryz.prog.cellsOf 23 = 1 := by kernel_rfl
        simp [k64] at e1
        simp [k32] at e0
        subst e0 e1
        refine ⟨⟨x.toNat, y.toNat⟩, fun _ => ⟨⟨u32_lt w0, u64_lt w1⟩, ?_, ?_⟩⟩
        · show w.cell? _ = some (Value.int .u32 ((x.toNat : Nat) : Int))
          rw [u32_back w0]; exact hat 0 (by omega)
        · show w.cell? _ = some (Value.int .u64 ((y.toNat : Nat) : Int))
          rw [u64_back w1]; exact hat 1 (by omega)
      · exact ⟨Sp.zero, fun h => absurd h him⟩
    obtain ⟨f, hf'⟩ := Classical.axiomOfChoice each
    refine ⟨some a', (List.range len).map f, cap, by simp, fun _ => ⟨a'.block, a'.off, ?_, fun i hx => ?_⟩, fun b hb => by cases hb; exact hblk, fun b hb => by cases hb; exact hsp, fun h => (by cases h), fun s hs => ?_, by simpa using hl, Nat.le_trans hm (by decide +kernel)⟩
    · cases a'; simp only at hsp; subst hsp; rfl
    · have hlt : i < len := by simpa using hx
      have hg : ((List.range len).map f).getD i Sp.zero = f i := by simp [List.getD, hlt]
      rw [hg]
      exact (hf' i hlt).2
    · obtain ⟨i, hir, rfl⟩ := List.mem_map.1 hs
      exact (hf' i (List.mem_range.1 hir)).1

set_option maxRecDepth 10000 in
theorem open_alloc {base : Nat} {v : Value} {d : DataW H} {ps : List MemPlace} (hv : Value.okWide Tryz.prog w .any base 34 v) (h : DataW.Trod enc Tryz.prog w 0 (fun _ => true) held 34 v d ps) :
    ∃ a p c, v = Al.v a p c ∧ AlIn w a p c := by
  have hv' := hv
  obtain ⟨v0, v1, v2, y0, y1, y2, n, rfl, rfl, rfl, h0, h1, h2⟩ := Go.Joins.open_agg3 Tryz.underlying34 (by kernel_rfl) (by kernel_rfl) hv h
  obtain ⟨x, e0, -, w0⟩ := DataW.trod_int (k := .u32) Tryz.underlying23 h0
  obtain ⟨y, e1, -, w1⟩ := DataW.trod_int (k := .u32) Tryz.underlying23 h1
  simp only [List.cons.injEq, and_true] at e0 e1
  subst e0 e1
  have hs : Value.okWide Tryz.prog w .any base 32 v2 := by
    simp only [Value.okWide, Tryz.underlying34] at hv'
    obtain ⟨cs, hcs, -, ts, hts, -, hrow⟩ := hv'
    have ht3 : Tryz.prog.cellTypes Tryz.prog.depth 34 = some [23, 23, 32] := by kernel_rfl
    rw [ht3] at hts
    cases hts
    cases hcs
    obtain ⟨u, hu, hc⟩ := hrow 2 v2 (by simp)
    simp only [List.length_cons, List.length_nil, Nat.reduceAdd, Nat.reduceMod, List.getElem?_cons_succ, List.getElem?_cons_zero, Option.some.injEq] at hu
    subst hu
    simp only [Value.okWide, Tryz.underlying32]
    exact hc
  obtain ⟨p, l, lc, rfl, hS, -, hsp, hnil, hok, hlc, hcm⟩ := open_spares hs h2
  refine ⟨⟨x.toNat, y.toNat, l⟩, p, lc, ?_, ⟨hS, hlc, hcm, hnil, hsp, u32_lt w0, u32_lt w1, hok⟩⟩
  simp only [Al.v, u32_back w0, u32_back w1]
end
end Go.Proofs.YtokbmimbbeedcaaGreatDoor
