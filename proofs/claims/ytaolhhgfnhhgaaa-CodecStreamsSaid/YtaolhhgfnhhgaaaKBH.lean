/- What comes in: a command, an answer, a slice of texts. -/
import Derived.Lib.SmallJoins
import Derived.Deep.Strs
import Derived.Test.YtaolhhgfnhhgaaaKC0
import Derived.Test.YtaolhhgfnhhgaaaKN1
import Derived.Test.YtaolhhgfnhhgaaaKCY
namespace Go.Proofs.Ytaolhhgfnhhgaaa
open Go.ChangeShapes Go.WideShapes Go.ChangeAt Go.RowKit

theorem cells_six {α : Type} {cs : Array α} (h : cs.size = 6) : ∃ c0 c1 c2 c3 c4 c5, cs = #[c0, c1, c2, c3, c4, c5] := by
  obtain ⟨l⟩ := cs
  match l, h with
  | [c0, c1, c2, c3, c4, c5], _ => exact ⟨c0, c1, c2, c3, c4, c5, rfl⟩
theorem cells_three {α : Type} {cs : Array α} (h : cs.size = 3) : ∃ c0 c1 c2, cs = #[c0, c1, c2] := by
  obtain ⟨l⟩ := cs
  match l, h with
  | [c0, c1, c2], _ => exact ⟨c0, c1, c2, rfl⟩
section
variable {H : Type} {enc : TypeId × Value → H} {w : World} {held : Bool}
set_option maxRecDepth 10000 in
theorem open_cmd {base : Nat} {v : Value} {d : DataW H} {ps : List MemPlace} (hv : Value.okWide Try.prog w .any base 25 v) (h : DataW.Trod enc Try.prog w 0 (fun _ => true) held 25 v d ps) : ∃ m : Cm, v = m.v ∧ m.Ok := by
  obtain ⟨cs, rfl, hsz⟩ := okWide_struct Try.underlying25 hv
  have hC : Try.prog.cellsOf 25 = 6 := by kernel_rfl
  have hi : Try.prog.cellsOf 3 = 1 := by kernel_rfl
  have h32 : Try.prog.cellsOf 22 = 1 := by kernel_rfl
  have h64 : Try.prog.cellsOf 2 = 1 := by kernel_rfl
  have h16 : Try.prog.cellsOf 23 = 1 := by kernel_rfl
  obtain ⟨c0, c1, c2, c3, c4, c5, rfl⟩ := cells_six (hsz.trans hC)
  obtain ⟨fuel, hf⟩ := h
  obtain ⟨xs, n, -, -, -, hlen, hfs⟩ := DataW.trod_struct Try.underlying25 hf
  match xs, hlen with
  | [y0, y1, y2, y3, y4, y5], _ =>
    have h0 : DataW.trod enc Try.prog w 0 (fun _ => true) held n 3 [c0] = some y0 := by have := hfs 0 _ rfl; simpa [Value.cells, hi] using this
    have h1 : DataW.trod enc Try.prog w 0 (fun _ => true) held n 22 [c1] = some y1 := by have := hfs 1 _ rfl; simpa [Value.cells, hi, h32] using this
    have h2 : DataW.trod enc Try.prog w 0 (fun _ => true) held n 22 [c2] = some y2 := by have := hfs 2 _ rfl; simpa [Value.cells, hi, h32] using this
    have h3 : DataW.trod enc Try.prog w 0 (fun _ => true) held n 23 [c3] = some y3 := by have := hfs 3 _ rfl; simpa [Value.cells, hi, h32, h16] using this
    have h4 : DataW.trod enc Try.prog w 0 (fun _ => true) held n 2 [c4] = some y4 := by have := hfs 4 _ rfl; simpa [Value.cells, hi, h32, h16, h64] using this
    have h5 : DataW.trod enc Try.prog w 0 (fun _ => true) held n 2 [c5] = some y5 := by have := hfs 5 _ rfl; simpa [Value.cells, hi, h32, h16, h64] using this
    obtain ⟨a0, e0, -, w0⟩ := DataW.trod_int (k := .i64) Try.underlying3 h0
    obtain ⟨a1, e1, -, w1⟩ := DataW.trod_int (k := .u32) Try.underlying22 h1
    obtain ⟨a2, e2, -, w2⟩ := DataW.trod_int (k := .u32) Try.underlying22 h2
    obtain ⟨a3, e3, -, w3⟩ := DataW.trod_int (k := .u16) Try.underlying23 h3
    obtain ⟨a4, e4, -, w4⟩ := DataW.trod_int (k := .i64) Try.underlying2 h4
    obtain ⟨a5, e5, -, w5⟩ := DataW.trod_int (k := .i64) Try.underlying2 h5
    simp only [List.cons.injEq, and_true] at e0 e1 e2 e3 e4 e5
    subst e0 e1 e2 e3 e4 e5
    refine ⟨⟨a0, a1.toNat, a2.toNat, a3.toNat, a4, a5⟩, ?_, ⟨i64_wf w0, (wf_u32 w1).1, (wf_u32 w2).1, (wf_u16 w3).1, i64_wf w4, i64_wf w5⟩⟩
    unfold Cm.v
    dsimp only
    rw [(wf_u32 w1).2, (wf_u32 w2).2, (wf_u16 w3).2]
set_option maxRecDepth 10000 in
theorem open_aw {base : Nat} {v : Value} {d : DataW H} {ps : List MemPlace} (hv : Value.okWide Try.prog w .any base 28 v) (h : DataW.Trod enc Try.prog w 0 (fun _ => true) held 28 v d ps) : ∃ m : Aw, v = m.v ∧ m.Ok := by
  obtain ⟨cs, rfl, hsz⟩ := okWide_struct Try.underlying28 hv
  have hC : Try.prog.cellsOf 28 = 3 := by kernel_rfl
  have hi : Try.prog.cellsOf 26 = 1 := by kernel_rfl
  have h64 : Try.prog.cellsOf 2 = 1 := by kernel_rfl
  obtain ⟨c0, c1, c2, rfl⟩ := cells_three (hsz.trans hC)
  obtain ⟨fuel, hf⟩ := h
  obtain ⟨xs, n, -, -, -, hlen, hfs⟩ := DataW.trod_struct Try.underlying28 hf
  match xs, hlen with
  | [y0, y1, y2], _ =>
    have h0 : DataW.trod enc Try.prog w 0 (fun _ => true) held n 26 [c0] = some y0 := by have := hfs 0 _ rfl; simpa [Value.cells, hi] using this
    have h1 : DataW.trod enc Try.prog w 0 (fun _ => true) held n 2 [c1] = some y1 := by have := hfs 1 _ rfl; simpa [Value.cells, hi, h64] using this
    have h2 : DataW.trod enc Try.prog w 0 (fun _ => true) held n 2 [c2] = some y2 := by have := hfs 2 _ rfl; simpa [Value.cells, hi, h64] using this
    obtain ⟨a0, e0, -, w0⟩ := DataW.trod_int (k := .i64) Try.underlying26 h0
    obtain ⟨a1, e1, -, w1⟩ := DataW.trod_int (k := .i64) Try.underlying2 h1
    obtain ⟨a2, e2, -, w2⟩ := DataW.trod_int (k := .i64) Try.underlying2 h2
    simp only [List.cons.injEq, and_true] at e0 e1 e2
    subst e0 e1 e2
    exact ⟨⟨a0, a1, a2⟩, rfl, ⟨i64_wf w0, i64_wf w1, i64_wf w2⟩⟩
set_option maxRecDepth 10000 in
theorem open_texts {base : Nat} {v : Value} {d : DataW H} {ps : List MemPlace} (hv : Value.okWide Try.prog w .any base 40 v) (h : DataW.Trod enc Try.prog w 0 (fun _ => true) held 40 v d ps) :
    ∃ p l lc, v = .slice p (List.length l) lc ∧ Els elK w p l ∧ (∀ x ∈ l, x.length ≤ 9223372036854775807) ∧ l.length ≤ 9223372036854775807 := by
  obtain ⟨a, len, cap, rfl⟩ := okWide_slice Try.underlying40 hv
  obtain ⟨fuel, hf⟩ := h
  rcases Go.Deep.open_slice Try.underlying40 hf with ⟨hcs, -⟩ | ⟨a', len', cap', m, n, D, Pl, hcs, -, hl, hm, hmm, -, hi⟩
  · simp only [Value.cells, List.cons.injEq, Value.slice.injEq, and_true] at hcs
    obtain ⟨rfl, rfl, rfl⟩ := hcs
    exact ⟨none, [], 0, rfl, Els.nil _ _, fun x hx => (by cases hx), by decide⟩
  · simp only [Value.cells, List.cons.injEq, Value.slice.injEq, and_true] at hcs
    obtain ⟨rfl, rfl, rfl⟩ := hcs
    obtain ⟨hsp, hblk⟩ := slice_there' Try.underlying40 hv
    have hc4 : Try.prog.cellsOf 9 = 1 := by kernel_rfl
    have each : ∀ i, ∃ x : List UInt8, i < len → x.length ≤ 9223372036854775807 ∧ w.cell? ⟨a'.block, a'.off + i, none⟩ = some (.string ⟨x.toArray⟩) := by
      intro i
      by_cases him : i < len
      · obtain ⟨cs', hc, ht'⟩ := hi i (by rw [hmm]; simp only [if_true]; omega)
        rw [hc4, add_spot' hsp, Nat.mul_one] at hc
        obtain ⟨-, hcl, hat⟩ := World.cells?_some hc
        obtain ⟨c0, rfl⟩ : ∃ c0, cs' = [c0] := by
          match cs', hcl with
          | [c0], _ => exact ⟨_, rfl⟩
        obtain ⟨t, e0, -, w0⟩ := DataW.trod_string Try.underlying9 ht'
        simp only [List.cons.injEq, and_true] at e0
        subst e0
        exact ⟨t.data.toList, fun _ => ⟨Nat.le_trans (Nat.le_of_eq Array.length_toList) (Nat.le_trans w0 (by decide +kernel)), hat 0 (by omega)⟩⟩
      · exact ⟨[], fun h => absurd h him⟩
    obtain ⟨f, hf'⟩ := Classical.axiomOfChoice each
    refine ⟨some a', (List.range len).map f, cap, by simp, fun _ => ⟨a'.block, a'.off, ?_, fun i j hi hj => ?_⟩, fun x hx => ?_, ?_⟩
    · cases a'; simp only at hsp; subst hsp; rfl
    · have hj0 : j = 0 := Nat.lt_one_iff.1 hj
      subst hj0
      have hlt : i < len := by simpa using hi
      have h1 := (hf' i hlt).2
      rw [show a'.off + i * elK.z + 0 = a'.off + i by rw [show elK.z = 1 from rfl]; omega, h1]
      simp [List.getD, hlt, elK, sv]
    · obtain ⟨i, hi', rfl⟩ := List.mem_map.1 hx
      exact (hf' i (List.mem_range.1 hi')).1
    · simp only [List.length_map, List.length_range]
      exact Nat.le_trans hl (Nat.le_trans hm (by decide +kernel))
end
end Go.Proofs.Ytaolhhgfnhhgaaa
