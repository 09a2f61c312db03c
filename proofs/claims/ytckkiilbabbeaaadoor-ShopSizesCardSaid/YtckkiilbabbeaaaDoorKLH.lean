/- What comes in: a listing. -/
import Derived.Lib.SmallJoins
import Derived.Deep.Strs
import Derived.Test.YtckkiilbabbeaaaDoorKK0
import Derived.Test.YtckkiilbabbeaaaDoorKI85
import Derived.Test.YtckkiilbabbeaaaDoorKCY
namespace Go.Proofs.YtckkiilbabbeaaaDoor
open Go.ChangeShapes Go.WideShapes Go.ChangeAt Go.RowKit

theorem listing_four {α : Type} {cs : Array α} (h : cs.size = 4) : ∃ c0 c1 c2 c3, cs = #[c0, c1, c2, c3] := by
  obtain ⟨l⟩ := cs
  match l, h with
  | [c0, c1, c2, c3], _ => exact ⟨c0, c1, c2, c3, rfl⟩
section
variable {H : Type} {enc : TypeId × Value → H} {w : World} {held : Bool}
set_option maxRecDepth 10000 in
theorem open_listing {base : Nat} {v : Value} {d : DataW H} {ps : List MemPlace} (hv : Value.okWide Tryd.prog w .any base 27 v) (h : DataW.Trod enc Tryd.prog w 0 (fun _ => true) held 27 v d ps) : ∃ m : Li, v = m.v ∧ m.Ok := by
  obtain ⟨cs, rfl, hsz⟩ := okWide_struct Tryd.underlying27 hv
  have hC : Tryd.prog.cellsOf 27 = 4 := by kernel_rfl
  have hS : Tryd.prog.cellsOf 25 = 2 := by kernel_rfl
  have h32 : Tryd.prog.cellsOf 22 = 1 := by kernel_rfl
  have h64 : Tryd.prog.cellsOf 2 = 1 := by kernel_rfl
  have h16 : Tryd.prog.cellsOf 23 = 1 := by kernel_rfl
  obtain ⟨c0, c1, c2, c3, rfl⟩ := listing_four (hsz.trans hC)
  obtain ⟨fuel, hf⟩ := h
  obtain ⟨xs, n, -, -, -, hlen, hfs⟩ := DataW.trod_struct Tryd.underlying27 hf
  match xs, hlen with
  | [y0, y1, y2], _ =>
    have h0 : DataW.trod enc Tryd.prog w 0 (fun _ => true) held n 22 [c0] = some y0 := by have := hfs 0 _ rfl; simpa [Value.cells, h32] using this
    have h2 : DataW.trod enc Tryd.prog w 0 (fun _ => true) held n 25 [c1, c2] = some y1 := by have := hfs 1 _ rfl; simpa [Value.cells, hS] using this
    have h1 : DataW.trod enc Tryd.prog w 0 (fun _ => true) held n 2 [c3] = some y2 := by have := hfs 2 _ rfl; simpa [Value.cells, h64] using this
    obtain ⟨zs, n2, -, -, -, hlen2, hgs⟩ := DataW.trod_struct Tryd.underlying25 h2
    match zs, hlen2 with
    | [z0, z1], _ =>
      have g0 : DataW.trod enc Tryd.prog w 0 (fun _ => true) held n2 23 [c1] = some z0 := by have := hgs 0 _ rfl; simpa [h16] using this
      have g1 : DataW.trod enc Tryd.prog w 0 (fun _ => true) held n2 2 [c2] = some z1 := by have := hgs 1 _ rfl; simpa [h64] using this
      obtain ⟨a0, e0, -, w0⟩ := DataW.trod_int (k := .u32) Tryd.underlying22 h0
      obtain ⟨a1, e1, -, w1⟩ := DataW.trod_int (k := .i64) Tryd.underlying2 h1
      obtain ⟨a2, e2, -, w2⟩ := DataW.trod_int (k := .u16) Tryd.underlying23 g0
      obtain ⟨a3, e3, -, w3⟩ := DataW.trod_int (k := .i64) Tryd.underlying2 g1
      simp only [List.cons.injEq, and_true] at e0 e1 e2 e3
      subst e0 e1 e2 e3
      refine ⟨⟨a0.toNat, a2.toNat, a3, a1⟩, ?_, ⟨(wf_u32 w0).1, (wf_u16 w2).1, i64_wf w3, i64_wf w1⟩⟩
      unfold Li.v
      dsimp only
      rw [(wf_u32 w0).2, (wf_u16 w2).2]
end
end Go.Proofs.YtckkiilbabbeaaaDoor
