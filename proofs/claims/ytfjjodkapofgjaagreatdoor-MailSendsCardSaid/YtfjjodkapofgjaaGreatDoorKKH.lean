/- What comes in: a mail. -/
import Derived.Lib.SmallJoins
import Derived.Deep.Strs
import Derived.Test.YtfjjodkapofgjaaGreatDoorKK0
import Derived.Test.YtfjjodkapofgjaaGreatDoorKI85
import Derived.Test.YtfjjodkapofgjaaGreatDoorKC6
namespace Go.Proofs.YtfjjodkapofgjaaGreatDoor
open Go.ChangeShapes Go.WideShapes Go.ChangeAt Go.RowKit

theorem mail_four {α : Type} {cs : Array α} (h : cs.size = 4) : ∃ c0 c1 c2 c3, cs = #[c0, c1, c2, c3] := by
  obtain ⟨l⟩ := cs
  match l, h with
  | [c0, c1, c2, c3], _ => exact ⟨c0, c1, c2, c3, rfl⟩
section
variable {H : Type} {enc : TypeId × Value → H} {w : World} {held : Bool}
set_option maxRecDepth 10000 in
theorem open_mail {base : Nat} {v : Value} {d : DataW H} {ps : List MemPlace} (hv : Value.okWide Tryz.prog w .any base 30 v) (h : DataW.Trod enc Tryz.prog w 0 (fun _ => true) held 30 v d ps) : ∃ m : Ml, v = m.v ∧ m.Ok := by
  obtain ⟨cs, rfl, hsz⟩ := okWide_struct Tryz.underlying30 hv
  have hC : Tryz.prog.cellsOf 30 = 4 := by kernel_rfl
  have hS : Tryz.prog.cellsOf 28 = 2 := by kernel_rfl
  have h32 : Tryz.prog.cellsOf 25 = 1 := by kernel_rfl
  have h64 : Tryz.prog.cellsOf 2 = 1 := by kernel_rfl
  have h16 : Tryz.prog.cellsOf 26 = 1 := by kernel_rfl
  obtain ⟨c0, c1, c2, c3, rfl⟩ := mail_four (hsz.trans hC)
  obtain ⟨fuel, hf⟩ := h
  obtain ⟨xs, n, -, -, -, hlen, hfs⟩ := DataW.trod_struct Tryz.underlying30 hf
  match xs, hlen with
  | [y0, y1, y2], _ =>
    have h0 : DataW.trod enc Tryz.prog w 0 (fun _ => true) held n 25 [c0] = some y0 := by have := hfs 0 _ rfl; simpa [Value.cells, h32] using this
    have h1 : DataW.trod enc Tryz.prog w 0 (fun _ => true) held n 2 [c1] = some y1 := by have := hfs 1 _ rfl; simpa [Value.cells, h64] using this
    have h2 : DataW.trod enc Tryz.prog w 0 (fun _ => true) held n 28 [c2, c3] = some y2 := by have := hfs 2 _ rfl; simpa [Value.cells, hS] using this
    obtain ⟨zs, n2, -, -, -, hlen2, hgs⟩ := DataW.trod_struct Tryz.underlying28 h2
    match zs, hlen2 with
    | [z0, z1], _ =>
      have g0 : DataW.trod enc Tryz.prog w 0 (fun _ => true) held n2 26 [c2] = some z0 := by have := hgs 0 _ rfl; simpa [h16] using this
      have g1 : DataW.trod enc Tryz.prog w 0 (fun _ => true) held n2 2 [c3] = some z1 := by have := hgs 1 _ rfl; simpa [h64] using this
      obtain ⟨a0, e0, -, w0⟩ := DataW.trod_int (k := .u32) Tryz.underlying25 h0
      obtain ⟨a1, e1, -, w1⟩ := DataW.trod_int (k := .i64) Tryz.underlying2 h1
      obtain ⟨a2, e2, -, w2⟩ := DataW.trod_int (k := .u16) Tryz.underlying26 g0
      obtain ⟨a3, e3, -, w3⟩ := DataW.trod_int (k := .i64) Tryz.underlying2 g1
      simp only [List.cons.injEq, and_true] at e0 e1 e2 e3
      subst e0 e1 e2 e3
      refine ⟨⟨a0.toNat, a1, a2.toNat, a3⟩, ?_, ⟨(wf_u32 w0).1, i64_wf w1, (wf_u16 w2).1, i64_wf w3⟩⟩
      unfold Ml.v
      dsimp only
      rw [(wf_u32 w0).2, (wf_u16 w2).2]
end
end Go.Proofs.YtfjjodkapofgjaaGreatDoor
