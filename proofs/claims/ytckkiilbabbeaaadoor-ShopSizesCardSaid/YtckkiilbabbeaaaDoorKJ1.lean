/- Accounts: the document's own Right, Deposit, Withdraw, Spend, Earn. -/
import Derived.OwnWalk
import Derived.Test.YtckkiilbabbeaaaDoorKC3
namespace Go.Proofs.YtckkiilbabbeaaaDoor
open Go Go.RowKit Sm
attribute [local go_sem] Oper.semAt_some

theorem info_acc : (Tryd.prog.info? 37).map (·.size) = some 2 := by kernel_rfl
theorem results_acc2 {fn : Func} {p q : Tmp} {tmps : Array Value} {w : World} {g : Nat} {x0 x1 y : Value} (h : fn.results = #[.cell p 37, .tmp q]) (hp : tmps.getD p undef = .pointer (some ⟨g, 0, none⟩)) (hq : tmps.getD q undef = y) (hg : w.heap[g]? = some (.cells #[x0, x1] 37 (0, 0))) :
    (results fn tmps).run Tryd.prog w = .ok (.tuple #[.agg #[x0, x1], y]) w := by
  rw [results_cell_tmp h]
  have hp' : tmps[p]?.getD undef = .pointer (some ⟨g, 0, none⟩) := by simpa using hp
  have hq' : tmps[q]?.getD undef = y := by simpa using hq
  simp [hp', hq', asAddr, run_loadVar_row w g 37 37 #[x0, x1] (0, 0) _ hg Tryd.underlying37 rfl info_acc]
theorem pk2 {w : World} {g : Nat} {a0 a1 : Value} {t : TypeId} (h : w.heap[g]? = some (.cells #[a0, a1] t (0, 0))) :
    (w.cell? ⟨g, 0, none⟩ = some a0 ∧ w.cell? ⟨g, 1, none⟩ = some a1) ∧ (w.frozen? ⟨g, 0, none⟩ = false ∧ w.frozen? ⟨g, 1, none⟩ = false) := by
  have h' : w.heap[g]? = some (.cells [a0, a1].toArray t (0, 0)) := h
  exact ⟨⟨cell_whole h' 0, cell_whole h' 1⟩, frozen_whole h _, frozen_whole h _⟩
theorem st2 {w : World} {g : Nat} {a0 a1 : Value} {t : TypeId} (h : w.heap[g]? = some (.cells #[a0, a1] t (0, 0))) (v0 v1 : Value) :
    ((w.setCell ⟨g, 0, none⟩ v0).setCell ⟨g, 1, none⟩ v1).heap[g]? = some (.cells #[v0, v1] t (0, 0)) :=
  heap_setCell_at (heap_setCell_at h 0 v0) 1 v1
theorem tn2 {B : Nat} {w0 w : World} {g : Nat} (h : Below B w0 w) (hg : B ≤ g) (v0 v1 : Value) : Below B w0 ((w.setCell ⟨g, 0, none⟩ v0).setCell ⟨g, 1, none⟩ v1) := (h.setCell hg v0).setCell hg v1

/-- An account's box, and the result's, behind calls. -/
structure AcB (w W : World) (a b : Int) : Prop where
  box : W.heap[w.heap.size]? = some (.cells #[.int .i64 a, .int .i64 b] 37 (0, 0))
  res : W.heap[w.heap.size + 1]? = some (.cells #[.int .i64 0, .int .i64 0] 37 (0, 0))
  below : Below w.heap.size w W
theorem AcB.new (w : World) (a b : Int) : AcB w ((w.alloc (.cells #[.int .i64 a, .int .i64 b] 37)).alloc (.cells #[.int .i64 0, .int .i64 0] 37)) a b :=
  ⟨heap_alloc2_old _ _ _, heap_alloc2_new _ _ _, below_al (below_al (Below.refl _ _) _) _⟩
theorem AcB.after {w W W' : World} {a b : Int} (h : AcB w W a b) (hb : Below W.heap.size W W') : AcB w W' a b :=
  ⟨(hb.block _ (lt_of_heap h.box)).trans h.box, (hb.block _ (lt_of_heap h.res)).trans h.res, bc_then h.below hb⟩

set_option maxRecDepth 20000 in
theorem refrightA_any (a : Ac) (ha : a.Ok) (w : World) : Calls Tryd.prog 56 #[a.v] w fun e w' => e = .returned (.bool (rightA a)) ∧ Below w.heap.size w w' := by
  have HA : Veil _ := ⟨fun w => refaddA_any a.w a.b ha.w ha.b w⟩
  have HR : Veil (rightA a = decide ((addA a.w a.b).2 = 0)) := ⟨rfl⟩
  rw [HR.out]
  clear HR
  generalize addA a.w a.b = x at HA
  obtain ⟨v, c⟩ := x
  obtain ⟨W, B⟩ := a
  unfold Ac.v
  dsimp only at *
  clear ha
  by_cases hc : c = 0
  · subst hc
    go_enter Tryd.func56, Tryd.ntmps56
    go_wp2_with (go_at_call 71; refine (HA.out _).mono ?_; rintro e w1 ⟨rfl, hb1⟩)
    go_ret
    exact ⟨rfl, bc_then (below_al (Below.refl _ _) _) hb1⟩
  · have hcb : (c == 0) = false := by simpa using hc
    rw [decide_eq_false hc]
    go_enter Tryd.func56, Tryd.ntmps56
    go_wp2_with (go_at_call 71; refine (HA.out _).mono ?_; rintro e w1 ⟨rfl, hb1⟩)
    go_ret
    exact ⟨rfl, bc_then (below_al (Below.refl _ _) _) hb1⟩

set_option maxRecDepth 20000 in
set_option maxHeartbeats 1000000 in
theorem refspendA_any (a : Ac) (ha : a.Ok) (n : Int) (hn : I64 n) (w : World) : Calls Tryd.prog 57 #[a.v, .int .i64 n] w fun e w' => e = .returned (.tuple #[(spendA a n).1.v, .int .i64 (spendA a n).2]) ∧ Below w.heap.size w w' := by
  have HM : Veil _ := ⟨fun w => refsubA_any a.w n ha.w hn w⟩
  have HR : Veil _ := ⟨fun w => refrightA_any a ha w⟩
  have HD : Veil (spendA a n = if rightA a then (if (subA a.w n).2 = 0 then (⟨(subA a.w n).1, a.b⟩, 0) else (Ac.zero, (subA a.w n).2)) else (Ac.zero, 130)) := ⟨rfl⟩
  rw [HD.out]
  clear HD
  generalize subA a.w n = x at HM
  generalize rightA a = r at HR
  obtain ⟨v, c⟩ := x
  obtain ⟨W, B⟩ := a
  unfold Ac.v at *
  dsimp only at *
  clear ha hn
  cases r
  · rw [if_neg (by decide)]
    go_enter Tryd.func57, Tryd.ntmps57
    go_wp2_with (go_at_call 56; refine (HR.out _).mono ?_; rintro e w1 ⟨rfl, hb1⟩; have HB : Veil _ := ⟨(AcB.new w W B).after hb1⟩; obtain ⟨⟨c0, c1⟩, -⟩ := pk2 HB.out.box; obtain ⟨⟨y0, y1⟩, f0, f1⟩ := pk2 HB.out.res)
    exact bodyPost_ret (results_acc2 (g := w.heap.size + 1) rfl rfl rfl (st2 HB.out.res _ _)) rfl ⟨rfl, tn2 HB.out.below (by omega) _ _⟩
  · rw [if_pos rfl]
    by_cases hc : c = 0
    · subst hc
      rw [if_pos rfl]
      go_enter Tryd.func57, Tryd.ntmps57
      go_wp2_with (first
        | (go_at_call 72; refine (HM.out _).mono ?_; rintro e w2 ⟨rfl, hb2⟩; have HB : Veil _ := ⟨HB.out.after hb2⟩; obtain ⟨⟨c0, c1⟩, -⟩ := pk2 HB.out.box; obtain ⟨⟨y0, y1⟩, f0, f1⟩ := pk2 HB.out.res)
        | (go_at_call 56; refine (HR.out _).mono ?_; rintro e w1 ⟨rfl, hb1⟩; have HB : Veil _ := ⟨(AcB.new w W B).after hb1⟩; obtain ⟨⟨c0, c1⟩, -⟩ := pk2 HB.out.box; obtain ⟨⟨y0, y1⟩, f0, f1⟩ := pk2 HB.out.res))
      exact bodyPost_ret (results_acc2 (g := w.heap.size + 1) rfl rfl rfl (st2 HB.out.res _ _)) rfl ⟨rfl, tn2 HB.out.below (by omega) _ _⟩
    · rw [if_neg hc]
      go_enter Tryd.func57, Tryd.ntmps57
      go_wp2_with (first
        | (go_at_call 72; refine (HM.out _).mono ?_; rintro e w2 ⟨rfl, hb2⟩; have HB : Veil _ := ⟨HB.out.after hb2⟩; obtain ⟨⟨c0, c1⟩, -⟩ := pk2 HB.out.box; obtain ⟨⟨y0, y1⟩, f0, f1⟩ := pk2 HB.out.res)
        | (go_at_call 56; refine (HR.out _).mono ?_; rintro e w1 ⟨rfl, hb1⟩; have HB : Veil _ := ⟨(AcB.new w W B).after hb1⟩; obtain ⟨⟨c0, c1⟩, -⟩ := pk2 HB.out.box; obtain ⟨⟨y0, y1⟩, f0, f1⟩ := pk2 HB.out.res))
      exact bodyPost_ret (results_acc2 (g := w.heap.size + 1) rfl rfl rfl (st2 HB.out.res _ _)) rfl ⟨rfl, tn2 HB.out.below (by omega) _ _⟩
end Go.Proofs.YtckkiilbabbeaaaDoor
