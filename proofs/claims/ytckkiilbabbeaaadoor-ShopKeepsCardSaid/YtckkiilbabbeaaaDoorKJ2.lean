/- Accounts: the document's own Earn, Bytes, Parse. -/
import Derived.Deep.RegionHeld3
import Derived.Test.YtckkiilbabbeaaaDoorKJ1
namespace Go.Proofs.YtckkiilbabbeaaaDoor
open Go Go.RowKit Sm
attribute [local go_sem] Oper.semAt_some

theorem i64_am {n : Int} (h : amt n = true) : I64 n := by rw [amt_iff] at h; unfold I64; omega
set_option maxRecDepth 20000 in
set_option maxHeartbeats 1000000 in
theorem refearnA_any (a : Ac) (ha : a.Ok) (n : Int) (hn : I64 n) (w : World) : Calls Tryd.prog 58 #[a.v, .int .i64 n] w fun e w' => e = .returned (.tuple #[(earnA a n).1.v, .int .i64 (earnA a n).2]) ∧ Below w.heap.size w w' := by
  have HM : Veil _ := ⟨fun w => refaddA_any a.w n ha.w hn w⟩
  have HN : Veil _ := ⟨fun w => refaddA_any (addA a.w n).1 a.b (i64_am (addA_amt _ _)) ha.b w⟩
  have HR : Veil _ := ⟨fun w => refrightA_any a ha w⟩
  have HD : Veil (earnA a n = if rightA a then (if (addA a.w n).2 = 0 then (if (addA (addA a.w n).1 a.b).2 = 0 then (⟨(addA a.w n).1, a.b⟩, 0) else (Ac.zero, (addA (addA a.w n).1 a.b).2)) else (Ac.zero, (addA a.w n).2)) else (Ac.zero, 130)) := ⟨rfl⟩
  rw [HD.out]
  clear HD
  generalize addA a.w n = x at HM HN
  obtain ⟨v, c⟩ := x
  dsimp only at HN
  generalize addA v a.b = y at HN
  generalize rightA a = r at HR
  obtain ⟨u, d⟩ := y
  obtain ⟨W, B⟩ := a
  unfold Ac.v at *
  dsimp only at *
  clear ha hn
  cases r
  · rw [if_neg (by decide)]
    go_enter Tryd.func58, Tryd.ntmps58
    go_wp2_with (go_at_call 56; refine (HR.out _).mono ?_; rintro e w1 ⟨rfl, hb1⟩; have HB : Veil _ := ⟨(AcB.new w W B).after hb1⟩; obtain ⟨⟨c0, c1⟩, -⟩ := pk2 HB.out.box; obtain ⟨⟨y0, y1⟩, f0, f1⟩ := pk2 HB.out.res)
    exact bodyPost_ret (results_acc2 (g := w.heap.size + 1) rfl rfl rfl (st2 HB.out.res _ _)) rfl ⟨rfl, tn2 HB.out.below (by omega) _ _⟩
  · rw [if_pos rfl]
    by_cases hc : c = 0
    · subst hc
      rw [if_pos rfl]
      by_cases hd : d = 0
      · subst hd
        rw [if_pos rfl]
        go_enter Tryd.func58, Tryd.ntmps58
        go_wp2_with (first
          | (go_at_call 71; (with_reducible refine (HN.out _).mono ?_); rintro e w3 ⟨rfl, hb3⟩; have HB3 : Veil _ := ⟨HB2.out.after hb3⟩; obtain ⟨⟨c0, c1⟩, -⟩ := pk2 HB3.out.box; obtain ⟨⟨y0, y1⟩, f0, f1⟩ := pk2 HB3.out.res)
          | (go_at_call 71; (with_reducible refine (HM.out _).mono ?_); rintro e w2 ⟨rfl, hb2⟩; have HB2 : Veil _ := ⟨HB.out.after hb2⟩; obtain ⟨⟨c0, c1⟩, -⟩ := pk2 HB2.out.box; obtain ⟨⟨y0, y1⟩, f0, f1⟩ := pk2 HB2.out.res)
          | (go_at_call 56; refine (HR.out _).mono ?_; rintro e w1 ⟨rfl, hb1⟩; have HB : Veil _ := ⟨(AcB.new w W B).after hb1⟩; obtain ⟨⟨c0, c1⟩, -⟩ := pk2 HB.out.box; obtain ⟨⟨y0, y1⟩, f0, f1⟩ := pk2 HB.out.res))
        exact bodyPost_ret (results_acc2 (g := w.heap.size + 1) rfl rfl rfl (st2 HB3.out.res _ _)) rfl ⟨rfl, tn2 HB3.out.below (by omega) _ _⟩
      · rw [if_neg hd]
        go_enter Tryd.func58, Tryd.ntmps58
        go_wp2_with (first
          | (go_at_call 71; (with_reducible refine (HN.out _).mono ?_); rintro e w3 ⟨rfl, hb3⟩; have HB3 : Veil _ := ⟨HB2.out.after hb3⟩; obtain ⟨⟨c0, c1⟩, -⟩ := pk2 HB3.out.box; obtain ⟨⟨y0, y1⟩, f0, f1⟩ := pk2 HB3.out.res)
          | (go_at_call 71; (with_reducible refine (HM.out _).mono ?_); rintro e w2 ⟨rfl, hb2⟩; have HB2 : Veil _ := ⟨HB.out.after hb2⟩; obtain ⟨⟨c0, c1⟩, -⟩ := pk2 HB2.out.box; obtain ⟨⟨y0, y1⟩, f0, f1⟩ := pk2 HB2.out.res)
          | (go_at_call 56; refine (HR.out _).mono ?_; rintro e w1 ⟨rfl, hb1⟩; have HB : Veil _ := ⟨(AcB.new w W B).after hb1⟩; obtain ⟨⟨c0, c1⟩, -⟩ := pk2 HB.out.box; obtain ⟨⟨y0, y1⟩, f0, f1⟩ := pk2 HB.out.res))
        exact bodyPost_ret (results_acc2 (g := w.heap.size + 1) rfl rfl rfl (st2 HB3.out.res _ _)) rfl ⟨rfl, tn2 HB3.out.below (by omega) _ _⟩
    · rw [if_neg hc]
      go_enter Tryd.func58, Tryd.ntmps58
      go_wp2_with (first
        | (go_at_call 71; (with_reducible refine (HM.out _).mono ?_); rintro e w2 ⟨rfl, hb2⟩; have HB2 : Veil _ := ⟨HB.out.after hb2⟩; obtain ⟨⟨c0, c1⟩, -⟩ := pk2 HB2.out.box; obtain ⟨⟨y0, y1⟩, f0, f1⟩ := pk2 HB2.out.res)
        | (go_at_call 56; refine (HR.out _).mono ?_; rintro e w1 ⟨rfl, hb1⟩; have HB : Veil _ := ⟨(AcB.new w W B).after hb1⟩; obtain ⟨⟨c0, c1⟩, -⟩ := pk2 HB.out.box; obtain ⟨⟨y0, y1⟩, f0, f1⟩ := pk2 HB.out.res))
      exact bodyPost_ret (results_acc2 (g := w.heap.size + 1) rfl rfl rfl (st2 HB2.out.res _ _)) rfl ⟨rfl, tn2 HB2.out.below (by omega) _ _⟩

theorem parseA_cases (s : List UInt8) : ((parseR s).2 ≠ 0 ∧ parseA s = (Ac.zero, 130)) ∨ ((parseR s).2 = 0 ∧ (parseR s).1.length ≠ 2 ∧ parseA s = (Ac.zero, 130)) ∨ ((parseR s).2 = 0 ∧ ∃ x y, (parseR s).1 = [x, y] ∧ amt x = true ∧ amt y = true ∧ parseA s = if rightA ⟨x, y⟩ then (⟨x, y⟩, 0) else (Ac.zero, 130)) := by
  by_cases h1 : (parseR s).2 = 0
  · by_cases h2 : (parseR s).1.length = 2
    · refine .inr (.inr ⟨h1, ?_⟩)
      have hb := parse_back s h1
      have ham : (parseR s).1.all amt = true := by
        unfold bytesR at hb
        by_cases h : (parseR s).1.all amt = true
        · exact h
        · rw [if_neg h] at hb; simp at hb
      unfold parseA
      generalize (parseR s).1 = L at h2 ham
      match L, h2 with
      | [x, y], _ =>
        simp only [List.all_cons, List.all_nil, Bool.and_true, Bool.and_eq_true] at ham
        refine ⟨x, y, rfl, ham.1, ham.2, ?_⟩
        show (if (parseR s).2 = 0 ∧ [x, y].length = 2 ∧ rightA ⟨x, y⟩ = true then _ else _) = _
        by_cases hr : rightA ⟨x, y⟩ = true
        · rw [if_pos ⟨h1, rfl, hr⟩, if_pos hr]; rfl
        · rw [if_neg (fun hh => hr hh.2.2), if_neg hr]
    · exact .inr (.inl ⟨h1, h2, by unfold parseA; rw [if_neg (fun hh => h2 hh.2.1)]⟩)
  · exact .inl ⟨h1, by unfold parseA; rw [if_neg (fun hh => h1 hh.1)]⟩
end Go.Proofs.YtckkiilbabbeaaaDoor

/- Accounts: the document's own Parse, Pay. -/
namespace Go.Proofs.YtckkiilbabbeaaaDoor
open Go Go.RowKit Sm
attribute [local go_sem] Oper.semAt_some

/-- The result's box, alone. -/
structure AcR (w W : World) : Prop where
  res : W.heap[w.heap.size]? = some (.cells #[.int .i64 0, .int .i64 0] 37 (0, 0))
  below : Below w.heap.size w W
theorem AcR.new (w : World) : AcR w (w.alloc (.cells #[.int .i64 0, .int .i64 0] 37)) := ⟨heap_alloc_new _ _, below_al (Below.refl _ _) _⟩
theorem AcR.after {w W W' : World} (h : AcR w W) (hb : Below W.heap.size W W') : AcR w W' := ⟨(hb.block _ (lt_of_heap h.res)).trans h.res, bc_then h.below hb⟩

end Go.Proofs.YtckkiilbabbeaaaDoor

/- Accounts: the document's own Pay. -/
namespace Go.Proofs.YtckkiilbabbeaaaDoor
open Go Go.RowKit Sm
attribute [local go_sem] Oper.semAt_some

theorem results_acc22 {fn : Func} {p q r : Tmp} {tmps : Array Value} {w : World} {g k : Nat} {x0 x1 z0 z1 y : Value} (h : fn.results = #[.cell p 37, .cell q 37, .tmp r]) (hp : tmps.getD p undef = .pointer (some ⟨g, 0, none⟩)) (hq : tmps.getD q undef = .pointer (some ⟨k, 0, none⟩)) (hr : tmps.getD r undef = y) (hg : w.heap[g]? = some (.cells #[x0, x1] 37 (0, 0))) (hk : w.heap[k]? = some (.cells #[z0, z1] 37 (0, 0))) :
    (results fn tmps).run Tryd.prog w = .ok (.tuple #[.agg #[x0, x1], .agg #[z0, z1], y]) w := by
  have hp' : tmps[p]?.getD undef = .pointer (some ⟨g, 0, none⟩) := by simpa using hp
  have hq' : tmps[q]?.getD undef = .pointer (some ⟨k, 0, none⟩) := by simpa using hq
  have hr' : tmps[r]?.getD undef = y := by simpa using hr
  obtain ⟨⟨c0, c1⟩, -⟩ := pk2 hg
  obtain ⟨⟨d0, d1⟩, -⟩ := pk2 hk
  simp [results, h, go_sem, hp', hq', hr', c0, c1, d0, d1]

structure PyB (w W : World) (a b c d : Int) : Prop where
  x : W.heap[w.heap.size]? = some (.cells #[.int .i64 a, .int .i64 b] 37 (0, 0))
  y : W.heap[w.heap.size + 1]? = some (.cells #[.int .i64 c, .int .i64 d] 37 (0, 0))
  r : W.heap[w.heap.size + 2]? = some (.cells #[.int .i64 0, .int .i64 0] 37 (0, 0))
  s : W.heap[w.heap.size + 3]? = some (.cells #[.int .i64 0, .int .i64 0] 37 (0, 0))
  below : Below w.heap.size w W
theorem PyB.after {w W W' : World} {a b c d : Int} (h : PyB w W a b c d) (hb : Below W.heap.size W W') : PyB w W' a b c d :=
  ⟨(hb.block _ (lt_of_heap h.x)).trans h.x, (hb.block _ (lt_of_heap h.y)).trans h.y, (hb.block _ (lt_of_heap h.r)).trans h.r, (hb.block _ (lt_of_heap h.s)).trans h.s, bc_then h.below hb⟩
theorem PyB.new (w : World) (a b c d : Int) : PyB w ((((w.alloc (.cells #[.int .i64 a, .int .i64 b] 37)).alloc (.cells #[.int .i64 c, .int .i64 d] 37)).alloc (.cells #[.int .i64 0, .int .i64 0] 37)).alloc (.cells #[.int .i64 0, .int .i64 0] 37)) a b c d := by
  have hb : Below w.heap.size w ((((w.alloc (.cells #[.int .i64 a, .int .i64 b] 37)).alloc (.cells #[.int .i64 c, .int .i64 d] 37)).alloc (.cells #[.int .i64 0, .int .i64 0] 37)).alloc (.cells #[.int .i64 0, .int .i64 0] 37)) := below_al (below_al (below_al (below_al (Below.refl _ _) _) _) _) _
  refine ⟨?_, ?_, ?_, ?_, hb⟩
  all_goals
    simp only [heap_alloc_if, World.size_alloc]
    repeat (first | rw [if_neg (by omega)] | rw [if_pos (by first | trivial | omega)])

theorem payA_eq (a b : Ac) (n : Int) : payA a b n = if rightA a && rightA b then (if (spendA a n).2 = 0 then (if (earnA b n).2 = 0 then ((spendA a n).1, (earnA b n).1, 0) else (Ac.zero, Ac.zero, (earnA b n).2)) else (Ac.zero, Ac.zero, (spendA a n).2)) else (Ac.zero, Ac.zero, 130) := rfl
theorem st22 {w : World} {g k : Nat} (hne : g ≠ k) {a0 a1 b0 b1 : Value} {t : TypeId} (hg : w.heap[g]? = some (.cells #[a0, a1] t (0, 0))) (hk : w.heap[k]? = some (.cells #[b0, b1] t (0, 0))) (v0 v1 u0 u1 : Value) :
    ((((w.setCell ⟨g, 0, none⟩ v0).setCell ⟨g, 1, none⟩ v1).setCell ⟨k, 0, none⟩ u0).setCell ⟨k, 1, none⟩ u1).heap[g]? = some (.cells #[v0, v1] t (0, 0)) ∧ ((((w.setCell ⟨g, 0, none⟩ v0).setCell ⟨g, 1, none⟩ v1).setCell ⟨k, 0, none⟩ u0).setCell ⟨k, 1, none⟩ u1).heap[k]? = some (.cells #[u0, u1] t (0, 0)) := by
  constructor
  · rw [Below.heap_setCell _ _ _ _ hne, Below.heap_setCell _ _ _ _ hne]
    exact st2 hg _ _
  · refine st2 (a0 := b0) (a1 := b1) ?_ _ _
    rw [Below.heap_setCell _ _ _ _ (fun h => hne h.symm), Below.heap_setCell _ _ _ _ (fun h => hne h.symm)]
    exact hk

theorem tu1 (X : World) (b6 b7 : Nat) (v0 v1 : Value) : Turned (fun k => k = b6 ∨ k = b7) X ((X.setCell ⟨b6, 0, none⟩ v0).setCell ⟨b6, 1, none⟩ v1) :=
  ((Turned.refl (fun k => k = b6 ∨ k = b7) X).setCell (p := ⟨b6, 0, none⟩) (Or.inl rfl) v0).setCell (p := ⟨b6, 1, none⟩) (Or.inl rfl) v1
theorem tu2 (X : World) (b6 b7 : Nat) (v0 v1 u0 u1 : Value) : Turned (fun k => k = b6 ∨ k = b7) X ((((X.setCell ⟨b6, 0, none⟩ v0).setCell ⟨b6, 1, none⟩ v1).setCell ⟨b7, 0, none⟩ u0).setCell ⟨b7, 1, none⟩ u1) :=
  ((tu1 X b6 b7 v0 v1).setCell (p := ⟨b7, 0, none⟩) (Or.inr rfl) u0).setCell (p := ⟨b7, 1, none⟩) (Or.inr rfl) u1
set_option maxRecDepth 20000 in
set_option maxHeartbeats 8000000 in
theorem refpayA_any (a b : Ac) (ha : a.Ok) (hb : b.Ok) (n : Int) (hn : I64 n) (w : World) : Calls Tryd.prog 41 #[a.v, b.v, .int .i64 n] w fun e w' => e = .returned (.tuple #[(payA a b n).1.v, (payA a b n).2.1.v, .int .i64 (payA a b n).2.2]) ∧ Below w.heap.size w w' := by
  have HS : Veil _ := ⟨fun w => refspendA_any a ha n hn w⟩
  have HE : Veil _ := ⟨fun w => refearnA_any b hb n hn w⟩
  have HR1 : Veil _ := ⟨fun w => refrightA_any a ha w⟩
  have HR2 : Veil _ := ⟨fun w => refrightA_any b hb w⟩
  have HD : Veil _ := ⟨payA_eq a b n⟩
  rw [HD.out]
  clear HD
  generalize spendA a n = x at HS
  generalize earnA b n = y at HE
  generalize rightA a = r1 at HR1
  generalize rightA b = r2 at HR2
  obtain ⟨⟨xw, xb⟩, c1⟩ := x
  obtain ⟨⟨yw, yb⟩, c2⟩ := y
  obtain ⟨W, B⟩ := a
  obtain ⟨W2, B2⟩ := b
  unfold Ac.v at *
  dsimp only at *
  clear ha hb hn
  cases r1
  · rw [if_neg (by simp)]
    dsimp only [Ac.zero]
    go_enter Tryd.func41, Tryd.ntmps41
    go_wp2_with (first
      | (go_at_call 56; (with_reducible refine (HR2.out _).mono ?_); rintro e w2 ⟨rfl, hb2⟩; have HB2 : Veil _ := ⟨HB1.out.after hb2⟩; obtain ⟨⟨c0, c1⟩, -⟩ := pk2 HB2.out.x; obtain ⟨⟨d0, d1⟩, -⟩ := pk2 HB2.out.y; obtain ⟨⟨y0, y1⟩, f0, f1⟩ := pk2 HB2.out.r; obtain ⟨⟨z0, z1⟩, g0, g1⟩ := pk2 HB2.out.s)
      | (go_at_call 56; (with_reducible refine (HR1.out _).mono ?_); rintro e w1 ⟨rfl, hb1⟩; have HB1 : Veil _ := ⟨(PyB.new w W B W2 B2).after hb1⟩; obtain ⟨⟨c0, c1⟩, -⟩ := pk2 HB1.out.x; obtain ⟨⟨d0, d1⟩, -⟩ := pk2 HB1.out.y; obtain ⟨⟨y0, y1⟩, f0, f1⟩ := pk2 HB1.out.r; obtain ⟨⟨z0, z1⟩, g0, g1⟩ := pk2 HB1.out.s))
    exact bodyPost_ret (results_acc22 (g := w.heap.size + 2) (k := w.heap.size + 3) rfl rfl rfl rfl (st22 (by omega) HB2.out.r HB2.out.s _ _ _ _).1 (st22 (by omega) HB2.out.r HB2.out.s _ _ _ _).2) rfl ⟨rfl, tn2 (tn2 HB2.out.below (by omega) _ _) (by omega) _ _⟩
  cases r2
  · rw [if_neg (by simp)]
    dsimp only [Ac.zero]
    go_enter Tryd.func41, Tryd.ntmps41
    go_wp2_with (first
      | (go_at_call 56; (with_reducible refine (HR2.out _).mono ?_); rintro e w2 ⟨rfl, hb2⟩; have HB2 : Veil _ := ⟨HB1.out.after hb2⟩; obtain ⟨⟨c0, c1⟩, -⟩ := pk2 HB2.out.x; obtain ⟨⟨d0, d1⟩, -⟩ := pk2 HB2.out.y; obtain ⟨⟨y0, y1⟩, f0, f1⟩ := pk2 HB2.out.r; obtain ⟨⟨z0, z1⟩, g0, g1⟩ := pk2 HB2.out.s)
      | (go_at_call 56; (with_reducible refine (HR1.out _).mono ?_); rintro e w1 ⟨rfl, hb1⟩; have HB1 : Veil _ := ⟨(PyB.new w W B W2 B2).after hb1⟩; obtain ⟨⟨c0, c1⟩, -⟩ := pk2 HB1.out.x; obtain ⟨⟨d0, d1⟩, -⟩ := pk2 HB1.out.y; obtain ⟨⟨y0, y1⟩, f0, f1⟩ := pk2 HB1.out.r; obtain ⟨⟨z0, z1⟩, g0, g1⟩ := pk2 HB1.out.s))
    exact bodyPost_ret (results_acc22 (g := w.heap.size + 2) (k := w.heap.size + 3) rfl rfl rfl rfl (st22 (by omega) HB2.out.r HB2.out.s _ _ _ _).1 (st22 (by omega) HB2.out.r HB2.out.s _ _ _ _).2) rfl ⟨rfl, tn2 (tn2 HB2.out.below (by omega) _ _) (by omega) _ _⟩
  rw [if_pos (by simp)]
  by_cases h1 : c1 = 0
  · subst h1
    rw [if_pos rfl]
    by_cases h2 : c2 = 0
    · subst h2
      rw [if_pos rfl]
      dsimp only
      go_enter Tryd.func41, Tryd.ntmps41
      go_wp2_with (first
        | (go_at_call 58; (with_reducible refine (HE.out _).mono ?_); rintro e w4 ⟨rfl, hb4⟩; have HX4 : Veil _ := ⟨(hb4.block _ (lt_of_heap HX3.out)).trans HX3.out⟩; have HB4 : Veil _ := ⟨HB3.out.after hb4⟩; have HB5 : Veil _ := ⟨HB4.out.after (below_al (Below.refl _ w4) (.cells #[.int .i64 yw, .int .i64 yb] 37))⟩; obtain ⟨⟨c0, c1⟩, -⟩ := pk2 HB5.out.x; obtain ⟨⟨d0, d1⟩, -⟩ := pk2 HB5.out.y; obtain ⟨⟨y0, y1⟩, f0, f1⟩ := pk2 HB5.out.r; obtain ⟨⟨z0, z1⟩, g0, g1⟩ := pk2 HB5.out.s)
        | (go_at_call 57; (with_reducible refine (HS.out _).mono ?_); rintro e w3 ⟨rfl, hb3⟩; have HX3 : Veil ((w3.alloc (.cells #[.int .i64 xw, .int .i64 xb] 37)).heap[w3.heap.size]? = some (.cells #[.int .i64 xw, .int .i64 xb] 37 (0, 0))) := ⟨heap_alloc_new _ _⟩; have HB3 : Veil _ := ⟨(HB2.out.after hb3).after (below_al (Below.refl _ w3) (.cells #[.int .i64 xw, .int .i64 xb] 37))⟩; obtain ⟨⟨c0, c1⟩, -⟩ := pk2 HB3.out.x; obtain ⟨⟨d0, d1⟩, -⟩ := pk2 HB3.out.y; obtain ⟨⟨y0, y1⟩, f0, f1⟩ := pk2 HB3.out.r; obtain ⟨⟨z0, z1⟩, g0, g1⟩ := pk2 HB3.out.s)
        | (go_at_call 56; (with_reducible refine (HR2.out _).mono ?_); rintro e w2 ⟨rfl, hb2⟩; have HB2 : Veil _ := ⟨HB1.out.after hb2⟩; obtain ⟨⟨c0, c1⟩, -⟩ := pk2 HB2.out.x; obtain ⟨⟨d0, d1⟩, -⟩ := pk2 HB2.out.y; obtain ⟨⟨y0, y1⟩, f0, f1⟩ := pk2 HB2.out.r; obtain ⟨⟨z0, z1⟩, g0, g1⟩ := pk2 HB2.out.s)
        | (go_at_call 56; (with_reducible refine (HR1.out _).mono ?_); rintro e w1 ⟨rfl, hb1⟩; have HB1 : Veil _ := ⟨(PyB.new w W B W2 B2).after hb1⟩; obtain ⟨⟨c0, c1⟩, -⟩ := pk2 HB1.out.x; obtain ⟨⟨d0, d1⟩, -⟩ := pk2 HB1.out.y; obtain ⟨⟨y0, y1⟩, f0, f1⟩ := pk2 HB1.out.r; obtain ⟨⟨z0, z1⟩, g0, g1⟩ := pk2 HB1.out.s))
      have HX5 : Veil ((w4.alloc (.cells #[.int .i64 yw, .int .i64 yb] 37)).heap[w4.heap.size]? = some (.cells #[.int .i64 yw, .int .i64 yb] 37 (0, 0)) ∧ (w4.alloc (.cells #[.int .i64 yw, .int .i64 yb] 37)).heap[w3.heap.size]? = some (.cells #[.int .i64 xw, .int .i64 xb] 37 (0, 0))) := ⟨heap_alloc_new _ _, ((below_al (Below.refl _ w4) (.cells #[.int .i64 yw, .int .i64 yb] 37)).block _ (lt_of_heap HX4.out)).trans HX4.out⟩
      obtain ⟨X, hX⟩ : ∃ X, w4.alloc (.cells #[.int .i64 yw, .int .i64 yb] 37) = X := ⟨_, rfl⟩
      have hlt4 : w.heap.size + 3 < w3.heap.size := (by have := lt_of_heap (HB2.out.after hb3).s; omega)
      have hlt5 : w3.heap.size < w4.heap.size := (by have := lt_of_heap HX3.out; have := hb4.size; simp at *; omega)
      rw [hX] at HX5 HB5 ⊢
      obtain ⟨b6, h6⟩ : ∃ b, w.heap.size + 1 + 1 = b := ⟨_, rfl⟩
      obtain ⟨b7, h7⟩ : ∃ b, w.heap.size + 1 + 1 + 1 = b := ⟨_, rfl⟩
      obtain ⟨b11, h11⟩ : ∃ b, w3.heap.size = b := ⟨_, rfl⟩
      obtain ⟨b13, h13⟩ : ∃ b, w4.heap.size = b := ⟨_, rfl⟩
      have HR6 : Veil (X.heap[b6]? = some (.cells #[.int .i64 0, .int .i64 0] 37 (0, 0)) ∧ X.heap[b7]? = some (.cells #[.int .i64 0, .int .i64 0] 37 (0, 0)) ∧ w.heap.size ≤ b6 ∧ w.heap.size ≤ b7 ∧ Below w.heap.size w X) := ⟨by rw [← h6]; exact HB5.out.r, by rw [← h7]; exact HB5.out.s, by omega, by omega, HB5.out.below⟩
      have n67 : b6 ≠ b7 := by omega
      have n611 : b6 ≠ b11 := by omega
      have n613 : b6 ≠ b13 := by omega
      have n711 : b7 ≠ b11 := by omega
      have n713 : b7 ≠ b13 := by omega
      rw [h11, h13] at HX5
      rw [h7, h6, h11, h13]
      clear hX h6 h7 h11 h13 hlt4 hlt5 c0 c1 d0 d1 y0 y1 z0 z1 f0 f1 g0 g1 hb1 hb2 hb3 hb4
      obtain ⟨⟨y0, y1⟩, f0, f1⟩ := pk2 HR6.out.1
      obtain ⟨⟨z0, z1⟩, g0, g1⟩ := pk2 HR6.out.2.1
      obtain ⟨⟨c0, c1⟩, -⟩ := pk2 HX5.out.2
      obtain ⟨⟨d0, d1⟩, -⟩ := pk2 HX5.out.1
      have HK : Veil (∀ W, Turned (fun k => k = b6 ∨ k = b7) X W → W.cell? ⟨b11, 0, none⟩ = some (.int .i64 xw) ∧ W.cell? ⟨b11, 1, none⟩ = some (.int .i64 xb) ∧ W.cell? ⟨b13, 0, none⟩ = some (.int .i64 yw) ∧ W.cell? ⟨b13, 1, none⟩ = some (.int .i64 yb)) := ⟨fun W h => ⟨h.cell c0 (by dsimp only; omega), h.cell c1 (by dsimp only; omega), h.cell d0 (by dsimp only; omega), h.cell d1 (by dsimp only; omega)⟩⟩
      go_region_held3 (fun W => (W.cell? ⟨b11, 0, none⟩ = some (.int .i64 xw) ∧ W.cell? ⟨b11, 1, none⟩ = some (.int .i64 xb) ∧ W.cell? ⟨b13, 0, none⟩ = some (.int .i64 yw) ∧ W.cell? ⟨b13, 1, none⟩ = some (.int .i64 yb))) (first | assumption | exact HK.out _ (Turned.refl _ _).drew | exact HK.out _ (tu1 X b6 b7 _ _).drew | exact HK.out _ (tu2 X b6 b7 _ _ _ _).drew) (fail)
      all_goals
        go_wp2
        refine bodyPost_ret (results_acc22 (g := b6) (k := b7) rfl rfl rfl rfl (st22 n67 HR6.out.1 HR6.out.2.1 _ _ _ _).1 (st22 n67 HR6.out.1 HR6.out.2.1 _ _ _ _).2) rfl ⟨rfl, (tn2 (tn2 HR6.out.2.2.2.2 HR6.out.2.2.1 _ _) HR6.out.2.2.2.1 _ _).drew⟩
    · rw [if_neg h2]
      dsimp only [Ac.zero]
      go_enter Tryd.func41, Tryd.ntmps41
      go_wp2_with (first
        | (go_at_call 58; (with_reducible refine (HE.out _).mono ?_); rintro e w4 ⟨rfl, hb4⟩; have HX4 : Veil _ := ⟨(hb4.block _ (lt_of_heap HX3.out)).trans HX3.out⟩; have HB4 : Veil _ := ⟨HB3.out.after hb4⟩; have HB5 : Veil _ := ⟨HB4.out.after (below_al (Below.refl _ w4) (.cells #[.int .i64 yw, .int .i64 yb] 37))⟩; obtain ⟨⟨c0, c1⟩, -⟩ := pk2 HB5.out.x; obtain ⟨⟨d0, d1⟩, -⟩ := pk2 HB5.out.y; obtain ⟨⟨y0, y1⟩, f0, f1⟩ := pk2 HB5.out.r; obtain ⟨⟨z0, z1⟩, g0, g1⟩ := pk2 HB5.out.s)
        | (go_at_call 57; (with_reducible refine (HS.out _).mono ?_); rintro e w3 ⟨rfl, hb3⟩; have HX3 : Veil ((w3.alloc (.cells #[.int .i64 xw, .int .i64 xb] 37)).heap[w3.heap.size]? = some (.cells #[.int .i64 xw, .int .i64 xb] 37 (0, 0))) := ⟨heap_alloc_new _ _⟩; have HB3 : Veil _ := ⟨(HB2.out.after hb3).after (below_al (Below.refl _ w3) (.cells #[.int .i64 xw, .int .i64 xb] 37))⟩; obtain ⟨⟨c0, c1⟩, -⟩ := pk2 HB3.out.x; obtain ⟨⟨d0, d1⟩, -⟩ := pk2 HB3.out.y; obtain ⟨⟨y0, y1⟩, f0, f1⟩ := pk2 HB3.out.r; obtain ⟨⟨z0, z1⟩, g0, g1⟩ := pk2 HB3.out.s)
        | (go_at_call 56; (with_reducible refine (HR2.out _).mono ?_); rintro e w2 ⟨rfl, hb2⟩; have HB2 : Veil _ := ⟨HB1.out.after hb2⟩; obtain ⟨⟨c0, c1⟩, -⟩ := pk2 HB2.out.x; obtain ⟨⟨d0, d1⟩, -⟩ := pk2 HB2.out.y; obtain ⟨⟨y0, y1⟩, f0, f1⟩ := pk2 HB2.out.r; obtain ⟨⟨z0, z1⟩, g0, g1⟩ := pk2 HB2.out.s)
        | (go_at_call 56; (with_reducible refine (HR1.out _).mono ?_); rintro e w1 ⟨rfl, hb1⟩; have HB1 : Veil _ := ⟨(PyB.new w W B W2 B2).after hb1⟩; obtain ⟨⟨c0, c1⟩, -⟩ := pk2 HB1.out.x; obtain ⟨⟨d0, d1⟩, -⟩ := pk2 HB1.out.y; obtain ⟨⟨y0, y1⟩, f0, f1⟩ := pk2 HB1.out.r; obtain ⟨⟨z0, z1⟩, g0, g1⟩ := pk2 HB1.out.s))
      exact bodyPost_ret (results_acc22 (g := w.heap.size + 2) (k := w.heap.size + 3) rfl rfl rfl rfl (st22 (by omega) HB5.out.r HB5.out.s _ _ _ _).1 (st22 (by omega) HB5.out.r HB5.out.s _ _ _ _).2) rfl ⟨rfl, tn2 (tn2 HB5.out.below (by omega) _ _) (by omega) _ _⟩
  · rw [if_neg h1]
    dsimp only [Ac.zero]
    go_enter Tryd.func41, Tryd.ntmps41
    go_wp2_with (first
      | (go_at_call 57; (with_reducible refine (HS.out _).mono ?_); rintro e w3 ⟨rfl, hb3⟩; have HX3 : Veil ((w3.alloc (.cells #[.int .i64 xw, .int .i64 xb] 37)).heap[w3.heap.size]? = some (.cells #[.int .i64 xw, .int .i64 xb] 37 (0, 0))) := ⟨heap_alloc_new _ _⟩; have HB3 : Veil _ := ⟨(HB2.out.after hb3).after (below_al (Below.refl _ w3) (.cells #[.int .i64 xw, .int .i64 xb] 37))⟩; obtain ⟨⟨c0, c1⟩, -⟩ := pk2 HB3.out.x; obtain ⟨⟨d0, d1⟩, -⟩ := pk2 HB3.out.y; obtain ⟨⟨y0, y1⟩, f0, f1⟩ := pk2 HB3.out.r; obtain ⟨⟨z0, z1⟩, g0, g1⟩ := pk2 HB3.out.s)
      | (go_at_call 56; (with_reducible refine (HR2.out _).mono ?_); rintro e w2 ⟨rfl, hb2⟩; have HB2 : Veil _ := ⟨HB1.out.after hb2⟩; obtain ⟨⟨c0, c1⟩, -⟩ := pk2 HB2.out.x; obtain ⟨⟨d0, d1⟩, -⟩ := pk2 HB2.out.y; obtain ⟨⟨y0, y1⟩, f0, f1⟩ := pk2 HB2.out.r; obtain ⟨⟨z0, z1⟩, g0, g1⟩ := pk2 HB2.out.s)
      | (go_at_call 56; (with_reducible refine (HR1.out _).mono ?_); rintro e w1 ⟨rfl, hb1⟩; have HB1 : Veil _ := ⟨(PyB.new w W B W2 B2).after hb1⟩; obtain ⟨⟨c0, c1⟩, -⟩ := pk2 HB1.out.x; obtain ⟨⟨d0, d1⟩, -⟩ := pk2 HB1.out.y; obtain ⟨⟨y0, y1⟩, f0, f1⟩ := pk2 HB1.out.r; obtain ⟨⟨z0, z1⟩, g0, g1⟩ := pk2 HB1.out.s))
    exact bodyPost_ret (results_acc22 (g := w.heap.size + 2) (k := w.heap.size + 3) rfl rfl rfl rfl (st22 (by omega) HB3.out.r HB3.out.s _ _ _ _).1 (st22 (by omega) HB3.out.r HB3.out.s _ _ _ _).2) rfl ⟨rfl, tn2 (tn2 HB3.out.below (by omega) _ _) (by omega) _ _⟩
end Go.Proofs.YtckkiilbabbeaaaDoor
