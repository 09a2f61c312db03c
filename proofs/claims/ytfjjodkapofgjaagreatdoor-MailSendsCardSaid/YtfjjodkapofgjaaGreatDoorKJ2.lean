/- Accounts: the document's own Earn, Bytes, Parse. -/
import Derived.Deep.RegionHeld3
import Derived.Test.YtfjjodkapofgjaaGreatDoorKJ1
namespace Go.Proofs.YtfjjodkapofgjaaGreatDoor
open Go Go.RowKit Sm
attribute [local go_sem] Oper.semAt_some

theorem i64_am {n : Int} (h : amt n = true) : I64 n := by rw [amt_iff] at h; unfold I64; omega
set_option maxRecDepth 20000 in
set_option maxHeartbeats 1000000 in
theorem refearnA_any (a : Ac) (ha : a.Ok) (n : Int) (hn : I64 n) (w : World) : Calls Tryz.prog 26 #[a.v, .int .i64 n] w fun e w' => e = .returned (.tuple #[(earnA a n).1.v, .int .i64 (earnA a n).2]) ∧ Below w.heap.size w w' := by
  have HM : Veil _ := ⟨fun w => refaddA_any a.w n ha.w hn w⟩
  have HN : Veil _ := ⟨fun w => refaddA_any (addA a.w n).1 a.b (i64_am (addA_amt _ _)) ha.b w⟩
  have HR : Veil _ := ⟨fun w => refrightA_any a ha w⟩
  have HD : Veil (earnA a n = if rightA a then (if (addA a.w n).2 = 0 then (if (addA (addA a.w n).1 a.b).2 = 0 then (⟨(addA a.w n).1, a.b⟩, 0) else (Ac.zero, (addA (addA a.w n).1 a.b).2)) else (Ac.zero, (addA a.w n).2)) else (Ac.zero, 130)) := ⟨rfl⟩
  rw [HD.out]
  clear HD
  generalize addA a.w n = x at HM HN
  obtain ⟨v, c⟩ := x
  dsimp only at HN
  generalize addA v a.b = y at HN
  generalize rightA a = r at HR
  obtain ⟨u, d⟩ := y
  obtain ⟨W, B⟩ := a
  unfold Ac.v at *
  dsimp only at *
  clear ha hn
  cases r
  · rw [if_neg (by decide)]
    go_enter Tryz.func26, Tryz.ntmps26
    go_wp2_with (go_at_call 37; refine (HR.out _).mono ?_; rintro e w1 ⟨rfl, hb1⟩; have HB : Veil _ := ⟨(AcB.new w W B).after hb1⟩; obtain ⟨⟨c0, c1⟩, -⟩ := pk2 HB.out.box; obtain ⟨⟨y0, y1⟩, f0, f1⟩ := pk2 HB.out.res)
    exact bodyPost_ret (results_acc2 (g := w.heap.size + 1) rfl rfl rfl (st2 HB.out.res _ _)) rfl ⟨rfl, tn2 HB.out.below (by omega) _ _⟩
  · rw [if_pos rfl]
    by_cases hc : c = 0
    · subst hc
      rw [if_pos rfl]
      by_cases hd : d = 0
      · subst hd
        rw [if_pos rfl]
        go_enter Tryz.func26, Tryz.ntmps26
        go_wp2_with (first
          | (go_at_call 44; (with_reducible refine (HN.out _).mono ?_); rintro e w3 ⟨rfl, hb3⟩; have HB3 : Veil _ := ⟨HB2.out.after hb3⟩; obtain ⟨⟨c0, c1⟩, -⟩ := pk2 HB3.out.box; obtain ⟨⟨y0, y1⟩, f0, f1⟩ := pk2 HB3.out.res)
          | (go_at_call 44; (with_reducible refine (HM.out _).mono ?_); rintro e w2 ⟨rfl, hb2⟩; have HB2 : Veil _ := ⟨HB.out.after hb2⟩; obtain ⟨⟨c0, c1⟩, -⟩ := pk2 HB2.out.box; obtain ⟨⟨y0, y1⟩, f0, f1⟩ := pk2 HB2.out.res)
          | (go_at_call 37; refine (HR.out _).mono ?_; rintro e w1 ⟨rfl, hb1⟩; have HB : Veil _ := ⟨(AcB.new w W B).after hb1⟩; obtain ⟨⟨c0, c1⟩, -⟩ := pk2 HB.out.box; obtain ⟨⟨y0, y1⟩, f0, f1⟩ := pk2 HB.out.res))
        exact bodyPost_ret (results_acc2 (g := w.heap.size + 1) rfl rfl rfl (st2 HB3.out.res _ _)) rfl ⟨rfl, tn2 HB3.out.below (by omega) _ _⟩
      · rw [if_neg hd]
        go_enter Tryz.func26, Tryz.ntmps26
        go_wp2_with (first
          | (go_at_call 44; (with_reducible refine (HN.out _).mono ?_); rintro e w3 ⟨rfl, hb3⟩; have HB3 : Veil _ := ⟨HB2.out.after hb3⟩; obtain ⟨⟨c0, c1⟩, -⟩ := pk2 HB3.out.box; obtain ⟨⟨y0, y1⟩, f0, f1⟩ := pk2 HB3.out.res)
          | (go_at_call 44; (with_reducible refine (HM.out _).mono ?_); rintro e w2 ⟨rfl, hb2⟩; have HB2 : Veil _ := ⟨HB.out.after hb2⟩; obtain ⟨⟨c0, c1⟩, -⟩ := pk2 HB2.out.box; obtain ⟨⟨y0, y1⟩, f0, f1⟩ := pk2 HB2.out.res)
          | (go_at_call 37; refine (HR.out _).mono ?_; rintro e w1 ⟨rfl, hb1⟩; have HB : Veil _ := ⟨(AcB.new w W B).after hb1⟩; obtain ⟨⟨c0, c1⟩, -⟩ := pk2 HB.out.box; obtain ⟨⟨y0, y1⟩, f0, f1⟩ := pk2 HB.out.res))
        exact bodyPost_ret (results_acc2 (g := w.heap.size + 1) rfl rfl rfl (st2 HB3.out.res _ _)) rfl ⟨rfl, tn2 HB3.out.below (by omega) _ _⟩
    · rw [if_neg hc]
      go_enter Tryz.func26, Tryz.ntmps26
      go_wp2_with (first
        | (go_at_call 44; (with_reducible refine (HM.out _).mono ?_); rintro e w2 ⟨rfl, hb2⟩; have HB2 : Veil _ := ⟨HB.out.after hb2⟩; obtain ⟨⟨c0, c1⟩, -⟩ := pk2 HB2.out.box; obtain ⟨⟨y0, y1⟩, f0, f1⟩ := pk2 HB2.out.res)
        | (go_at_call 37; refine (HR.out _).mono ?_; rintro e w1 ⟨rfl, hb1⟩; have HB : Veil _ := ⟨(AcB.new w W B).after hb1⟩; obtain ⟨⟨c0, c1⟩, -⟩ := pk2 HB.out.box; obtain ⟨⟨y0, y1⟩, f0, f1⟩ := pk2 HB.out.res))
      exact bodyPost_ret (results_acc2 (g := w.heap.size + 1) rfl rfl rfl (st2 HB2.out.res _ _)) rfl ⟨rfl, tn2 HB2.out.below (by omega) _ _⟩

theorem parseA_cases (s : List UInt8) : ((parseR s).2 ≠ 0 ∧ parseA s = (Ac.zero, 130)) ∨ ((parseR s).2 = 0 ∧ (parseR s).1.length ≠ 2 ∧ parseA s = (Ac.zero, 130)) ∨ ((parseR s).2 = 0 ∧ ∃ x y, (parseR s).1 = [x, y] ∧ amt x = true ∧ amt y = true ∧ parseA s = if rightA ⟨x, y⟩ then (⟨x, y⟩, 0) else (Ac.zero, 130)) := by
  by_cases h1 : (parseR s).2 = 0
  · by_cases h2 : (parseR s).1.length = 2
    · refine .inr (.inr ⟨h1, ?_⟩)
      have hb := parse_back s h1
      have ham : (parseR s).1.all amt = true := by
        unfold bytesR at hb
        by_cases h : (parseR s).1.all amt = true
        · exact h
        · rw [if_neg h] at hb; simp at hb
      unfold parseA
      generalize (parseR s).1 = L at h2 ham
      match L, h2 with
      | [x, y], _ =>
        simp only [List.all_cons, List.all_nil, Bool.and_true, Bool.and_eq_true] at ham
        refine ⟨x, y, rfl, ham.1, ham.2, ?_⟩
        show (if (parseR s).2 = 0 ∧ [x, y].length = 2 ∧ rightA ⟨x, y⟩ = true then _ else _) = _
        by_cases hr : rightA ⟨x, y⟩ = true
        · rw [if_pos ⟨h1, rfl, hr⟩, if_pos hr]; rfl
        · rw [if_neg (fun hh => hr hh.2.2), if_neg hr]
    · exact .inr (.inl ⟨h1, h2, by unfold parseA; rw [if_neg (fun hh => h2 hh.2.1)]⟩)
  · exact .inl ⟨h1, by unfold parseA; rw [if_neg (fun hh => h1 hh.1)]⟩
end Go.Proofs.YtfjjodkapofgjaaGreatDoor

/- Accounts: the document's own Parse, Pay. -/
namespace Go.Proofs.YtfjjodkapofgjaaGreatDoor
open Go Go.RowKit Sm
attribute [local go_sem] Oper.semAt_some

/-- The result's box, alone. -/
structure AcR (w W : World) : Prop where
  res : W.heap[w.heap.size]? = some (.cells #[.int .i64 0, .int .i64 0] 23 (0, 0))
  below : Below w.heap.size w W
theorem AcR.new (w : World) : AcR w (w.alloc (.cells #[.int .i64 0, .int .i64 0] 23)) := ⟨heap_alloc_new _ _, below_al (Below.refl _ _) _⟩
theorem AcR.after {w W W' : World} (h : AcR w W) (hb : Below W.heap.size W W') : AcR w W' := ⟨(hb.block _ (lt_of_heap h.res)).trans h.res, bc_then h.below hb⟩

end Go.Proofs.YtfjjodkapofgjaaGreatDoor

/- Accounts: the document's own Pay. -/
namespace Go.Proofs.YtfjjodkapofgjaaGreatDoor
open Go Go.RowKit Sm
attribute [local go_sem] Oper.semAt_some

theorem results_acc22 {fn : Func} {p q r : Tmp} {tmps : Array Value} {w : World} {g k : Nat} {x0 x1 z0 z1 y : Value} (h : fn.results = #[.cell p 23, .cell q 23, .tmp r]) (hp : tmps.getD p undef = .pointer (some ⟨g, 0, none⟩)) (hq : tmps.getD q undef = .pointer (some ⟨k, 0, none⟩)) (hr : tmps.getD r undef = y) (hg : w.heap[g]? = some (.cells #[x0, x1] 23 (0, 0))) (hk : w.heap[k]? = some (.cells #[z0, z1] 23 (0, 0))) :
    (results fn tmps).run Tryz.prog w = .ok (.tuple #[.agg #[x0, x1], .agg #[z0, z1], y]) w := by
  have hp' : tmps[p]?.getD undef = .pointer (some ⟨g, 0, none⟩) := by simpa using hp
  have hq' : tmps[q]?.getD undef = .pointer (some ⟨k, 0, none⟩) := by simpa using hq
  have hr' : tmps[r]?.getD undef = y := by simpa using hr
  obtain ⟨⟨c0, c1⟩, -⟩ := pk2 hg
  obtain ⟨⟨d0, d1⟩, -⟩ := pk2 hk
  simp [results, h, go_sem, hp', hq', hr', c0, c1, d0, d1]

structure PyB (w W : World) (a b c d : Int) : Prop where
  x : W.heap[w.heap.size]? = some (.cells #[.int .i64 a, .int .i64 b] 23 (0, 0))
  y : W.heap[w.heap.size + 1]? = some (.cells #[.int .i64 c, .int .i64 d] 23 (0, 0))
  r : W.heap[w.heap.size + 2]? = some (.cells #[.int .i64 0, .int .i64 0] 23 (0, 0))
  s : W.heap[w.heap.size + 3]? = some (.cells #[.int .i64 0, .int .i64 0] 23 (0, 0))
  below : Below w.heap.size w W
theorem PyB.after {w W W' : World} {a b c d : Int} (h : PyB w W a b c d) (hb : Below W.heap.size W W') : PyB w W' a b c d :=
  ⟨(hb.block _ (lt_of_heap h.x)).trans h.x, (hb.block _ (lt_of_heap h.y)).trans h.y, (hb.block _ (lt_of_heap h.r)).trans h.r, (hb.block _ (lt_of_heap h.s)).trans h.s, bc_then h.below hb⟩
theorem PyB.new (w : World) (a b c d : Int) : PyB w ((((w.alloc (.cells #[.int .i64 a, .int .i64 b] 23)).alloc (.cells #[.int .i64 c, .int .i64 d] 23)).alloc (.cells #[.int .i64 0, .int .i64 0] 23)).alloc (.cells #[.int .i64 0, .int .i64 0] 23)) a b c d := by
  have hb : Below w.heap.size w ((((w.alloc (.cells #[.int .i64 a, .int .i64 b] 23)).alloc (.cells #[.int .i64 c, .int .i64 d] 23)).alloc (.cells #[.int .i64 0, .int .i64 0] 23)).alloc (.cells #[.int .i64 0, .int .i64 0] 23)) := below_al (below_al (below_al (below_al (Below.refl _ _) _) _) _) _
  refine ⟨?_, ?_, ?_, ?_, hb⟩
  all_goals
    simp only [heap_alloc_if, World.size_alloc]
    repeat (first | rw [if_neg (by omega)] | rw [if_pos (by first | trivial | omega)])

theorem payA_eq (a b : Ac) (n : Int) : payA a b n = if rightA a && rightA b then (if (spendA a n).2 = 0 then (if (earnA b n).2 = 0 then ((spendA a n).1, (earnA b n).1, 0) else (Ac.zero, Ac.zero, (earnA b n).2)) else (Ac.zero, Ac.zero, (spendA a n).2)) else (Ac.zero, Ac.zero, 130) := rfl
theorem st22 {w : World} {g k : Nat} (hne : g ≠ k) {a0 a1 b0 b1 : Value} {t : TypeId} (hg : w.heap[g]? = some (.cells #[a0, a1] t (0, 0))) (hk : w.heap[k]? = some (.cells #[b0, b1] t (0, 0))) (v0 v1 u0 u1 : Value) :
    ((((w.setCell ⟨g, 0, none⟩ v0).setCell ⟨g, 1, none⟩ v1).setCell ⟨k, 0, none⟩ u0).setCell ⟨k, 1, none⟩ u1).heap[g]? = some (.cells #[v0, v1] t (0, 0)) ∧ ((((w.setCell ⟨g, 0, none⟩ v0).setCell ⟨g, 1, none⟩ v1).setCell ⟨k, 0, none⟩ u0).setCell ⟨k, 1, none⟩ u1).heap[k]? = some (.cells #[u0, u1] t (0, 0)) := by
  constructor
  · rw [Below.heap_setCell _ _ _ _ hne, Below.heap_setCell _ _ _ _ hne]
    exact st2 hg _ _
  · refine st2 (a0 := b0) (a1 := b1) ?_ _ _
    rw [Below.heap_setCell _ _ _ _ (fun h => hne h.symm), Below.heap_setCell _ _ _ _ (fun h => hne h.symm)]
    exact hk

theorem tu1 (X : World) (b6 b7 : Nat) (v0 v1 : Value) : Turned (fun k => k = b6 ∨ k = b7) X ((X.setCell ⟨b6, 0, none⟩ v0).setCell ⟨b6, 1, none⟩ v1) :=
  ((Turned.refl (fun k => k = b6 ∨ k = b7) X).setCell (p := ⟨b6, 0, none⟩) (Or.inl rfl) v0).setCell (p := ⟨b6, 1, none⟩) (Or.inl rfl) v1
theorem tu2 (X : World) (b6 b7 : Nat) (v0 v1 u0 u1 : Value) : Turned (fun k => k = b6 ∨ k = b7) X ((((X.setCell ⟨b6, 0, none⟩ v0).setCell ⟨b6, 1, none⟩ v1).setCell ⟨b7, 0, none⟩ u0).setCell ⟨b7, 1, none⟩ u1) :=
  ((tu1 X b6 b7 v0 v1).setCell (p := ⟨b7, 0, none⟩) (Or.inr rfl) u0).setCell (p := ⟨b7, 1, none⟩) (Or.inr rfl) u1
end Go.Proofs.YtfjjodkapofgjaaGreatDoor
