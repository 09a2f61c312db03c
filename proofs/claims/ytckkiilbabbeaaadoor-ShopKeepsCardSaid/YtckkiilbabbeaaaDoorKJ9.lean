/- Accounts, by the program: Bytes, Parse, changed, Deposit, Withdraw, Earn, Spend, Pay. -/
import Derived.Test.YtckkiilbabbeaaaDoorKJ90
import Derived.Test.YtckkiilbabbeaaaDoorKZ1
import Derived.Test.YtckkiilbabbeaaaDoorKZ3
namespace Go.Proofs.YtckkiilbabbeaaaDoor
open Go Go.RowKit Sm
attribute [local go_sem] Oper.semAt_some

set_option maxRecDepth 20000 in
set_option maxHeartbeats 1000000 in
theorem acchanged_any (a : Ac) (ha : a.Ok) (n : Int) (w : World) (hS : MSent w) (cf : FuncId) (heg : ∀ args w, (callFunc cf args).run Tryd.prog w = .ok (.enter cf args) w) (X : Ac) (ec : Int)
    (hwork : rightA a = true → ∀ W, Below w.heap.size w W → Calls Tryd.prog cf #[a.v, .int .i64 n] W fun e w' => e = .returned (.tuple #[X.v, .int .i64 ec]) ∧ Below W.heap.size W w') :
    Calls Tryd.prog 68 #[a.v, .func (.func cf) #[a.v] #[], .int .i64 n] w fun e w' => e = .returned (.tuple #[(if rightA a then (X, ec) else (Ac.zero, 130)).1.v, .int .i64 (if rightA a then (X, ec) else (Ac.zero, 130)).2]) ∧ Below w.heap.size w w' := by
  have HR : Veil (∀ W, Below w.heap.size w W → Calls Tryd.prog 86 #[a.v] W fun e w' => e = .returned (.bool (rightA a)) ∧ Below W.heap.size W w') := ⟨fun W hb => acright_any a ha W (hS.below hb)⟩
  have HWk : Veil _ := ⟨hwork⟩
  clear hwork
  generalize rightA a = r at HR HWk ⊢
  obtain ⟨W, B⟩ := a
  obtain ⟨x, y⟩ := X
  unfold Ac.v at *
  dsimp only at *
  clear ha hS
  cases r
  · rw [if_neg (by decide)]
    dsimp only [Ac.zero]
    go_enter Tryd.func68, Tryd.ntmps68
    go_wp2_with (go_at_call 86; refine (HR.out _ (AcB.new w W B).below).mono ?_; rintro e w1 ⟨rfl, hb1⟩; have HB : Veil _ := ⟨(AcB.new w W B).after hb1⟩; obtain ⟨⟨c0, c1⟩, -⟩ := pk2 HB.out.box; obtain ⟨⟨y0, y1⟩, f0, f1⟩ := pk2 HB.out.res)
    exact bodyPost_ret (results_acc2 (g := w.heap.size + 1) rfl rfl rfl (st2 HB.out.res _ _)) rfl ⟨rfl, tn2 HB.out.below (by omega) _ _⟩
  · have HWq : Veil _ := ⟨HWk.out rfl⟩
    clear HWk
    rw [if_pos rfl]
    go_enter Tryd.func68, Tryd.ntmps68
    go_wp2_with (first
      | (go_at_call 86; refine (HR.out _ (AcB.new w W B).below).mono ?_; rintro e w1 ⟨rfl, hb1⟩; have HB : Veil _ := ⟨(AcB.new w W B).after hb1⟩; obtain ⟨⟨c0, c1⟩, -⟩ := pk2 HB.out.box; obtain ⟨⟨y0, y1⟩, f0, f1⟩ := pk2 HB.out.res)
      | (refine (HWq.out _ HB.out.below).mono ?_; rintro e w2 ⟨rfl, hb2⟩; have HB : Veil _ := ⟨HB.out.after hb2⟩; obtain ⟨⟨y0, y1⟩, f0, f1⟩ := pk2 HB.out.res))
    exact bodyPost_ret (results_acc2 (g := w.heap.size + 1) rfl rfl rfl (st2 HB.out.res _ _)) rfl ⟨rfl, tn2 HB.out.below (by omega) _ _⟩

/-- A purse's box, and the result's, behind calls. -/
structure PuB (w W : World) (a b : Int) : Prop where
  box : W.heap[w.heap.size]? = some (.cells #[.int .i64 a, .int .i64 b] 103 (0, 0))
  res : W.heap[w.heap.size + 1]? = some (.cells #[.int .i64 0, .int .i64 0] 37 (0, 0))
  below : Below w.heap.size w W
theorem PuB.new (w : World) (a b : Int) : PuB w ((w.alloc (.cells #[.int .i64 a, .int .i64 b] 103)).alloc (.cells #[.int .i64 0, .int .i64 0] 37)) a b :=
  ⟨heap_alloc2_old _ _ _, heap_alloc2_new _ _ _, below_al (below_al (Below.refl _ _) _) _⟩
theorem PuB.after {w W W' : World} {a b : Int} (h : PuB w W a b) (hb : Below W.heap.size W W') : PuB w W' a b :=
  ⟨(hb.block _ (lt_of_heap h.box)).trans h.box, (hb.block _ (lt_of_heap h.res)).trans h.res, bc_then h.below hb⟩
theorem PuB.set {w W : World} {a b : Int} (h : PuB w W a b) (v : Int) : PuB w (W.setCell ⟨w.heap.size, 0, none⟩ (.int .i64 v)) v b :=
  ⟨heap_setCell_at h.box 0 _, by rw [Below.heap_setCell _ _ _ _ (by dsimp only; omega)]; exact h.res, h.below.setCell (Nat.le_refl _) _⟩


set_option maxRecDepth 20000 in
set_option maxHeartbeats 1000000 in
theorem acpearn_any (a : Ac) (ha : a.Ok) (n : Int) (hn : I64 n) (hr : rightA a = true) (w : World) (hS : MSent w) : Calls Tryd.prog 70 #[a.v, .int .i64 n] w fun e w' => e = .returned (.tuple #[(earnA a n).1.v, .int .i64 (earnA a n).2]) ∧ Below w.heap.size w w' := by
  have HT : Veil (∀ (W : World) (g : Nat), g = W.heap.size → Below w.heap.size w W → Calls Tryd.prog 87 #[.slice (some ⟨g, 0, none⟩) 3 3] (W.alloc (.cells #[.int .i64 a.w, .int .i64 n, .int .i64 a.b] 2)) fun e w' => e = .returned (.int .i64 (earnA a n).2) ∧ Below W.heap.size W w') := ⟨fun W g hg hb => by
    subst hg
    refine (actogether_any (w := W.alloc (.cells #[.int .i64 a.w, .int .i64 n, .int .i64 a.b] 2)) [a.w, n, a.b] 3 (by simp) (by intro m hm; simp only [List.mem_cons, List.not_mem_nil, or_false] at hm; rcases hm with rfl | rfl | rfl; exact ha.w; exact hn; exact ha.b) (els_three W a.w n a.b _) (hS.below (below_al hb _))).mono ?_
    rintro e w' ⟨h1, h2⟩
    exact ⟨by rw [h1, tog_earn a.w a.b n hr], bc_then (below_al (Below.refl _ _) _) h2⟩⟩
  have hE : (earnA a n).2 ≠ 0 ∧ (earnA a n).1 = Ac.zero ∨ (earnA a n).2 = 0 ∧ (earnA a n).1 = ⟨a.w + n, a.b⟩ ∧ wrap64 (a.w + n) = a.w + n := by
    by_cases h : (earnA a n).2 = 0
    · obtain ⟨-, h2, h3, h4⟩ := earnA_ok a n h
      obtain ⟨r1, -, -⟩ := (rightA_iff _).1 h4
      rw [amt_iff] at r1
      dsimp only at r1
      refine .inr ⟨h, by rw [h3], ?_⟩
      unfold wrap64
      omega
    · refine .inl ⟨h, ?_⟩
      unfold earnA at h ⊢
      rw [if_pos hr] at h ⊢
      by_cases h1 : (addA a.w n).2 = 0
      · rw [if_pos h1] at h ⊢
        by_cases h2 : (addA (addA a.w n).1 a.b).2 = 0
        · rw [if_pos h2] at h; exact absurd rfl h
        · rw [if_neg h2]
      · rw [if_neg h1]
  clear ha hn hr hS
  generalize earnA a n = x at HT hE ⊢
  obtain ⟨X, c⟩ := x
  obtain ⟨W, B⟩ := a
  unfold Ac.v
  dsimp only at *
  have HB : Veil _ := ⟨PuB.new w W B⟩
  rcases hE with ⟨h0, rfl⟩ | ⟨rfl, rfl, hwr⟩
  · dsimp only [Ac.zero]
    go_enter Tryd.func70, Tryd.ntmps70
    go_wp2_with (go_at_call 87; refine (HT.out _ _ (by simp) HB.out.below).mono ?_; rintro e w1 ⟨rfl, hb1⟩; have HB : Veil _ := ⟨HB.out.after hb1⟩; obtain ⟨⟨c0, c1⟩, h0, h1⟩ := pk2 HB.out.box; obtain ⟨⟨y0, y1⟩, f0, f1⟩ := pk2 HB.out.res)
    exact bodyPost_ret (results_acc2 (g := w.heap.size + 1) rfl rfl rfl (st2 HB.out.res _ _)) rfl ⟨rfl, tn2 HB.out.below (by omega) _ _⟩
  · dsimp only
    obtain ⟨S, hS⟩ : ∃ S, W + n = S := ⟨_, rfl⟩
    rw [hS] at hwr ⊢
    have HSv : Veil _ := ⟨hS⟩
    have HWr : Veil (wrap64 (W + n) = S) := ⟨by rw [hS]; exact hwr⟩
    clear hS hwr
    go_enter Tryd.func70, Tryd.ntmps70
    go_wp2_with (go_at_call 87; refine (HT.out _ _ (by simp) HB.out.below).mono ?_; rintro e w1 ⟨rfl, hb1⟩; have hwr := HWr.out; have HB : Veil _ := ⟨HB.out.after hb1⟩; obtain ⟨⟨c0, c1⟩, h0, h1⟩ := pk2 HB.out.box; obtain ⟨⟨y0, y1⟩, f0, f1⟩ := pk2 HB.out.res; have HB : Veil _ := ⟨HB.out.set S⟩; obtain ⟨⟨z0, z1⟩, -⟩ := pk2 HB.out.res)
    exact bodyPost_ret (results_acc2 (g := w.heap.size + 1) rfl rfl rfl (st2 HB.out.res _ _)) rfl ⟨rfl, tn2 HB.out.below (by omega) _ _⟩

set_option maxRecDepth 20000 in
set_option maxHeartbeats 1000000 in
theorem acpspend_any (a : Ac) (ha : a.Ok) (n : Int) (hn : I64 n) (hr : rightA a = true) (w : World) (hS : MSent w) : Calls Tryd.prog 69 #[a.v, .int .i64 n] w fun e w' => e = .returned (.tuple #[(spendA a n).1.v, .int .i64 (spendA a n).2]) ∧ Below w.heap.size w w' := by
  have HM : Veil (∀ W, Below w.heap.size w W → Calls Tryd.prog 65 #[.int .i64 a.w, .int .i64 n] W fun e w' => e = .returned (.tuple #[.int .i64 (subA a.w n).1, .int .i64 (subA a.w n).2]) ∧ Below W.heap.size W w') := ⟨fun W hb => mosub_any a.w n ha.w hn W (hS.below hb)⟩
  have HD : spendA a n = (if (subA a.w n).2 = 0 then (⟨(subA a.w n).1, a.b⟩, 0) else (Ac.zero, (subA a.w n).2)) := by unfold spendA; rw [if_pos hr]
  rw [HD]
  clear HD ha hn hr hS
  generalize subA a.w n = x at HM ⊢
  obtain ⟨v, c⟩ := x
  obtain ⟨W, B⟩ := a
  unfold Ac.v
  dsimp only at *
  have HB : Veil _ := ⟨PuB.new w W B⟩
  by_cases h0 : c = 0
  · subst h0
    rw [if_pos rfl]
    dsimp only
    go_enter Tryd.func69, Tryd.ntmps69
    go_wp2_with (go_at_call 65; refine (HM.out _ HB.out.below).mono ?_; rintro e w1 ⟨rfl, hb1⟩; have HB : Veil _ := ⟨HB.out.after hb1⟩; obtain ⟨⟨c0, c1⟩, h0, h1⟩ := pk2 HB.out.box; obtain ⟨⟨y0, y1⟩, f0, f1⟩ := pk2 HB.out.res; have HB : Veil _ := ⟨HB.out.set v⟩; obtain ⟨⟨z0, z1⟩, -⟩ := pk2 HB.out.res)
    exact bodyPost_ret (results_acc2 (g := w.heap.size + 1) rfl rfl rfl (st2 HB.out.res _ _)) rfl ⟨rfl, tn2 HB.out.below (by omega) _ _⟩
  · rw [if_neg h0]
    dsimp only [Ac.zero]
    go_enter Tryd.func69, Tryd.ntmps69
    go_wp2_with (go_at_call 65; refine (HM.out _ HB.out.below).mono ?_; rintro e w1 ⟨rfl, hb1⟩; have HB : Veil _ := ⟨HB.out.after hb1⟩; obtain ⟨⟨c0, c1⟩, h0, h1⟩ := pk2 HB.out.box; obtain ⟨⟨y0, y1⟩, f0, f1⟩ := pk2 HB.out.res)
    exact bodyPost_ret (results_acc2 (g := w.heap.size + 1) rfl rfl rfl (st2 HB.out.res _ _)) rfl ⟨rfl, tn2 HB.out.below (by omega) _ _⟩

set_option maxRecDepth 20000 in
set_option maxHeartbeats 1000000 in
theorem acearn_any (a : Ac) (ha : a.Ok) (n : Int) (hn : I64 n) (w : World) (hS : MSent w) : Calls Tryd.prog 55 #[a.v, .int .i64 n] w fun e w' => e = .returned (.tuple #[(earnA a n).1.v, .int .i64 (earnA a n).2]) ∧ Below w.heap.size w w' := by
  have he : earnA a n = if rightA a then ((earnA a n).1, (earnA a n).2) else (Ac.zero, 130) := by by_cases h : rightA a = true; (rw [if_pos h]); (rw [if_neg h]; unfold earnA; rw [if_neg h])
  have HC : Veil (∀ W, Below w.heap.size w W → Calls Tryd.prog 68 #[a.v, .func (.func 70) #[a.v] #[], .int .i64 n] W fun e w' => e = .returned (.tuple #[(earnA a n).1.v, .int .i64 (earnA a n).2]) ∧ Below W.heap.size W w') := ⟨fun W hb => by
    rw [he]
    exact acchanged_any a ha n W (hS.below hb) 70 (enters_of Tryd.func70 (by kernel_rfl) rfl) (earnA a n).1 (earnA a n).2 (fun hr W' hb' => acpearn_any a ha n hn hr W' (hS.below (bc_then hb hb')))⟩
  clear he
  generalize earnA a n = r at HC ⊢
  obtain ⟨⟨x, y⟩, c⟩ := r
  obtain ⟨W, B⟩ := a
  unfold Ac.v at *
  dsimp only at *
  clear ha hn hS
  have HB : Veil _ := ⟨AcB.new w W B⟩
  go_enter Tryd.func55, Tryd.ntmps55
  go_wp2_with (go_at_call 68; refine (HC.out _ HB.out.below).mono ?_; rintro e w1 ⟨rfl, hb1⟩; have HB : Veil _ := ⟨HB.out.after hb1⟩; obtain ⟨⟨y0, y1⟩, f0, f1⟩ := pk2 HB.out.res)
  exact bodyPost_ret (results_acc2 (g := w.heap.size + 1) rfl rfl rfl (st2 HB.out.res _ _)) rfl ⟨rfl, tn2 HB.out.below (by omega) _ _⟩

set_option maxRecDepth 20000 in
set_option maxHeartbeats 1000000 in
theorem acspend_any (a : Ac) (ha : a.Ok) (n : Int) (hn : I64 n) (w : World) (hS : MSent w) : Calls Tryd.prog 54 #[a.v, .int .i64 n] w fun e w' => e = .returned (.tuple #[(spendA a n).1.v, .int .i64 (spendA a n).2]) ∧ Below w.heap.size w w' := by
  have he : spendA a n = if rightA a then ((spendA a n).1, (spendA a n).2) else (Ac.zero, 130) := by by_cases h : rightA a = true; (rw [if_pos h]); (rw [if_neg h]; unfold spendA; rw [if_neg h])
  have HC : Veil (∀ W, Below w.heap.size w W → Calls Tryd.prog 68 #[a.v, .func (.func 69) #[a.v] #[], .int .i64 n] W fun e w' => e = .returned (.tuple #[(spendA a n).1.v, .int .i64 (spendA a n).2]) ∧ Below W.heap.size W w') := ⟨fun W hb => by
    rw [he]
    exact acchanged_any a ha n W (hS.below hb) 69 (enters_of Tryd.func69 (by kernel_rfl) rfl) (spendA a n).1 (spendA a n).2 (fun hr W' hb' => acpspend_any a ha n hn hr W' (hS.below (bc_then hb hb')))⟩
  clear he
  generalize spendA a n = r at HC ⊢
  obtain ⟨⟨x, y⟩, c⟩ := r
  obtain ⟨W, B⟩ := a
  unfold Ac.v at *
  dsimp only at *
  clear ha hn hS
  have HB : Veil _ := ⟨AcB.new w W B⟩
  go_enter Tryd.func54, Tryd.ntmps54
  go_wp2_with (go_at_call 68; refine (HC.out _ HB.out.below).mono ?_; rintro e w1 ⟨rfl, hb1⟩; have HB : Veil _ := ⟨HB.out.after hb1⟩; obtain ⟨⟨y0, y1⟩, f0, f1⟩ := pk2 HB.out.res)
  exact bodyPost_ret (results_acc2 (g := w.heap.size + 1) rfl rfl rfl (st2 HB.out.res _ _)) rfl ⟨rfl, tn2 HB.out.below (by omega) _ _⟩

set_option maxRecDepth 20000 in
set_option maxHeartbeats 8000000 in
theorem acpay_any (a b : Ac) (ha : a.Ok) (hb : b.Ok) (n : Int) (hn : I64 n) (w : World) (hS : MSent w) : Calls Tryd.prog 40 #[a.v, b.v, .int .i64 n] w fun e w' => e = .returned (.tuple #[(payA a b n).1.v, (payA a b n).2.1.v, .int .i64 (payA a b n).2.2]) ∧ Below w.heap.size w w' := by
  have HS : Veil _ := ⟨fun W (hb : Below w.heap.size w W) => acspend_any a ha n hn W (hS.below hb)⟩
  have HE : Veil _ := ⟨fun W (hb' : Below w.heap.size w W) => acearn_any b hb n hn W (hS.below hb')⟩
  have HAR : Veil (∀ (W : World) (g : Nat), g = W.heap.size → Below w.heap.size w W → Calls Tryd.prog 53 #[.slice (some ⟨g, 0, none⟩) 2 2] (W.alloc (.cells #[.int .i64 a.w, .int .i64 a.b, .int .i64 b.w, .int .i64 b.b] 37)) fun e w' => e = .returned (.bool (rightA a && rightA b)) ∧ Below W.heap.size W w') := ⟨fun W g hg hb' => by
    subst hg
    refine (acall_any (w := W.alloc (.cells #[.int .i64 a.w, .int .i64 a.b, .int .i64 b.w, .int .i64 b.b] 37)) [a, b] 2 (elsA_two W a b _) (by simp) (by intro n hn; simp only [List.mem_cons, List.not_mem_nil, or_false] at hn; rcases hn with rfl | rfl; exact ha; exact hb) (hS.below (below_al hb' _))).mono ?_
    rintro e w' ⟨h1, h2⟩
    exact ⟨by rw [h1]; simp, bc_then (below_al (Below.refl _ _) _) h2⟩⟩
  have HD : Veil _ := ⟨payA_eq a b n⟩
  rw [HD.out]
  clear HD
  generalize spendA a n = x at HS
  generalize earnA b n = y at HE
  generalize (rightA a && rightA b) = r1 at HAR
  obtain ⟨⟨xw, xb⟩, c1⟩ := x
  obtain ⟨⟨yw, yb⟩, c2⟩ := y
  obtain ⟨W, B⟩ := a
  obtain ⟨W2, B2⟩ := b
  unfold Ac.v at *
  dsimp only at *
  clear ha hb hn hS
  cases r1
  · rw [if_neg (by decide)]
    dsimp only [Ac.zero]
    go_enter Tryd.func40, Tryd.ntmps40
    go_wp2_with (first
      | (go_at_call 53; refine (HAR.out _ _ (by simp) (PyB.new w W B W2 B2).below).mono ?_; rintro e w2 ⟨rfl, hb2⟩; have HB2 : Veil _ := ⟨(PyB.new w W B W2 B2).after hb2⟩; obtain ⟨⟨c0, c1⟩, -⟩ := pk2 HB2.out.x; obtain ⟨⟨d0, d1⟩, -⟩ := pk2 HB2.out.y; obtain ⟨⟨y0, y1⟩, f0, f1⟩ := pk2 HB2.out.r; obtain ⟨⟨z0, z1⟩, g0, g1⟩ := pk2 HB2.out.s))
    exact bodyPost_ret (results_acc22 (g := w.heap.size + 2) (k := w.heap.size + 3) rfl rfl rfl rfl (st22 (by omega) HB2.out.r HB2.out.s _ _ _ _).1 (st22 (by omega) HB2.out.r HB2.out.s _ _ _ _).2) rfl ⟨rfl, tn2 (tn2 HB2.out.below (by omega) _ _) (by omega) _ _⟩
  rw [if_pos rfl]
  by_cases h1 : c1 = 0
  · subst h1
    rw [if_pos rfl]
    by_cases h2 : c2 = 0
    · subst h2
      rw [if_pos rfl]
      dsimp only
      go_enter Tryd.func40, Tryd.ntmps40
      go_wp2_with (first
        | (go_at_call 55; (with_reducible refine (HE.out _ HB3.out.below).mono ?_); rintro e w4 ⟨rfl, hb4⟩; have HX4 : Veil _ := ⟨(hb4.block _ (lt_of_heap HX3.out)).trans HX3.out⟩; have HB4 : Veil _ := ⟨HB3.out.after hb4⟩; have HB5 : Veil _ := ⟨HB4.out.after (below_al (Below.refl _ w4) (.cells #[.int .i64 yw, .int .i64 yb] 37))⟩; obtain ⟨⟨c0, c1⟩, -⟩ := pk2 HB5.out.x; obtain ⟨⟨d0, d1⟩, -⟩ := pk2 HB5.out.y; obtain ⟨⟨y0, y1⟩, f0, f1⟩ := pk2 HB5.out.r; obtain ⟨⟨z0, z1⟩, g0, g1⟩ := pk2 HB5.out.s)
        | (go_at_call 54; (with_reducible refine (HS.out _ HB2.out.below).mono ?_); rintro e w3 ⟨rfl, hb3⟩; have HX3 : Veil ((w3.alloc (.cells #[.int .i64 xw, .int .i64 xb] 37)).heap[w3.heap.size]? = some (.cells #[.int .i64 xw, .int .i64 xb] 37 (0, 0))) := ⟨heap_alloc_new _ _⟩; have HB3 : Veil _ := ⟨(HB2.out.after hb3).after (below_al (Below.refl _ w3) (.cells #[.int .i64 xw, .int .i64 xb] 37))⟩; obtain ⟨⟨c0, c1⟩, -⟩ := pk2 HB3.out.x; obtain ⟨⟨d0, d1⟩, -⟩ := pk2 HB3.out.y; obtain ⟨⟨y0, y1⟩, f0, f1⟩ := pk2 HB3.out.r; obtain ⟨⟨z0, z1⟩, g0, g1⟩ := pk2 HB3.out.s)
        | (go_at_call 53; refine (HAR.out _ _ (by simp) (PyB.new w W B W2 B2).below).mono ?_; rintro e w2 ⟨rfl, hb2⟩; have HB2 : Veil _ := ⟨(PyB.new w W B W2 B2).after hb2⟩; obtain ⟨⟨c0, c1⟩, -⟩ := pk2 HB2.out.x; obtain ⟨⟨d0, d1⟩, -⟩ := pk2 HB2.out.y; obtain ⟨⟨y0, y1⟩, f0, f1⟩ := pk2 HB2.out.r; obtain ⟨⟨z0, z1⟩, g0, g1⟩ := pk2 HB2.out.s))
      have HX5 : Veil ((w4.alloc (.cells #[.int .i64 yw, .int .i64 yb] 37)).heap[w4.heap.size]? = some (.cells #[.int .i64 yw, .int .i64 yb] 37 (0, 0)) ∧ (w4.alloc (.cells #[.int .i64 yw, .int .i64 yb] 37)).heap[w3.heap.size]? = some (.cells #[.int .i64 xw, .int .i64 xb] 37 (0, 0))) := ⟨heap_alloc_new _ _, ((below_al (Below.refl _ w4) (.cells #[.int .i64 yw, .int .i64 yb] 37)).block _ (lt_of_heap HX4.out)).trans HX4.out⟩
      obtain ⟨X, hX⟩ : ∃ X, w4.alloc (.cells #[.int .i64 yw, .int .i64 yb] 37) = X := ⟨_, rfl⟩
      have hlt4 : w.heap.size + 3 < w3.heap.size := (by have := lt_of_heap (HB2.out.after hb3).s; omega)
      have hlt5 : w3.heap.size < w4.heap.size := (by have := lt_of_heap HX3.out; have := hb4.size; simp at *; omega)
      rw [hX] at HX5 HB5 ⊢
      obtain ⟨b6, h6⟩ : ∃ b, w.heap.size + 1 + 1 = b := ⟨_, rfl⟩
      obtain ⟨b7, h7⟩ : ∃ b, w.heap.size + 1 + 1 + 1 = b := ⟨_, rfl⟩
      obtain ⟨b11, h11⟩ : ∃ b, w3.heap.size = b := ⟨_, rfl⟩
      obtain ⟨b13, h13⟩ : ∃ b, w4.heap.size = b := ⟨_, rfl⟩
      have HR6 : Veil (X.heap[b6]? = some (.cells #[.int .i64 0, .int .i64 0] 37 (0, 0)) ∧ X.heap[b7]? = some (.cells #[.int .i64 0, .int .i64 0] 37 (0, 0)) ∧ w.heap.size ≤ b6 ∧ w.heap.size ≤ b7 ∧ Below w.heap.size w X) := ⟨by rw [← h6]; exact HB5.out.r, by rw [← h7]; exact HB5.out.s, by omega, by omega, HB5.out.below⟩
      have n67 : b6 ≠ b7 := by omega
      have n611 : b6 ≠ b11 := by omega
      have n613 : b6 ≠ b13 := by omega
      have n711 : b7 ≠ b11 := by omega
      have n713 : b7 ≠ b13 := by omega
      rw [h11, h13] at HX5
      rw [h7, h6, h11, h13]
      clear hX h6 h7 h11 h13 hlt4 hlt5 c0 c1 d0 d1 y0 y1 z0 z1 f0 f1 g0 g1 hb2 hb3 hb4
      obtain ⟨⟨y0, y1⟩, f0, f1⟩ := pk2 HR6.out.1
      obtain ⟨⟨z0, z1⟩, g0, g1⟩ := pk2 HR6.out.2.1
      obtain ⟨⟨c0, c1⟩, -⟩ := pk2 HX5.out.2
      obtain ⟨⟨d0, d1⟩, -⟩ := pk2 HX5.out.1
      have HK : Veil (∀ W, Turned (fun k => k = b6 ∨ k = b7) X W → W.cell? ⟨b11, 0, none⟩ = some (.int .i64 xw) ∧ W.cell? ⟨b11, 1, none⟩ = some (.int .i64 xb) ∧ W.cell? ⟨b13, 0, none⟩ = some (.int .i64 yw) ∧ W.cell? ⟨b13, 1, none⟩ = some (.int .i64 yb)) := ⟨fun W h => ⟨h.cell c0 (by dsimp only; omega), h.cell c1 (by dsimp only; omega), h.cell d0 (by dsimp only; omega), h.cell d1 (by dsimp only; omega)⟩⟩
      go_region_held3 (fun W => (W.cell? ⟨b11, 0, none⟩ = some (.int .i64 xw) ∧ W.cell? ⟨b11, 1, none⟩ = some (.int .i64 xb) ∧ W.cell? ⟨b13, 0, none⟩ = some (.int .i64 yw) ∧ W.cell? ⟨b13, 1, none⟩ = some (.int .i64 yb))) (first | assumption | exact HK.out _ (Turned.refl _ _).drew | exact HK.out _ (tu1 X b6 b7 _ _).drew | exact HK.out _ (tu2 X b6 b7 _ _ _ _).drew) (fail)
      all_goals
        go_wp2
        refine bodyPost_ret (results_acc22 (g := b6) (k := b7) rfl rfl rfl rfl (st22 n67 HR6.out.1 HR6.out.2.1 _ _ _ _).1 (st22 n67 HR6.out.1 HR6.out.2.1 _ _ _ _).2) rfl ⟨rfl, (tn2 (tn2 HR6.out.2.2.2.2 HR6.out.2.2.1 _ _) HR6.out.2.2.2.1 _ _).drew⟩
    · rw [if_neg h2]
      dsimp only [Ac.zero]
      go_enter Tryd.func40, Tryd.ntmps40
      go_wp2_with (first
        | (go_at_call 55; (with_reducible refine (HE.out _ HB3.out.below).mono ?_); rintro e w4 ⟨rfl, hb4⟩; have HX4 : Veil _ := ⟨(hb4.block _ (lt_of_heap HX3.out)).trans HX3.out⟩; have HB4 : Veil _ := ⟨HB3.out.after hb4⟩; have HB5 : Veil _ := ⟨HB4.out.after (below_al (Below.refl _ w4) (.cells #[.int .i64 yw, .int .i64 yb] 37))⟩; obtain ⟨⟨c0, c1⟩, -⟩ := pk2 HB5.out.x; obtain ⟨⟨d0, d1⟩, -⟩ := pk2 HB5.out.y; obtain ⟨⟨y0, y1⟩, f0, f1⟩ := pk2 HB5.out.r; obtain ⟨⟨z0, z1⟩, g0, g1⟩ := pk2 HB5.out.s)
        | (go_at_call 54; (with_reducible refine (HS.out _ HB2.out.below).mono ?_); rintro e w3 ⟨rfl, hb3⟩; have HX3 : Veil ((w3.alloc (.cells #[.int .i64 xw, .int .i64 xb] 37)).heap[w3.heap.size]? = some (.cells #[.int .i64 xw, .int .i64 xb] 37 (0, 0))) := ⟨heap_alloc_new _ _⟩; have HB3 : Veil _ := ⟨(HB2.out.after hb3).after (below_al (Below.refl _ w3) (.cells #[.int .i64 xw, .int .i64 xb] 37))⟩; obtain ⟨⟨c0, c1⟩, -⟩ := pk2 HB3.out.x; obtain ⟨⟨d0, d1⟩, -⟩ := pk2 HB3.out.y; obtain ⟨⟨y0, y1⟩, f0, f1⟩ := pk2 HB3.out.r; obtain ⟨⟨z0, z1⟩, g0, g1⟩ := pk2 HB3.out.s)
        | (go_at_call 53; refine (HAR.out _ _ (by simp) (PyB.new w W B W2 B2).below).mono ?_; rintro e w2 ⟨rfl, hb2⟩; have HB2 : Veil _ := ⟨(PyB.new w W B W2 B2).after hb2⟩; obtain ⟨⟨c0, c1⟩, -⟩ := pk2 HB2.out.x; obtain ⟨⟨d0, d1⟩, -⟩ := pk2 HB2.out.y; obtain ⟨⟨y0, y1⟩, f0, f1⟩ := pk2 HB2.out.r; obtain ⟨⟨z0, z1⟩, g0, g1⟩ := pk2 HB2.out.s))
      exact bodyPost_ret (results_acc22 (g := w.heap.size + 2) (k := w.heap.size + 3) rfl rfl rfl rfl (st22 (by omega) HB5.out.r HB5.out.s _ _ _ _).1 (st22 (by omega) HB5.out.r HB5.out.s _ _ _ _).2) rfl ⟨rfl, tn2 (tn2 HB5.out.below (by omega) _ _) (by omega) _ _⟩
  · rw [if_neg h1]
    dsimp only [Ac.zero]
    go_enter Tryd.func40, Tryd.ntmps40
    go_wp2_with (first
      | (go_at_call 54; (with_reducible refine (HS.out _ HB2.out.below).mono ?_); rintro e w3 ⟨rfl, hb3⟩; have HX3 : Veil ((w3.alloc (.cells #[.int .i64 xw, .int .i64 xb] 37)).heap[w3.heap.size]? = some (.cells #[.int .i64 xw, .int .i64 xb] 37 (0, 0))) := ⟨heap_alloc_new _ _⟩; have HB3 : Veil _ := ⟨(HB2.out.after hb3).after (below_al (Below.refl _ w3) (.cells #[.int .i64 xw, .int .i64 xb] 37))⟩; obtain ⟨⟨c0, c1⟩, -⟩ := pk2 HB3.out.x; obtain ⟨⟨d0, d1⟩, -⟩ := pk2 HB3.out.y; obtain ⟨⟨y0, y1⟩, f0, f1⟩ := pk2 HB3.out.r; obtain ⟨⟨z0, z1⟩, g0, g1⟩ := pk2 HB3.out.s)
      | (go_at_call 53; refine (HAR.out _ _ (by simp) (PyB.new w W B W2 B2).below).mono ?_; rintro e w2 ⟨rfl, hb2⟩; have HB2 : Veil _ := ⟨(PyB.new w W B W2 B2).after hb2⟩; obtain ⟨⟨c0, c1⟩, -⟩ := pk2 HB2.out.x; obtain ⟨⟨d0, d1⟩, -⟩ := pk2 HB2.out.y; obtain ⟨⟨y0, y1⟩, f0, f1⟩ := pk2 HB2.out.r; obtain ⟨⟨z0, z1⟩, g0, g1⟩ := pk2 HB2.out.s))
    exact bodyPost_ret (results_acc22 (g := w.heap.size + 2) (k := w.heap.size + 3) rfl rfl rfl rfl (st22 (by omega) HB3.out.r HB3.out.s _ _ _ _).1 (st22 (by omega) HB3.out.r HB3.out.s _ _ _ _).2) rfl ⟨rfl, tn2 (tn2 HB3.out.below (by omega) _ _) (by omega) _ _⟩
end Go.Proofs.YtckkiilbabbeaaaDoor

/- The laws on accounts: shown, AccountsTurn, AccountsTwice. -/
namespace Go.Proofs.YtckkiilbabbeaaaDoor
open Go Go.RowKit Sm
attribute [local go_sem] Oper.semAt_some

/-- An account in a box. -/
structure AcBox (w : World) (b : Nat) (x y : Int) : Prop where
  x : w.cell? ⟨b, 0, none⟩ = some (.int .i64 x)
  y : w.cell? ⟨b, 1, none⟩ = some (.int .i64 y)
theorem AcBox.new (w : World) (x y : Int) (T : TypeId) : AcBox (w.alloc (.cells #[.int .i64 x, .int .i64 y] T)) w.heap.size x y := by
  constructor <;> exact cell_whole (cur := [.int .i64 x, .int .i64 y]) (heap_alloc_new _ _) _
theorem AcBox.below {w w' : World} {b : Nat} {x y : Int} (h : AcBox w b x y) (hb : Below w.heap.size w w') : AcBox w' b x y :=
  ⟨(hb.cell (World.block_lt_of_cell? _ _ h.x)).trans h.x, (hb.cell (World.block_lt_of_cell? _ _ h.y)).trans h.y⟩
theorem zero_ok : Ac.zero.Ok := ⟨by unfold I64; decide, by unfold I64; decide⟩
theorem am_ok {x y : Int} (h : rightA ⟨x, y⟩ = true) : (⟨x, y⟩ : Ac).Ok := by
  obtain ⟨h1, h2, -⟩ := (rightA_iff _).1 h
  exact ⟨i64_am h1, i64_am h2⟩
theorem depositA_err (a : Ac) (n : Int) (h : (depositA a n).2 ≠ 0) : (depositA a n).1 = Ac.zero := by
  unfold depositA at h ⊢
  by_cases hr : rightA a = true
  · rw [if_pos hr] at h ⊢
    dsimp only at h ⊢
    unfold movA at h ⊢
    by_cases h1 : (subA a.w n).2 = 0
    · rw [if_pos h1] at h ⊢
      by_cases h2 : (addA a.b n).2 = 0
      · rw [if_pos h2] at h; exact absurd rfl h
      · rw [if_neg h2]; rfl
    · rw [if_neg h1]; rfl
  · rw [if_neg hr]
theorem deposit_ok64 (a : Ac) (_ : a.Ok) (n : Int) : (depositA a n).1.Ok := by
  by_cases h : (depositA a n).2 = 0
  · obtain ⟨-, -, -, h4, h5⟩ := depositA_ok a n h
    rw [h4]; exact am_ok h5
  · rw [depositA_err a n h]; exact zero_ok
theorem earnA_err (a : Ac) (n : Int) (h : (earnA a n).2 ≠ 0) : (earnA a n).1 = Ac.zero := by
  unfold earnA at h ⊢
  by_cases hr : rightA a = true
  · rw [if_pos hr] at h ⊢
    by_cases h1 : (addA a.w n).2 = 0
    · rw [if_pos h1] at h ⊢
      by_cases h2 : (addA (addA a.w n).1 a.b).2 = 0
      · rw [if_pos h2] at h; exact absurd rfl h
      · rw [if_neg h2]
    · rw [if_neg h1]
  · rw [if_neg hr]
theorem earn_ok64 (a : Ac) (_ : a.Ok) (n : Int) : (earnA a n).1.Ok := by
  by_cases h : (earnA a n).2 = 0
  · obtain ⟨-, -, h4, h5⟩ := earnA_ok a n h
    rw [h4]; exact am_ok h5
  · rw [earnA_err a n h]; exact zero_ok
abbrev AcAt (w0 : World) (f : FuncId) (x y n u v c : Int) : Prop := ∀ w, Below w0.heap.size w0 w → Calls Tryd.prog f #[.agg #[.int .i64 x, .int .i64 y], .int .i64 n] w fun e w' => e = .returned (.tuple #[.agg #[.int .i64 u, .int .i64 v], .int .i64 c]) ∧ Below w.heap.size w w'
theorem i64_small {n : Int} (h : 0 ≤ n ∧ n ≤ 1000) : I64 n := by unfold I64; omega

end Go.Proofs.YtckkiilbabbeaaaDoor

/- Numbers as bytes, one behind the other: what mails and listings share. -/
namespace Go.Proofs.YtckkiilbabbeaaaDoor
open Go Go.RowKit Sm
attribute [local go_sem] Oper.semAt_some

theorem putB_drop (v s : Nat) : ∀ d, (putB v (d + s)).drop d = putB v s
  | 0 => by rw [Nat.zero_add]; rfl
  | d + 1 => by rw [show d + 1 + s = (d + s) + 1 by omega, putB_succ]; exact putB_drop v s d
def fldB (x : Nat × Int) : List UInt8 := putB x.2.toNat x.1
theorem flds_take (L : List (Nat × Int)) (k : Nat) (h : k < L.length) : (L.take (k + 1)).flatMap fldB = (L.take k).flatMap fldB ++ fldB (L.getD k (0, 0)) := by
  rw [List.take_succ_eq_append_getElem h, List.flatMap_append]
  simp [List.getD, h]
theorem els_oneL (W : World) (y : Int) (t : TypeId) : Els elL (W.alloc (.cells #[.int .i64 y] t)) (some ⟨W.heap.size, 0, none⟩) [y] := by
  intro _
  refine ⟨_, _, rfl, ?_⟩
  intro k j hk hj
  have hj0 : j = 0 := Nat.lt_one_iff.1 hj
  subst hj0
  simp only [List.length_cons, List.length_nil] at hk
  match k, hk with
  | 0, _ => show _ = some (Value.int .i64 y); rw [show elL.z = 1 from rfl]; go_simp
theorem mobytes_one (y : Int) (hy : amt y = true) (w : World) (hS : MSent w) : ∀ (W : World) (g : Nat), g = W.heap.size → Below w.heap.size w W → Calls Tryd.prog 26 #[.slice (some ⟨g, 0, none⟩) 1 1] (W.alloc (.cells #[.int .i64 y] 2)) fun e w' => e = .returned (.tuple #[.string ⟨(putB y.toNat 8).toArray⟩, .int .i64 0]) ∧ Below W.heap.size W w' := fun W g hg hb => by
  subst hg
  refine (mobytes_any (w := W.alloc (.cells #[.int .i64 y] 2)) [y] 1 (els_oneL W y _) (by simp) (hS.below (below_al hb _))).mono ?_
  rintro e w' ⟨h1, h2⟩
  have e1 : bytesR [y] = (putB y.toNat 8, 0) := by
    unfold bytesR
    rw [if_pos (by simp [hy])]
    simp [bytesM]
  rw [e1] at h1
  exact ⟨h1, bc_then (below_al (Below.refl _ _) _) h2⟩
theorem getB_zeros (t : List UInt8) : ∀ n, getB (List.replicate n 0 ++ t) = getB t
  | 0 => by simp
  | n + 1 => by
    have h := getB_zeros t n
    rw [List.replicate_succ, List.cons_append]
    unfold getB at h ⊢
    rw [List.foldl_cons, show shl64 0 0 = 0 from rfl]
    exact h
theorem parse_eight (q : List UInt8) (h : q.length = 8) : parseR q = if getB q ≤ 1152921504606846976 then ([(getB q : Int)], 0) else ([], 110) := by
  have e : eightsM q = [getB q] := by
    have := eightsM_cons q [] h
    rw [List.append_nil] at this
    rw [this]
    rfl
  unfold parseR isM
  rw [e, h]
  by_cases hc : getB q ≤ 1152921504606846976
  · rw [if_pos (by simp [hc]), if_pos hc]; rfl
  · rw [if_neg (by simp; omega), if_neg hc]
theorem inl_of {α : Type} {E : El α} {w : World} {p : Option Addr} {L : List α} {c : Nat} (h : InL E w p L c) : ∀ W, Els E W p L → InL E W p L c := fun _ hE => ⟨hE, h.spot, h.nil0, h.le, h.cap⟩
theorem i64_few {n : Int} (h : 0 ≤ n ∧ n ≤ 1000) : I64 n := by unfold I64; omega
end Go.Proofs.YtckkiilbabbeaaaDoor
