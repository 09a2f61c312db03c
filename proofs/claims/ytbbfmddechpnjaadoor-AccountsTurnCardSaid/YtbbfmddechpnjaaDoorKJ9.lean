/- Accounts, by the program: Bytes, Parse, changed, Deposit, Withdraw, Earn, Spend, Pay. -/
import Derived.Test.YtbbfmddechpnjaaDoorKJ90
import Derived.Test.YtbbfmddechpnjaaDoorKZ1
import Derived.Test.YtbbfmddechpnjaaDoorKZ3
import Derived.Test.YtbbfmddechpnjaaDoorKCZ
import Derived.Test.YtbbfmddechpnjaaDoorKF1
namespace Go.Proofs.YtbbfmddechpnjaaDoor
open Go Go.RowKit Sm
attribute [local go_sem] Oper.semAt_some

set_option maxRecDepth 20000 in
set_option maxHeartbeats 1000000 in
theorem acchanged_any (a : Ac) (ha : a.Ok) (n : Int) (w : World) (hS : MSent w) (cf : FuncId) (heg : ∀ args w, (callFunc cf args).run Tryd.prog w = .ok (.enter cf args) w) (X : Ac) (ec : Int)
    (hwork : rightA a = true → ∀ W, Below w.heap.size w W → Calls Tryd.prog cf #[a.v, .int .i64 n] W fun e w' => e = .returned (.tuple #[X.v, .int .i64 ec]) ∧ Below W.heap.size W w') :
    Calls Tryd.prog 27 #[a.v, .func (.func cf) #[a.v] #[], .int .i64 n] w fun e w' => e = .returned (.tuple #[(if rightA a then (X, ec) else (Ac.zero, 130)).1.v, .int .i64 (if rightA a then (X, ec) else (Ac.zero, 130)).2]) ∧ Below w.heap.size w w' := by
  have HR : Veil (∀ W, Below w.heap.size w W → Calls Tryd.prog 20 #[a.v] W fun e w' => e = .returned (.bool (rightA a)) ∧ Below W.heap.size W w') := ⟨fun W hb => acright_any a ha W (hS.below hb)⟩
  have HWk : Veil _ := ⟨hwork⟩
  clear hwork
  generalize rightA a = r at HR HWk ⊢
  obtain ⟨W, B⟩ := a
  obtain ⟨x, y⟩ := X
  unfold Ac.v at *
  dsimp only at *
  clear ha hS
  cases r
  · rw [if_neg (by decide)]
    dsimp only [Ac.zero]
    go_enter Tryd.func27, Tryd.ntmps27
    go_wp2_with (go_at_call 20; refine (HR.out _ (AcB.new w W B).below).mono ?_; rintro e w1 ⟨rfl, hb1⟩; have HB : Veil _ := ⟨(AcB.new w W B).after hb1⟩; obtain ⟨⟨c0, c1⟩, -⟩ := pk2 HB.out.box; obtain ⟨⟨y0, y1⟩, f0, f1⟩ := pk2 HB.out.res)
    exact bodyPost_ret (results_acc2 (g := w.heap.size + 1) rfl rfl rfl (st2 HB.out.res _ _)) rfl ⟨rfl, tn2 HB.out.below (by omega) _ _⟩
  · have HWq : Veil _ := ⟨HWk.out rfl⟩
    clear HWk
    rw [if_pos rfl]
    go_enter Tryd.func27, Tryd.ntmps27
    go_wp2_with (first
      | (go_at_call 20; refine (HR.out _ (AcB.new w W B).below).mono ?_; rintro e w1 ⟨rfl, hb1⟩; have HB : Veil _ := ⟨(AcB.new w W B).after hb1⟩; obtain ⟨⟨c0, c1⟩, -⟩ := pk2 HB.out.box; obtain ⟨⟨y0, y1⟩, f0, f1⟩ := pk2 HB.out.res)
      | (refine (HWq.out _ HB.out.below).mono ?_; rintro e w2 ⟨rfl, hb2⟩; have HB : Veil _ := ⟨HB.out.after hb2⟩; obtain ⟨⟨y0, y1⟩, f0, f1⟩ := pk2 HB.out.res))
    exact bodyPost_ret (results_acc2 (g := w.heap.size + 1) rfl rfl rfl (st2 HB.out.res _ _)) rfl ⟨rfl, tn2 HB.out.below (by omega) _ _⟩

/-- A purse's box, and the result's, behind calls. -/
structure PuB (w W : World) (a b : Int) : Prop where
  box : W.heap[w.heap.size]? = some (.cells #[.int .i64 a, .int .i64 b] 42 (0, 0))
  res : W.heap[w.heap.size + 1]? = some (.cells #[.int .i64 0, .int .i64 0] 23 (0, 0))
  below : Below w.heap.size w W
theorem PuB.new (w : World) (a b : Int) : PuB w ((w.alloc (.cells #[.int .i64 a, .int .i64 b] 42)).alloc (.cells #[.int .i64 0, .int .i64 0] 23)) a b :=
  ⟨heap_alloc2_old _ _ _, heap_alloc2_new _ _ _, below_al (below_al (Below.refl _ _) _) _⟩
theorem PuB.after {w W W' : World} {a b : Int} (h : PuB w W a b) (hb : Below W.heap.size W W') : PuB w W' a b :=
  ⟨(hb.block _ (lt_of_heap h.box)).trans h.box, (hb.block _ (lt_of_heap h.res)).trans h.res, bc_then h.below hb⟩
theorem PuB.set {w W : World} {a b : Int} (h : PuB w W a b) (v : Int) : PuB w (W.setCell ⟨w.heap.size, 0, none⟩ (.int .i64 v)) v b :=
  ⟨heap_setCell_at h.box 0 _, by rw [Below.heap_setCell _ _ _ _ (by dsimp only; omega)]; exact h.res, h.below.setCell (Nat.le_refl _) _⟩


set_option maxRecDepth 20000 in
set_option maxHeartbeats 1000000 in
theorem acpdeposit_any (a : Ac) (ha : a.Ok) (n : Int) (hn : I64 n) (w : World) (hS : MSent w) : Calls Tryd.prog 28 #[a.v, .int .i64 n] w fun e w' => e = .returned (.tuple #[(⟨(movA a.w a.b n).1, (movA a.w a.b n).2.1⟩ : Ac).v, .int .i64 (movA a.w a.b n).2.2]) ∧ Below w.heap.size w w' := by
  have HM : Veil (∀ W, Below w.heap.size w W → Calls Tryd.prog 40 #[.int .i64 a.w, .int .i64 a.b, .int .i64 n] W fun e w' => e = .returned (.tuple #[.int .i64 (movA a.w a.b n).1, .int .i64 (movA a.w a.b n).2.1, .int .i64 (movA a.w a.b n).2.2]) ∧ Below W.heap.size W w') := ⟨fun W hb => momove_any a.w a.b n ha.w ha.b hn W (hS.below hb)⟩
  generalize movA a.w a.b n = x at HM ⊢
  obtain ⟨v, u, c⟩ := x
  obtain ⟨W, B⟩ := a
  unfold Ac.v
  dsimp only at *
  clear ha hn hS
  have HB : Veil _ := ⟨PuB.new w W B⟩
  go_enter Tryd.func28, Tryd.ntmps28
  go_wp2_with (go_at_call 40; refine (HM.out _ HB.out.below).mono ?_; rintro e w1 ⟨rfl, hb1⟩; have HB : Veil _ := ⟨HB.out.after hb1⟩; obtain ⟨⟨c0, c1⟩, h0, h1⟩ := pk2 HB.out.box; obtain ⟨⟨y0, y1⟩, f0, f1⟩ := pk2 HB.out.res)
  exact bodyPost_ret (results_acc2 (g := w.heap.size + 1) rfl rfl rfl (st2 HB.out.res _ _)) rfl ⟨rfl, tn2 HB.out.below (by omega) _ _⟩

set_option maxRecDepth 20000 in
set_option maxHeartbeats 1000000 in
theorem acpwithdraw_any (a : Ac) (ha : a.Ok) (n : Int) (hn : I64 n) (w : World) (hS : MSent w) : Calls Tryd.prog 30 #[a.v, .int .i64 n] w fun e w' => e = .returned (.tuple #[(⟨(movA a.b a.w n).2.1, (movA a.b a.w n).1⟩ : Ac).v, .int .i64 (movA a.b a.w n).2.2]) ∧ Below w.heap.size w w' := by
  have HM : Veil (∀ W, Below w.heap.size w W → Calls Tryd.prog 40 #[.int .i64 a.b, .int .i64 a.w, .int .i64 n] W fun e w' => e = .returned (.tuple #[.int .i64 (movA a.b a.w n).1, .int .i64 (movA a.b a.w n).2.1, .int .i64 (movA a.b a.w n).2.2]) ∧ Below W.heap.size W w') := ⟨fun W hb => momove_any a.b a.w n ha.b ha.w hn W (hS.below hb)⟩
  generalize movA a.b a.w n = x at HM ⊢
  obtain ⟨v, u, c⟩ := x
  obtain ⟨W, B⟩ := a
  unfold Ac.v
  dsimp only at *
  clear ha hn hS
  have HB : Veil _ := ⟨PuB.new w W B⟩
  go_enter Tryd.func30, Tryd.ntmps30
  go_wp2_with (go_at_call 40; refine (HM.out _ HB.out.below).mono ?_; rintro e w1 ⟨rfl, hb1⟩; have HB : Veil _ := ⟨HB.out.after hb1⟩; obtain ⟨⟨c0, c1⟩, h0, h1⟩ := pk2 HB.out.box; obtain ⟨⟨y0, y1⟩, f0, f1⟩ := pk2 HB.out.res)
  exact bodyPost_ret (results_acc2 (g := w.heap.size + 1) rfl rfl rfl (st2 HB.out.res _ _)) rfl ⟨rfl, tn2 HB.out.below (by omega) _ _⟩

set_option maxRecDepth 20000 in
set_option maxHeartbeats 1000000 in
theorem acpearn_any (a : Ac) (ha : a.Ok) (n : Int) (hn : I64 n) (hr : rightA a = true) (w : World) (hS : MSent w) : Calls Tryd.prog 31 #[a.v, .int .i64 n] w fun e w' => e = .returned (.tuple #[(earnA a n).1.v, .int .i64 (earnA a n).2]) ∧ Below w.heap.size w w' := by
  have HT : Veil (∀ (W : World) (g : Nat), g = W.heap.size → Below w.heap.size w W → Calls Tryd.prog 41 #[.slice (some ⟨g, 0, none⟩) 3 3] (W.alloc (.cells #[.int .i64 a.w, .int .i64 n, .int .i64 a.b] 2)) fun e w' => e = .returned (.int .i64 (earnA a n).2) ∧ Below W.heap.size W w') := ⟨fun W g hg hb => by
    subst hg
    refine (actogether_any (w := W.alloc (.cells #[.int .i64 a.w, .int .i64 n, .int .i64 a.b] 2)) [a.w, n, a.b] 3 (by simp) (by intro m hm; simp only [List.mem_cons, List.not_mem_nil, or_false] at hm; rcases hm with rfl | rfl | rfl; exact ha.w; exact hn; exact ha.b) (els_three W a.w n a.b _) (hS.below (below_al hb _))).mono ?_
    rintro e w' ⟨h1, h2⟩
    exact ⟨by rw [h1, tog_earn a.w a.b n hr], bc_then (below_al (Below.refl _ _) _) h2⟩⟩
  have hE : (earnA a n).2 ≠ 0 ∧ (earnA a n).1 = Ac.zero ∨ (earnA a n).2 = 0 ∧ (earnA a n).1 = ⟨a.w + n, a.b⟩ ∧ wrap64 (a.w + n) = a.w + n := by
    by_cases h : (earnA a n).2 = 0
    · obtain ⟨-, h2, h3, h4⟩ := earnA_ok a n h
      obtain ⟨r1, -, -⟩ := (rightA_iff _).1 h4
      rw [amt_iff] at r1
      dsimp only at r1
      refine .inr ⟨h, by rw [h3], ?_⟩
      unfold wrap64
      omega
    · refine .inl ⟨h, ?_⟩
      unfold earnA at h ⊢
      rw [if_pos hr] at h ⊢
      by_cases h1 : (addA a.w n).2 = 0
      · rw [if_pos h1] at h ⊢
        by_cases h2 : (addA (addA a.w n).1 a.b).2 = 0
        · rw [if_pos h2] at h; exact absurd rfl h
        · rw [if_neg h2]
      · rw [if_neg h1]
  clear ha hn hr hS
  generalize earnA a n = x at HT hE ⊢
  obtain ⟨X, c⟩ := x
  obtain ⟨W, B⟩ := a
  unfold Ac.v
  dsimp only at *
  have HB : Veil _ := ⟨PuB.new w W B⟩
  rcases hE with ⟨h0, rfl⟩ | ⟨rfl, rfl, hwr⟩
  · dsimp only [Ac.zero]
    go_enter Tryd.func31, Tryd.ntmps31
    go_wp2_with (go_at_call 41; refine (HT.out _ _ (by simp) HB.out.below).mono ?_; rintro e w1 ⟨rfl, hb1⟩; have HB : Veil _ := ⟨HB.out.after hb1⟩; obtain ⟨⟨c0, c1⟩, h0, h1⟩ := pk2 HB.out.box; obtain ⟨⟨y0, y1⟩, f0, f1⟩ := pk2 HB.out.res)
    exact bodyPost_ret (results_acc2 (g := w.heap.size + 1) rfl rfl rfl (st2 HB.out.res _ _)) rfl ⟨rfl, tn2 HB.out.below (by omega) _ _⟩
  · dsimp only
    obtain ⟨S, hS⟩ : ∃ S, W + n = S := ⟨_, rfl⟩
    rw [hS] at hwr ⊢
    have HSv : Veil _ := ⟨hS⟩
    have HWr : Veil (wrap64 (W + n) = S) := ⟨by rw [hS]; exact hwr⟩
    clear hS hwr
    go_enter Tryd.func31, Tryd.ntmps31
    go_wp2_with (go_at_call 41; refine (HT.out _ _ (by simp) HB.out.below).mono ?_; rintro e w1 ⟨rfl, hb1⟩; have hwr := HWr.out; have HB : Veil _ := ⟨HB.out.after hb1⟩; obtain ⟨⟨c0, c1⟩, h0, h1⟩ := pk2 HB.out.box; obtain ⟨⟨y0, y1⟩, f0, f1⟩ := pk2 HB.out.res; have HB : Veil _ := ⟨HB.out.set S⟩; obtain ⟨⟨z0, z1⟩, -⟩ := pk2 HB.out.res)
    exact bodyPost_ret (results_acc2 (g := w.heap.size + 1) rfl rfl rfl (st2 HB.out.res _ _)) rfl ⟨rfl, tn2 HB.out.below (by omega) _ _⟩

set_option maxRecDepth 20000 in
set_option maxHeartbeats 1000000 in
theorem acpspend_any (a : Ac) (ha : a.Ok) (n : Int) (hn : I64 n) (hr : rightA a = true) (w : World) (hS : MSent w) : Calls Tryd.prog 33 #[a.v, .int .i64 n] w fun e w' => e = .returned (.tuple #[(spendA a n).1.v, .int .i64 (spendA a n).2]) ∧ Below w.heap.size w w' := by
  have HM : Veil (∀ W, Below w.heap.size w W → Calls Tryd.prog 42 #[.int .i64 a.w, .int .i64 n] W fun e w' => e = .returned (.tuple #[.int .i64 (subA a.w n).1, .int .i64 (subA a.w n).2]) ∧ Below W.heap.size W w') := ⟨fun W hb => mosub_any a.w n ha.w hn W (hS.below hb)⟩
  have HD : spendA a n = (if (subA a.w n).2 = 0 then (⟨(subA a.w n).1, a.b⟩, 0) else (Ac.zero, (subA a.w n).2)) := by unfold spendA; rw [if_pos hr]
  rw [HD]
  clear HD ha hn hr hS
  generalize subA a.w n = x at HM ⊢
  obtain ⟨v, c⟩ := x
  obtain ⟨W, B⟩ := a
  unfold Ac.v
  dsimp only at *
  have HB : Veil _ := ⟨PuB.new w W B⟩
  by_cases h0 : c = 0
  · subst h0
    rw [if_pos rfl]
    dsimp only
    go_enter Tryd.func33, Tryd.ntmps33
    go_wp2_with (go_at_call 42; refine (HM.out _ HB.out.below).mono ?_; rintro e w1 ⟨rfl, hb1⟩; have HB : Veil _ := ⟨HB.out.after hb1⟩; obtain ⟨⟨c0, c1⟩, h0, h1⟩ := pk2 HB.out.box; obtain ⟨⟨y0, y1⟩, f0, f1⟩ := pk2 HB.out.res; have HB : Veil _ := ⟨HB.out.set v⟩; obtain ⟨⟨z0, z1⟩, -⟩ := pk2 HB.out.res)
    exact bodyPost_ret (results_acc2 (g := w.heap.size + 1) rfl rfl rfl (st2 HB.out.res _ _)) rfl ⟨rfl, tn2 HB.out.below (by omega) _ _⟩
  · rw [if_neg h0]
    dsimp only [Ac.zero]
    go_enter Tryd.func33, Tryd.ntmps33
    go_wp2_with (go_at_call 42; refine (HM.out _ HB.out.below).mono ?_; rintro e w1 ⟨rfl, hb1⟩; have HB : Veil _ := ⟨HB.out.after hb1⟩; obtain ⟨⟨c0, c1⟩, h0, h1⟩ := pk2 HB.out.box; obtain ⟨⟨y0, y1⟩, f0, f1⟩ := pk2 HB.out.res)
    exact bodyPost_ret (results_acc2 (g := w.heap.size + 1) rfl rfl rfl (st2 HB.out.res _ _)) rfl ⟨rfl, tn2 HB.out.below (by omega) _ _⟩

set_option maxRecDepth 20000 in
set_option maxHeartbeats 1000000 in
theorem acdeposit_any (a : Ac) (ha : a.Ok) (n : Int) (hn : I64 n) (w : World) (hS : MSent w) : Calls Tryd.prog 10 #[a.v, .int .i64 n] w fun e w' => e = .returned (.tuple #[(depositA a n).1.v, .int .i64 (depositA a n).2]) ∧ Below w.heap.size w w' := by
  have he : depositA a n = if rightA a then ((⟨(movA a.w a.b n).1, (movA a.w a.b n).2.1⟩ : Ac), (movA a.w a.b n).2.2) else (Ac.zero, 130) := rfl
  have HC : Veil (∀ W, Below w.heap.size w W → Calls Tryd.prog 27 #[a.v, .func (.func 28) #[a.v] #[], .int .i64 n] W fun e w' => e = .returned (.tuple #[(depositA a n).1.v, .int .i64 (depositA a n).2]) ∧ Below W.heap.size W w') := ⟨fun W hb => by
    rw [he]
    exact acchanged_any a ha n W (hS.below hb) 28 (enters_of Tryd.func28 (by kernel_rfl) rfl) (⟨(movA a.w a.b n).1, (movA a.w a.b n).2.1⟩ : Ac) (movA a.w a.b n).2.2 (fun _ W' hb' => acpdeposit_any a ha n hn W' (hS.below (bc_then hb hb')))⟩
  clear he
  generalize depositA a n = r at HC ⊢
  obtain ⟨⟨x, y⟩, c⟩ := r
  obtain ⟨W, B⟩ := a
  unfold Ac.v at *
  dsimp only at *
  clear ha hn hS
  have HB : Veil _ := ⟨AcB.new w W B⟩
  go_enter Tryd.func10, Tryd.ntmps10
  go_wp2_with (go_at_call 27; refine (HC.out _ HB.out.below).mono ?_; rintro e w1 ⟨rfl, hb1⟩; have HB : Veil _ := ⟨HB.out.after hb1⟩; obtain ⟨⟨y0, y1⟩, f0, f1⟩ := pk2 HB.out.res)
  exact bodyPost_ret (results_acc2 (g := w.heap.size + 1) rfl rfl rfl (st2 HB.out.res _ _)) rfl ⟨rfl, tn2 HB.out.below (by omega) _ _⟩

set_option maxRecDepth 20000 in
set_option maxHeartbeats 1000000 in
theorem acwithdraw_any (a : Ac) (ha : a.Ok) (n : Int) (hn : I64 n) (w : World) (hS : MSent w) : Calls Tryd.prog 12 #[a.v, .int .i64 n] w fun e w' => e = .returned (.tuple #[(withdrawA a n).1.v, .int .i64 (withdrawA a n).2]) ∧ Below w.heap.size w w' := by
  have he : withdrawA a n = if rightA a then ((⟨(movA a.b a.w n).2.1, (movA a.b a.w n).1⟩ : Ac), (movA a.b a.w n).2.2) else (Ac.zero, 130) := rfl
  have HC : Veil (∀ W, Below w.heap.size w W → Calls Tryd.prog 27 #[a.v, .func (.func 30) #[a.v] #[], .int .i64 n] W fun e w' => e = .returned (.tuple #[(withdrawA a n).1.v, .int .i64 (withdrawA a n).2]) ∧ Below W.heap.size W w') := ⟨fun W hb => by
    rw [he]
    exact acchanged_any a ha n W (hS.below hb) 30 (enters_of Tryd.func30 (by kernel_rfl) rfl) (⟨(movA a.b a.w n).2.1, (movA a.b a.w n).1⟩ : Ac) (movA a.b a.w n).2.2 (fun _ W' hb' => acpwithdraw_any a ha n hn W' (hS.below (bc_then hb hb')))⟩
  clear he
  generalize withdrawA a n = r at HC ⊢
  obtain ⟨⟨x, y⟩, c⟩ := r
  obtain ⟨W, B⟩ := a
  unfold Ac.v at *
  dsimp only at *
  clear ha hn hS
  have HB : Veil _ := ⟨AcB.new w W B⟩
  go_enter Tryd.func12, Tryd.ntmps12
  go_wp2_with (go_at_call 27; refine (HC.out _ HB.out.below).mono ?_; rintro e w1 ⟨rfl, hb1⟩; have HB : Veil _ := ⟨HB.out.after hb1⟩; obtain ⟨⟨y0, y1⟩, f0, f1⟩ := pk2 HB.out.res)
  exact bodyPost_ret (results_acc2 (g := w.heap.size + 1) rfl rfl rfl (st2 HB.out.res _ _)) rfl ⟨rfl, tn2 HB.out.below (by omega) _ _⟩

set_option maxRecDepth 20000 in
set_option maxHeartbeats 1000000 in
theorem acearn_any (a : Ac) (ha : a.Ok) (n : Int) (hn : I64 n) (w : World) (hS : MSent w) : Calls Tryd.prog 14 #[a.v, .int .i64 n] w fun e w' => e = .returned (.tuple #[(earnA a n).1.v, .int .i64 (earnA a n).2]) ∧ Below w.heap.size w w' := by
  have he : earnA a n = if rightA a then ((earnA a n).1, (earnA a n).2) else (Ac.zero, 130) := by by_cases h : rightA a = true; (rw [if_pos h]); (rw [if_neg h]; unfold earnA; rw [if_neg h])
  have HC : Veil (∀ W, Below w.heap.size w W → Calls Tryd.prog 27 #[a.v, .func (.func 31) #[a.v] #[], .int .i64 n] W fun e w' => e = .returned (.tuple #[(earnA a n).1.v, .int .i64 (earnA a n).2]) ∧ Below W.heap.size W w') := ⟨fun W hb => by
    rw [he]
    exact acchanged_any a ha n W (hS.below hb) 31 (enters_of Tryd.func31 (by kernel_rfl) rfl) (earnA a n).1 (earnA a n).2 (fun hr W' hb' => acpearn_any a ha n hn hr W' (hS.below (bc_then hb hb')))⟩
  clear he
  generalize earnA a n = r at HC ⊢
  obtain ⟨⟨x, y⟩, c⟩ := r
  obtain ⟨W, B⟩ := a
  unfold Ac.v at *
  dsimp only at *
  clear ha hn hS
  have HB : Veil _ := ⟨AcB.new w W B⟩
  go_enter Tryd.func14, Tryd.ntmps14
  go_wp2_with (go_at_call 27; refine (HC.out _ HB.out.below).mono ?_; rintro e w1 ⟨rfl, hb1⟩; have HB : Veil _ := ⟨HB.out.after hb1⟩; obtain ⟨⟨y0, y1⟩, f0, f1⟩ := pk2 HB.out.res)
  exact bodyPost_ret (results_acc2 (g := w.heap.size + 1) rfl rfl rfl (st2 HB.out.res _ _)) rfl ⟨rfl, tn2 HB.out.below (by omega) _ _⟩

set_option maxRecDepth 20000 in
set_option maxHeartbeats 1000000 in
theorem acspend_any (a : Ac) (ha : a.Ok) (n : Int) (hn : I64 n) (w : World) (hS : MSent w) : Calls Tryd.prog 16 #[a.v, .int .i64 n] w fun e w' => e = .returned (.tuple #[(spendA a n).1.v, .int .i64 (spendA a n).2]) ∧ Below w.heap.size w w' := by
  have he : spendA a n = if rightA a then ((spendA a n).1, (spendA a n).2) else (Ac.zero, 130) := by by_cases h : rightA a = true; (rw [if_pos h]); (rw [if_neg h]; unfold spendA; rw [if_neg h])
  have HC : Veil (∀ W, Below w.heap.size w W → Calls Tryd.prog 27 #[a.v, .func (.func 33) #[a.v] #[], .int .i64 n] W fun e w' => e = .returned (.tuple #[(spendA a n).1.v, .int .i64 (spendA a n).2]) ∧ Below W.heap.size W w') := ⟨fun W hb => by
    rw [he]
    exact acchanged_any a ha n W (hS.below hb) 33 (enters_of Tryd.func33 (by kernel_rfl) rfl) (spendA a n).1 (spendA a n).2 (fun hr W' hb' => acpspend_any a ha n hn hr W' (hS.below (bc_then hb hb')))⟩
  clear he
  generalize spendA a n = r at HC ⊢
  obtain ⟨⟨x, y⟩, c⟩ := r
  obtain ⟨W, B⟩ := a
  unfold Ac.v at *
  dsimp only at *
  clear ha hn hS
  have HB : Veil _ := ⟨AcB.new w W B⟩
  go_enter Tryd.func16, Tryd.ntmps16
  go_wp2_with (go_at_call 27; refine (HC.out _ HB.out.below).mono ?_; rintro e w1 ⟨rfl, hb1⟩; have HB : Veil _ := ⟨HB.out.after hb1⟩; obtain ⟨⟨y0, y1⟩, f0, f1⟩ := pk2 HB.out.res)
  exact bodyPost_ret (results_acc2 (g := w.heap.size + 1) rfl rfl rfl (st2 HB.out.res _ _)) rfl ⟨rfl, tn2 HB.out.below (by omega) _ _⟩

set_option maxRecDepth 20000 in
set_option maxHeartbeats 1000000 in
theorem acbytes_any (a : Ac) (ha : a.Ok) (w : World) (hS : MSent w) : Calls Tryd.prog 22 #[a.v] w fun e w' => e = .returned (.tuple #[.string ⟨(bytesA a).1.toArray⟩, .int .i64 (bytesA a).2]) ∧ Below w.heap.size w w' := by
  have HM : Veil (∀ (W : World) (g : Nat), g = W.heap.size → Below w.heap.size w W → Calls Tryd.prog 36 #[.slice (some ⟨g, 0, none⟩) 2 2] (W.alloc (.cells #[.int .i64 a.w, .int .i64 a.b] 2)) fun e w' => e = .returned (.tuple #[.string ⟨(bytesR [a.w, a.b]).1.toArray⟩, .int .i64 (bytesR [a.w, a.b]).2]) ∧ Below W.heap.size W w') := ⟨fun W g hg hb => by
    subst hg
    refine (mobytes_any (w := W.alloc (.cells #[.int .i64 a.w, .int .i64 a.b] 2)) [a.w, a.b] 2 (els_two W a.w a.b _) (by simp) (hS.below (below_al hb _))).mono ?_
    rintro e w' ⟨h1, h2⟩
    exact ⟨h1, bc_then (below_al (Below.refl _ _) _) h2⟩⟩
  have HR : Veil _ := ⟨fun W (hb : Below w.heap.size w W) => acright_any a ha W (hS.below hb)⟩
  have HD : Veil (bytesA a = if rightA a then bytesR [a.w, a.b] else ([], 130)) := ⟨rfl⟩
  rw [HD.out]
  clear HD
  generalize bytesR [a.w, a.b] = x at HM
  generalize rightA a = r at HR
  obtain ⟨S, c⟩ := x
  obtain ⟨W, B⟩ := a
  unfold Ac.v at *
  dsimp only at *
  clear ha hS
  have HB0 : Veil ((w.alloc (.cells #[.int .i64 W, .int .i64 B] 23)).heap[w.heap.size]? = some (.cells #[.int .i64 W, .int .i64 B] 23 (0, 0))) := ⟨heap_alloc_new _ _⟩
  have hT : Below w.heap.size w (w.alloc (.cells #[.int .i64 W, .int .i64 B] 23)) := below_al (Below.refl _ _) _
  cases r
  · rw [if_neg (by decide)]
    go_enter Tryd.func22, Tryd.ntmps22
    go_wp2_with (go_at_call 20; refine (HR.out _ hT).mono ?_; rintro e w1 ⟨rfl, hb1⟩; have hT := bc_then hT hb1)
    go_ret2
    exact ⟨rfl, hT⟩
  · rw [if_pos rfl]
    go_enter Tryd.func22, Tryd.ntmps22
    go_wp2_with (first
      | (go_at_call 36; refine (HM.out _ _ (by simp) hT).mono ?_; rintro e w2 ⟨rfl, hb2⟩; have hT := bc_then hT hb2)
      | (go_at_call 20; refine (HR.out _ hT).mono ?_; rintro e w1 ⟨rfl, hb1⟩; have hT := bc_then hT hb1; have HB1 : Veil _ := ⟨(hb1.block _ (lt_of_heap HB0.out)).trans HB0.out⟩; obtain ⟨⟨c0, c1⟩, -⟩ := pk2 HB1.out))
    go_ret2
    exact ⟨rfl, hT⟩

set_option maxRecDepth 20000 in
set_option maxHeartbeats 1000000 in
theorem acparse_any (s : List UInt8) (hs : s.length ≤ 1000) (w : World) (hS : MSent w) : Calls Tryd.prog 24 #[.string ⟨s.toArray⟩] w fun e w' => e = .returned (.tuple #[(parseA s).1.v, .int .i64 (parseA s).2]) ∧ Below w.heap.size w w' := by
  have HP : Veil _ := ⟨fun w => moparse_any s hs w⟩
  rcases parseA_cases s with ⟨h1, h2⟩ | ⟨h1, h2, h3⟩ | ⟨h1, x, y, h2, hx, hy, h3⟩
  · rw [h2]
    clear h2
    generalize parseR s = r at HP h1
    obtain ⟨L, c⟩ := r
    dsimp only at HP h1
    unfold Ac.v
    dsimp only [Ac.zero]
    go_enter Tryd.func24, Tryd.ntmps24
    go_wp2_with (go_at_call 38; refine (HP.out _).mono ?_; rintro e w1 ⟨p, cp, rfl, hE, hcp, hb1⟩; have HB : Veil _ := ⟨(AcR.new w).after hb1⟩; obtain ⟨⟨y0, y1⟩, f0, f1⟩ := pk2 HB.out.res; clear hE)
    exact bodyPost_ret (results_acc2 (g := w.heap.size) rfl rfl rfl (st2 HB.out.res _ _)) rfl ⟨rfl, tn2 HB.out.below (Nat.le_refl _) _ _⟩
  · rw [h3]
    clear h3
    generalize parseR s = r at HP h1 h2
    obtain ⟨L, c⟩ := r
    dsimp only at HP h1 h2
    subst h1
    have h2' : ¬ (L.length : Int) = 2 := by omega
    unfold Ac.v
    dsimp only [Ac.zero]
    go_enter Tryd.func24, Tryd.ntmps24
    go_wp2_with (go_at_call 38; refine (HP.out _).mono ?_; rintro e w1 ⟨p, cp, rfl, hE, hcp, hb1⟩; have HB : Veil _ := ⟨(AcR.new w).after hb1⟩; obtain ⟨⟨y0, y1⟩, f0, f1⟩ := pk2 HB.out.res; clear hE)
    exact bodyPost_ret (results_acc2 (g := w.heap.size) rfl rfl rfl (st2 HB.out.res _ _)) rfl ⟨rfl, tn2 HB.out.below (Nat.le_refl _) _ _⟩
  · rw [h3]
    clear h3
    have HR : Veil (∀ W, Below w.heap.size w W → Calls Tryd.prog 20 #[.agg #[.int .i64 x, .int .i64 y]] W fun e w' => e = .returned (.bool (rightA ⟨x, y⟩)) ∧ Below W.heap.size W w') := ⟨fun W hb => acright_any ⟨x, y⟩ ⟨i64_am hx, i64_am hy⟩ W (hS.below hb)⟩
    generalize rightA ⟨x, y⟩ = b at HR
    rw [h1, h2] at HP
    clear h1 h2 hx hy hs hS
    unfold Ac.v
    cases b
    all_goals
      first
        | rw [if_neg (by decide)]
        | rw [if_pos rfl]
      dsimp only [Ac.zero]
      go_enter Tryd.func24, Tryd.ntmps24
      go_wp2_with (go_at_call 38; refine (HP.out _).mono ?_; rintro e w1 ⟨p, cp, rfl, hE, hcp, hb1⟩; obtain ⟨g, o, rfl, hc⟩ := hE (by simp); have k0 : w1.cell? ⟨g, o, none⟩ = some (.int .i64 x) := hc 0 0 (by simp) (by decide); have k1 : w1.cell? ⟨g, o + 1, none⟩ = some (.int .i64 y) := hc 1 0 (by simp) (by decide); have HB : Veil _ := ⟨(AcR.new w).after hb1⟩; clear hc hE)
      have hcp2 : 2 ≤ cp := hcp
      have HK : Veil (∀ W, Below w1.heap.size w1 W → W.cell? ⟨g, o, none⟩ = some (.int .i64 x) ∧ W.cell? ⟨g, o + 1, none⟩ = some (.int .i64 y)) := ⟨fun W h => ⟨(h.cell (World.block_lt_of_cell? _ _ k0)).trans k0, (h.cell (World.block_lt_of_cell? _ _ k1)).trans k1⟩⟩
      clear hcp hb1
      go_region_held3 (fun W => (W.cell? ⟨g, o, none⟩ = some (.int .i64 x) ∧ W.cell? ⟨g, o + 1, none⟩ = some (.int .i64 y))) (first | assumption | exact HK.out _ (below_al (Below.refl _ _) _).drew | exact HK.out _ (Below.refl _ _).drew) (fail)
      all_goals
        have HB4 : Veil _ := ⟨HB.out.after (below_al (Below.refl _ (w1)) (.cells #[.int .i64 x, .int .i64 y] 23)).drew⟩
        have HX4 : Veil ((w1.alloc (.cells #[.int .i64 x, .int .i64 y] 23)).drew.heap[w1.heap.size]? = some (.cells #[.int .i64 x, .int .i64 y] 23 (0, 0))) := ⟨heap_alloc_new _ _⟩
        go_wp2_with (go_at_call 20; (with_reducible refine (HR.out _ HB4.out.below).mono ?_); rintro e w5 ⟨rfl, hb5⟩; have HB5 : Veil _ := ⟨HB4.out.after hb5⟩; obtain ⟨⟨y0, y1⟩, f0, f1⟩ := pk2 HB5.out.res; have HX5 : Veil _ := ⟨(hb5.block _ (lt_of_heap HX4.out)).trans HX4.out⟩; obtain ⟨⟨z0, z1⟩, -⟩ := pk2 HX5.out)
        exact bodyPost_ret (results_acc2 (g := w.heap.size) rfl rfl rfl (st2 HB5.out.res _ _)) rfl ⟨rfl, tn2 HB5.out.below (Nat.le_refl _) _ _⟩

set_option maxRecDepth 20000 in
set_option maxHeartbeats 8000000 in
theorem acpay_any (a b : Ac) (ha : a.Ok) (hb : b.Ok) (n : Int) (hn : I64 n) (w : World) (hS : MSent w) : Calls Tryd.prog 18 #[a.v, b.v, .int .i64 n] w fun e w' => e = .returned (.tuple #[(payA a b n).1.v, (payA a b n).2.1.v, .int .i64 (payA a b n).2.2]) ∧ Below w.heap.size w w' := by
  have HS : Veil _ := ⟨fun W (hb : Below w.heap.size w W) => acspend_any a ha n hn W (hS.below hb)⟩
  have HE : Veil _ := ⟨fun W (hb' : Below w.heap.size w W) => acearn_any b hb n hn W (hS.below hb')⟩
  have HAR : Veil (∀ (W : World) (g : Nat), g = W.heap.size → Below w.heap.size w W → Calls Tryd.prog 35 #[.slice (some ⟨g, 0, none⟩) 2 2] (W.alloc (.cells #[.int .i64 a.w, .int .i64 a.b, .int .i64 b.w, .int .i64 b.b] 23)) fun e w' => e = .returned (.bool (rightA a && rightA b)) ∧ Below W.heap.size W w') := ⟨fun W g hg hb' => by
    subst hg
    refine (acall_any (w := W.alloc (.cells #[.int .i64 a.w, .int .i64 a.b, .int .i64 b.w, .int .i64 b.b] 23)) [a, b] 2 (elsA_two W a b _) (by simp) (by intro n hn; simp only [List.mem_cons, List.not_mem_nil, or_false] at hn; rcases hn with rfl | rfl; exact ha; exact hb) (hS.below (below_al hb' _))).mono ?_
    rintro e w' ⟨h1, h2⟩
    exact ⟨by rw [h1]; simp, bc_then (below_al (Below.refl _ _) _) h2⟩⟩
  have HD : Veil _ := ⟨payA_eq a b n⟩
  rw [HD.out]
  clear HD
  generalize spendA a n = x at HS
  generalize earnA b n = y at HE
  generalize (rightA a && rightA b) = r1 at HAR
  obtain ⟨⟨xw, xb⟩, c1⟩ := x
  obtain ⟨⟨yw, yb⟩, c2⟩ := y
  obtain ⟨W, B⟩ := a
  obtain ⟨W2, B2⟩ := b
  unfold Ac.v at *
  dsimp only at *
  clear ha hb hn hS
  cases r1
  · rw [if_neg (by decide)]
    dsimp only [Ac.zero]
    go_enter Tryd.func18, Tryd.ntmps18
    go_wp2_with (first
      | (go_at_call 35; refine (HAR.out _ _ (by simp) (PyB.new w W B W2 B2).below).mono ?_; rintro e w2 ⟨rfl, hb2⟩; have HB2 : Veil _ := ⟨(PyB.new w W B W2 B2).after hb2⟩; obtain ⟨⟨c0, c1⟩, -⟩ := pk2 HB2.out.x; obtain ⟨⟨d0, d1⟩, -⟩ := pk2 HB2.out.y; obtain ⟨⟨y0, y1⟩, f0, f1⟩ := pk2 HB2.out.r; obtain ⟨⟨z0, z1⟩, g0, g1⟩ := pk2 HB2.out.s))
    exact bodyPost_ret (results_acc22 (g := w.heap.size + 2) (k := w.heap.size + 3) rfl rfl rfl rfl (st22 (by omega) HB2.out.r HB2.out.s _ _ _ _).1 (st22 (by omega) HB2.out.r HB2.out.s _ _ _ _).2) rfl ⟨rfl, tn2 (tn2 HB2.out.below (by omega) _ _) (by omega) _ _⟩
  rw [if_pos rfl]
  by_cases h1 : c1 = 0
  · subst h1
    rw [if_pos rfl]
    by_cases h2 : c2 = 0
    · subst h2
      rw [if_pos rfl]
      dsimp only
      go_enter Tryd.func18, Tryd.ntmps18
      go_wp2_with (first
        | (go_at_call 14; (with_reducible refine (HE.out _ HB3.out.below).mono ?_); rintro e w4 ⟨rfl, hb4⟩; have HX4 : Veil _ := ⟨(hb4.block _ (lt_of_heap HX3.out)).trans HX3.out⟩; have HB4 : Veil _ := ⟨HB3.out.after hb4⟩; have HB5 : Veil _ := ⟨HB4.out.after (below_al (Below.refl _ w4) (.cells #[.int .i64 yw, .int .i64 yb] 23))⟩; obtain ⟨⟨c0, c1⟩, -⟩ := pk2 HB5.out.x; obtain ⟨⟨d0, d1⟩, -⟩ := pk2 HB5.out.y; obtain ⟨⟨y0, y1⟩, f0, f1⟩ := pk2 HB5.out.r; obtain ⟨⟨z0, z1⟩, g0, g1⟩ := pk2 HB5.out.s)
        | (go_at_call 16; (with_reducible refine (HS.out _ HB2.out.below).mono ?_); rintro e w3 ⟨rfl, hb3⟩; have HX3 : Veil ((w3.alloc (.cells #[.int .i64 xw, .int .i64 xb] 23)).heap[w3.heap.size]? = some (.cells #[.int .i64 xw, .int .i64 xb] 23 (0, 0))) := ⟨heap_alloc_new _ _⟩; have HB3 : Veil _ := ⟨(HB2.out.after hb3).after (below_al (Below.refl _ w3) (.cells #[.int .i64 xw, .int .i64 xb] 23))⟩; obtain ⟨⟨c0, c1⟩, -⟩ := pk2 HB3.out.x; obtain ⟨⟨d0, d1⟩, -⟩ := pk2 HB3.out.y; obtain ⟨⟨y0, y1⟩, f0, f1⟩ := pk2 HB3.out.r; obtain ⟨⟨z0, z1⟩, g0, g1⟩ := pk2 HB3.out.s)
        | (go_at_call 35; refine (HAR.out _ _ (by simp) (PyB.new w W B W2 B2).below).mono ?_; rintro e w2 ⟨rfl, hb2⟩; have HB2 : Veil _ := ⟨(PyB.new w W B W2 B2).after hb2⟩; obtain ⟨⟨c0, c1⟩, -⟩ := pk2 HB2.out.x; obtain ⟨⟨d0, d1⟩, -⟩ := pk2 HB2.out.y; obtain ⟨⟨y0, y1⟩, f0, f1⟩ := pk2 HB2.out.r; obtain ⟨⟨z0, z1⟩, g0, g1⟩ := pk2 HB2.out.s))
      have HX5 : Veil ((w4.alloc (.cells #[.int .i64 yw, .int .i64 yb] 23)).heap[w4.heap.size]? = some (.cells #[.int .i64 yw, .int .i64 yb] 23 (0, 0)) ∧ (w4.alloc (.cells #[.int .i64 yw, .int .i64 yb] 23)).heap[w3.heap.size]? = some (.cells #[.int .i64 xw, .int .i64 xb] 23 (0, 0))) := ⟨heap_alloc_new _ _, ((below_al (Below.refl _ w4) (.cells #[.int .i64 yw, .int .i64 yb] 23)).block _ (lt_of_heap HX4.out)).trans HX4.out⟩
      obtain ⟨X, hX⟩ : ∃ X, w4.alloc (.cells #[.int .i64 yw, .int .i64 yb] 23) = X := ⟨_, rfl⟩
      have hlt4 : w.heap.size + 3 < w3.heap.size := (by have := lt_of_heap (HB2.out.after hb3).s; omega)
      have hlt5 : w3.heap.size < w4.heap.size := (by have := lt_of_heap HX3.out; have := hb4.size; simp at *; omega)
      rw [hX] at HX5 HB5 ⊢
      obtain ⟨b6, h6⟩ : ∃ b, w.heap.size + 1 + 1 = b := ⟨_, rfl⟩
      obtain ⟨b7, h7⟩ : ∃ b, w.heap.size + 1 + 1 + 1 = b := ⟨_, rfl⟩
      obtain ⟨b11, h11⟩ : ∃ b, w3.heap.size = b := ⟨_, rfl⟩
      obtain ⟨b13, h13⟩ : ∃ b, w4.heap.size = b := ⟨_, rfl⟩
      have HR6 : Veil (X.heap[b6]? = some (.cells #[.int .i64 0, .int .i64 0] 23 (0, 0)) ∧ X.heap[b7]? = some (.cells #[.int .i64 0, .int .i64 0] 23 (0, 0)) ∧ w.heap.size ≤ b6 ∧ w.heap.size ≤ b7 ∧ Below w.heap.size w X) := ⟨by rw [← h6]; exact HB5.out.r, by rw [← h7]; exact HB5.out.s, by omega, by omega, HB5.out.below⟩
      have n67 : b6 ≠ b7 := by omega
      have n611 : b6 ≠ b11 := by omega
      have n613 : b6 ≠ b13 := by omega
      have n711 : b7 ≠ b11 := by omega
      have n713 : b7 ≠ b13 := by omega
      rw [h11, h13] at HX5
      rw [h7, h6, h11, h13]
      clear hX h6 h7 h11 h13 hlt4 hlt5 c0 c1 d0 d1 y0 y1 z0 z1 f0 f1 g0 g1 hb2 hb3 hb4
      obtain ⟨⟨y0, y1⟩, f0, f1⟩ := pk2 HR6.out.1
      obtain ⟨⟨z0, z1⟩, g0, g1⟩ := pk2 HR6.out.2.1
      obtain ⟨⟨c0, c1⟩, -⟩ := pk2 HX5.out.2
      obtain ⟨⟨d0, d1⟩, -⟩ := pk2 HX5.out.1
      have HK : Veil (∀ W, Turned (fun k => k = b6 ∨ k = b7) X W → W.cell? ⟨b11, 0, none⟩ = some (.int .i64 xw) ∧ W.cell? ⟨b11, 1, none⟩ = some (.int .i64 xb) ∧ W.cell? ⟨b13, 0, none⟩ = some (.int .i64 yw) ∧ W.cell? ⟨b13, 1, none⟩ = some (.int .i64 yb)) := ⟨fun W h => ⟨h.cell c0 (by dsimp only; omega), h.cell c1 (by dsimp only; omega), h.cell d0 (by dsimp only; omega), h.cell d1 (by dsimp only; omega)⟩⟩
      go_region_held3 (fun W => (W.cell? ⟨b11, 0, none⟩ = some (.int .i64 xw) ∧ W.cell? ⟨b11, 1, none⟩ = some (.int .i64 xb) ∧ W.cell? ⟨b13, 0, none⟩ = some (.int .i64 yw) ∧ W.cell? ⟨b13, 1, none⟩ = some (.int .i64 yb))) (first | assumption | exact HK.out _ (Turned.refl _ _).drew | exact HK.out _ (tu1 X b6 b7 _ _).drew | exact HK.out _ (tu2 X b6 b7 _ _ _ _).drew) (fail)
      all_goals
        go_wp2
        refine bodyPost_ret (results_acc22 (g := b6) (k := b7) rfl rfl rfl rfl (st22 n67 HR6.out.1 HR6.out.2.1 _ _ _ _).1 (st22 n67 HR6.out.1 HR6.out.2.1 _ _ _ _).2) rfl ⟨rfl, (tn2 (tn2 HR6.out.2.2.2.2 HR6.out.2.2.1 _ _) HR6.out.2.2.2.1 _ _).drew⟩
    · rw [if_neg h2]
      dsimp only [Ac.zero]
      go_enter Tryd.func18, Tryd.ntmps18
      go_wp2_with (first
        | (go_at_call 14; (with_reducible refine (HE.out _ HB3.out.below).mono ?_); rintro e w4 ⟨rfl, hb4⟩; have HX4 : Veil _ := ⟨(hb4.block _ (lt_of_heap HX3.out)).trans HX3.out⟩; have HB4 : Veil _ := ⟨HB3.out.after hb4⟩; have HB5 : Veil _ := ⟨HB4.out.after (below_al (Below.refl _ w4) (.cells #[.int .i64 yw, .int .i64 yb] 23))⟩; obtain ⟨⟨c0, c1⟩, -⟩ := pk2 HB5.out.x; obtain ⟨⟨d0, d1⟩, -⟩ := pk2 HB5.out.y; obtain ⟨⟨y0, y1⟩, f0, f1⟩ := pk2 HB5.out.r; obtain ⟨⟨z0, z1⟩, g0, g1⟩ := pk2 HB5.out.s)
        | (go_at_call 16; (with_reducible refine (HS.out _ HB2.out.below).mono ?_); rintro e w3 ⟨rfl, hb3⟩; have HX3 : Veil ((w3.alloc (.cells #[.int .i64 xw, .int .i64 xb] 23)).heap[w3.heap.size]? = some (.cells #[.int .i64 xw, .int .i64 xb] 23 (0, 0))) := ⟨heap_alloc_new _ _⟩; have HB3 : Veil _ := ⟨(HB2.out.after hb3).after (below_al (Below.refl _ w3) (.cells #[.int .i64 xw, .int .i64 xb] 23))⟩; obtain ⟨⟨c0, c1⟩, -⟩ := pk2 HB3.out.x; obtain ⟨⟨d0, d1⟩, -⟩ := pk2 HB3.out.y; obtain ⟨⟨y0, y1⟩, f0, f1⟩ := pk2 HB3.out.r; obtain ⟨⟨z0, z1⟩, g0, g1⟩ := pk2 HB3.out.s)
        | (go_at_call 35; refine (HAR.out _ _ (by simp) (PyB.new w W B W2 B2).below).mono ?_; rintro e w2 ⟨rfl, hb2⟩; have HB2 : Veil _ := ⟨(PyB.new w W B W2 B2).after hb2⟩; obtain ⟨⟨c0, c1⟩, -⟩ := pk2 HB2.out.x; obtain ⟨⟨d0, d1⟩, -⟩ := pk2 HB2.out.y; obtain ⟨⟨y0, y1⟩, f0, f1⟩ := pk2 HB2.out.r; obtain ⟨⟨z0, z1⟩, g0, g1⟩ := pk2 HB2.out.s))
      exact bodyPost_ret (results_acc22 (g := w.heap.size + 2) (k := w.heap.size + 3) rfl rfl rfl rfl (st22 (by omega) HB5.out.r HB5.out.s _ _ _ _).1 (st22 (by omega) HB5.out.r HB5.out.s _ _ _ _).2) rfl ⟨rfl, tn2 (tn2 HB5.out.below (by omega) _ _) (by omega) _ _⟩
  · rw [if_neg h1]
    dsimp only [Ac.zero]
    go_enter Tryd.func18, Tryd.ntmps18
    go_wp2_with (first
      | (go_at_call 16; (with_reducible refine (HS.out _ HB2.out.below).mono ?_); rintro e w3 ⟨rfl, hb3⟩; have HX3 : Veil ((w3.alloc (.cells #[.int .i64 xw, .int .i64 xb] 23)).heap[w3.heap.size]? = some (.cells #[.int .i64 xw, .int .i64 xb] 23 (0, 0))) := ⟨heap_alloc_new _ _⟩; have HB3 : Veil _ := ⟨(HB2.out.after hb3).after (below_al (Below.refl _ w3) (.cells #[.int .i64 xw, .int .i64 xb] 23))⟩; obtain ⟨⟨c0, c1⟩, -⟩ := pk2 HB3.out.x; obtain ⟨⟨d0, d1⟩, -⟩ := pk2 HB3.out.y; obtain ⟨⟨y0, y1⟩, f0, f1⟩ := pk2 HB3.out.r; obtain ⟨⟨z0, z1⟩, g0, g1⟩ := pk2 HB3.out.s)
      | (go_at_call 35; refine (HAR.out _ _ (by simp) (PyB.new w W B W2 B2).below).mono ?_; rintro e w2 ⟨rfl, hb2⟩; have HB2 : Veil _ := ⟨(PyB.new w W B W2 B2).after hb2⟩; obtain ⟨⟨c0, c1⟩, -⟩ := pk2 HB2.out.x; obtain ⟨⟨d0, d1⟩, -⟩ := pk2 HB2.out.y; obtain ⟨⟨y0, y1⟩, f0, f1⟩ := pk2 HB2.out.r; obtain ⟨⟨z0, z1⟩, g0, g1⟩ := pk2 HB2.out.s))
    exact bodyPost_ret (results_acc22 (g := w.heap.size + 2) (k := w.heap.size + 3) rfl rfl rfl rfl (st22 (by omega) HB3.out.r HB3.out.s _ _ _ _).1 (st22 (by omega) HB3.out.r HB3.out.s _ _ _ _).2) rfl ⟨rfl, tn2 (tn2 HB3.out.below (by omega) _ _) (by omega) _ _⟩
end Go.Proofs.YtbbfmddechpnjaaDoor

/- The laws on accounts: shown, AccountsTurn, AccountsTwice. -/
namespace Go.Proofs.YtbbfmddechpnjaaDoor
open Go Go.RowKit Sm
attribute [local go_sem] Oper.semAt_some

/-- An account in a box. -/
structure AcBox (w : World) (b : Nat) (x y : Int) : Prop where
  x : w.cell? ⟨b, 0, none⟩ = some (.int .i64 x)
  y : w.cell? ⟨b, 1, none⟩ = some (.int .i64 y)
theorem AcBox.new (w : World) (x y : Int) (T : TypeId) : AcBox (w.alloc (.cells #[.int .i64 x, .int .i64 y] T)) w.heap.size x y := by
  constructor <;> exact cell_whole (cur := [.int .i64 x, .int .i64 y]) (heap_alloc_new _ _) _
theorem AcBox.below {w w' : World} {b : Nat} {x y : Int} (h : AcBox w b x y) (hb : Below w.heap.size w w') : AcBox w' b x y :=
  ⟨(hb.cell (World.block_lt_of_cell? _ _ h.x)).trans h.x, (hb.cell (World.block_lt_of_cell? _ _ h.y)).trans h.y⟩
theorem zero_ok : Ac.zero.Ok := ⟨by unfold I64; decide, by unfold I64; decide⟩
theorem am_ok {x y : Int} (h : rightA ⟨x, y⟩ = true) : (⟨x, y⟩ : Ac).Ok := by
  obtain ⟨h1, h2, -⟩ := (rightA_iff _).1 h
  exact ⟨i64_am h1, i64_am h2⟩
theorem depositA_err (a : Ac) (n : Int) (h : (depositA a n).2 ≠ 0) : (depositA a n).1 = Ac.zero := by
  unfold depositA at h ⊢
  by_cases hr : rightA a = true
  · rw [if_pos hr] at h ⊢
    dsimp only at h ⊢
    unfold movA at h ⊢
    by_cases h1 : (subA a.w n).2 = 0
    · rw [if_pos h1] at h ⊢
      by_cases h2 : (addA a.b n).2 = 0
      · rw [if_pos h2] at h; exact absurd rfl h
      · rw [if_neg h2]; rfl
    · rw [if_neg h1]; rfl
  · rw [if_neg hr]
theorem deposit_ok64 (a : Ac) (_ : a.Ok) (n : Int) : (depositA a n).1.Ok := by
  by_cases h : (depositA a n).2 = 0
  · obtain ⟨-, -, -, h4, h5⟩ := depositA_ok a n h
    rw [h4]; exact am_ok h5
  · rw [depositA_err a n h]; exact zero_ok
theorem earnA_err (a : Ac) (n : Int) (h : (earnA a n).2 ≠ 0) : (earnA a n).1 = Ac.zero := by
  unfold earnA at h ⊢
  by_cases hr : rightA a = true
  · rw [if_pos hr] at h ⊢
    by_cases h1 : (addA a.w n).2 = 0
    · rw [if_pos h1] at h ⊢
      by_cases h2 : (addA (addA a.w n).1 a.b).2 = 0
      · rw [if_pos h2] at h; exact absurd rfl h
      · rw [if_neg h2]
    · rw [if_neg h1]
  · rw [if_neg hr]
theorem earn_ok64 (a : Ac) (_ : a.Ok) (n : Int) : (earnA a n).1.Ok := by
  by_cases h : (earnA a n).2 = 0
  · obtain ⟨-, -, h4, h5⟩ := earnA_ok a n h
    rw [h4]; exact am_ok h5
  · rw [earnA_err a n h]; exact zero_ok
abbrev AcAt (w0 : World) (f : FuncId) (x y n u v c : Int) : Prop := ∀ w, Below w0.heap.size w0 w → Calls Tryd.prog f #[.agg #[.int .i64 x, .int .i64 y], .int .i64 n] w fun e w' => e = .returned (.tuple #[.agg #[.int .i64 u, .int .i64 v], .int .i64 c]) ∧ Below w.heap.size w w'
theorem i64_small {n : Int} (h : 0 ≤ n ∧ n ≤ 1000) : I64 n := by unfold I64; omega

set_option maxRecDepth 20000 in
set_option maxHeartbeats 1000000 in
theorem shown13_any (w : World) (hS : MSent w) : Calls Tryd.prog 9 #[] w fun e w' => e = .returned (.bool true) ∧ Below w.heap.size w w' := by
  have H1 : Veil (AcAt w 10 5 2 4 1 6 0) := ⟨fun W hb => by
    have := acdeposit_any ⟨5, 2⟩ ⟨i64_small (by decide), i64_small (by decide)⟩ 4 (i64_small (by decide)) W (hS.below hb)
    rwa [show depositA ⟨5, 2⟩ 4 = (⟨1, 6⟩, 0) from rfl] at this⟩
  have H2 : Veil (AcAt w 12 5 2 3 0 0 112) := ⟨fun W hb => by
    have := acwithdraw_any ⟨5, 2⟩ ⟨i64_small (by decide), i64_small (by decide)⟩ 3 (i64_small (by decide)) W (hS.below hb)
    rwa [show withdrawA ⟨5, 2⟩ 3 = (⟨0, 0⟩, 112) from rfl] at this⟩
  have H3 : Veil (AcAt w 14 5 2 1 6 2 0) := ⟨fun W hb => by
    have := acearn_any ⟨5, 2⟩ ⟨i64_small (by decide), i64_small (by decide)⟩ 1 (i64_small (by decide)) W (hS.below hb)
    rwa [show earnA ⟨5, 2⟩ 1 = (⟨6, 2⟩, 0) from rfl] at this⟩
  have HA : Veil (AcBox (w.alloc (.cells #[.int .i64 5, .int .i64 2] 23)) w.heap.size 5 2) := ⟨AcBox.new _ _ _ _⟩
  have hT : Below w.heap.size w (w.alloc (.cells #[.int .i64 5, .int .i64 2] 23)) := below_al (Below.refl _ _) _
  clear hS
  go_enter Tryd.func9, Tryd.ntmps9
  go_wp2_with (first
    | (go_at_call 14; (with_reducible refine (H3.out _ (below_al hT _)).mono ?_); rintro e w4x ⟨rfl, hb4⟩; have hT := bc_then (below_al hT _) hb4; have HA : Veil _ := ⟨(HA.out.below (below_al (Below.refl _ _) _)).below hb4⟩; have HB : Veil _ := ⟨(HB.out.below (below_al (Below.refl _ _) _)).below hb4⟩; have HC : Veil _ := ⟨(AcBox.new _ _ _ _).below hb4⟩; obtain ⟨HA0, HA1⟩ := HA.out; have HAz := World.block_lt_of_cell? _ _ HA0; dsimp only at HAz; obtain ⟨HB0, HB1⟩ := HB.out; have HBz := World.block_lt_of_cell? _ _ HB0; dsimp only at HBz; obtain ⟨HC0, HC1⟩ := HC.out; have HCz := World.block_lt_of_cell? _ _ HC0; dsimp only at HCz)
    | (go_at_call 12; (with_reducible refine (H2.out _ (below_al hT _)).mono ?_); rintro e w3x ⟨rfl, hb3⟩; have hT := bc_then (below_al hT _) hb3; have HA : Veil _ := ⟨(HA.out.below (below_al (Below.refl _ _) _)).below hb3⟩; have HB : Veil _ := ⟨(AcBox.new _ _ _ _).below hb3⟩; obtain ⟨HA0, HA1⟩ := HA.out; have HAz := World.block_lt_of_cell? _ _ HA0; dsimp only at HAz; obtain ⟨HB0, HB1⟩ := HB.out; have HBz := World.block_lt_of_cell? _ _ HB0; dsimp only at HBz)
    | (go_at_call 10; (with_reducible refine (H1.out _ (hT)).mono ?_); rintro e w2x ⟨rfl, hb2⟩; have hT := bc_then (hT) hb2; have HA : Veil _ := ⟨HA.out.below hb2⟩; obtain ⟨HA0, HA1⟩ := HA.out; have HAz := World.block_lt_of_cell? _ _ HA0; dsimp only at HAz))
  go_ret
  exact ⟨rfl, by first | exact hT | exact below_al hT _⟩

set_option maxRecDepth 20000 in
set_option maxHeartbeats 2000000 in
theorem accountsTurn_any (a : Ac) (ha : a.Ok) (n : Int) (hn : I64 n) (w : World) (hS : MSent w) : Calls Tryd.prog 7 #[a.v, .int .i64 n] w fun e w' => e = .returned (.bool true) ∧ Below w.heap.size w w' := by
  have hd := deposit_ok64 a ha n
  have he := earn_ok64 a ha n
  have P1 : Veil _ := ⟨fun W (hb : Below w.heap.size w W) => acdeposit_any a ha n hn W (hS.below hb)⟩
  have P2 : Veil _ := ⟨fun W (hb : Below w.heap.size w W) => acwithdraw_any (depositA a n).1 hd n hn W (hS.below hb)⟩
  have P3 : Veil _ := ⟨fun W (hb : Below w.heap.size w W) => acearn_any a ha n hn W (hS.below hb)⟩
  have P4 : Veil _ := ⟨fun W (hb : Below w.heap.size w W) => acspend_any (earnA a n).1 he n hn W (hS.below hb)⟩
  have F1 : (depositA a n).2 ≠ 0 ∨ (depositA a n).2 = 0 ∧ (withdrawA (depositA a n).1 n).2 = 0 ∧ (withdrawA (depositA a n).1 n).1 = a := by
    by_cases h : (depositA a n).2 = 0
    · exact .inr ⟨h, by rw [deposit_withdraw a n h], by rw [deposit_withdraw a n h]⟩
    · exact .inl h
  have F2 : (earnA a n).2 ≠ 0 ∨ (earnA a n).2 = 0 ∧ (spendA (earnA a n).1 n).2 = 0 ∧ (spendA (earnA a n).1 n).1 = a := by
    by_cases h : (earnA a n).2 = 0
    · exact .inr ⟨h, by rw [earn_spend a n h], by rw [earn_spend a n h]⟩
    · exact .inl h
  have HSm : Veil (∀ W, Below w.heap.size w W → MSent W) := ⟨fun W hb => hS.below hb⟩
  clear hd he ha hn hS
  generalize depositA a n = x1 at P1 P2 F1
  obtain ⟨B, e0⟩ := x1
  dsimp only at P1 P2 F1
  generalize withdrawA B n = x2 at P2 F1
  obtain ⟨C, f0⟩ := x2
  generalize earnA a n = x3 at P3 P4 F2
  obtain ⟨D, g0⟩ := x3
  dsimp only at P3 P4 F2
  generalize spendA D n = x4 at P4 F2
  obtain ⟨E, h0⟩ := x4
  dsimp only at P2 P4 F1 F2
  have HA : Veil (AcBox (w.alloc (.cells #[.int .i64 a.w, .int .i64 a.b] 23)) w.heap.size a.w a.b) := ⟨AcBox.new _ _ _ _⟩
  have hT : Below w.heap.size w (w.alloc (.cells #[.int .i64 a.w, .int .i64 a.b] 23)) := below_al (Below.refl _ _) _
  rcases F1 with F1 | ⟨rfl, rfl, rfl⟩ <;> rcases F2 with F2 | ⟨rfl, rfl, rfl⟩
  all_goals
    try (have F1' : ¬ e0 = 0 := F1)
    try (have F2' : ¬ g0 = 0 := F2)
    try clear F1
    try clear F2
    try obtain ⟨aw, ab⟩ := a
    try obtain ⟨bw, bb⟩ := B
    try obtain ⟨cw, cb⟩ := C
    try obtain ⟨dw, db⟩ := D
    try obtain ⟨ew, eb⟩ := E
    unfold Ac.v at *
    dsimp only at *
    go_enter Tryd.func7, Tryd.ntmps7
    go_wp2_with (first
    | (go_at_call 16; (with_reducible refine (P4.out _ (below_al hT _)).mono ?_); rintro e w5x ⟨rfl, hb5⟩; have hT := bc_then (below_al hT _) hb5; have HA : Veil _ := ⟨(HA.out.below (below_al (Below.refl _ _) _)).below hb5⟩; have HB : Veil _ := ⟨(HB.out.below (below_al (Below.refl _ _) _)).below hb5⟩; have HC : Veil _ := ⟨(HC.out.below (below_al (Below.refl _ _) _)).below hb5⟩; have HD : Veil _ := ⟨(AcBox.new _ _ _ _).below hb5⟩; obtain ⟨HA0, HA1⟩ := HA.out; have HAz := World.block_lt_of_cell? _ _ HA0; dsimp only at HAz; obtain ⟨HB0, HB1⟩ := HB.out; have HBz := World.block_lt_of_cell? _ _ HB0; dsimp only at HBz; obtain ⟨HC0, HC1⟩ := HC.out; have HCz := World.block_lt_of_cell? _ _ HC0; dsimp only at HCz; obtain ⟨HD0, HD1⟩ := HD.out; have HDz := World.block_lt_of_cell? _ _ HD0; dsimp only at HDz)
    | (go_at_call 14; (with_reducible refine (P3.out _ (below_al hT _)).mono ?_); rintro e w4x ⟨rfl, hb4⟩; have hT := bc_then (below_al hT _) hb4; have HA : Veil _ := ⟨(HA.out.below (below_al (Below.refl _ _) _)).below hb4⟩; have HB : Veil _ := ⟨(HB.out.below (below_al (Below.refl _ _) _)).below hb4⟩; have HC : Veil _ := ⟨(AcBox.new _ _ _ _).below hb4⟩; obtain ⟨HA0, HA1⟩ := HA.out; have HAz := World.block_lt_of_cell? _ _ HA0; dsimp only at HAz; obtain ⟨HB0, HB1⟩ := HB.out; have HBz := World.block_lt_of_cell? _ _ HB0; dsimp only at HBz; obtain ⟨HC0, HC1⟩ := HC.out; have HCz := World.block_lt_of_cell? _ _ HC0; dsimp only at HCz)
    | (go_at_call 12; (with_reducible refine (P2.out _ (below_al hT _)).mono ?_); rintro e w3x ⟨rfl, hb3⟩; have hT := bc_then (below_al hT _) hb3; have HA : Veil _ := ⟨(HA.out.below (below_al (Below.refl _ _) _)).below hb3⟩; have HB : Veil _ := ⟨(AcBox.new _ _ _ _).below hb3⟩; obtain ⟨HA0, HA1⟩ := HA.out; have HAz := World.block_lt_of_cell? _ _ HA0; dsimp only at HAz; obtain ⟨HB0, HB1⟩ := HB.out; have HBz := World.block_lt_of_cell? _ _ HB0; dsimp only at HBz)
    | (go_at_call 10; (with_reducible refine (P1.out _ (hT)).mono ?_); rintro e w2x ⟨rfl, hb2⟩; have hT := bc_then (hT) hb2; have HA : Veil _ := ⟨HA.out.below hb2⟩; obtain ⟨HA0, HA1⟩ := HA.out; have HAz := World.block_lt_of_cell? _ _ HA0; dsimp only at HAz)
    | (go_at_call 9; refine (shown13_any _ (HSm.out _ hT)).mono ?_; rintro e w1x ⟨rfl, hb1⟩; have hT := bc_then hT hb1; have HA : Veil _ := ⟨HA.out.below hb1⟩; obtain ⟨HA0, HA1⟩ := HA.out))
    go_ret
    exact ⟨rfl, below_al hT _⟩
end Go.Proofs.YtbbfmddechpnjaaDoor

/- The laws on accounts: AccountsTwice, AccountsBytes, AccountsBack. -/
namespace Go.Proofs.YtbbfmddechpnjaaDoor
open Go Go.RowKit Sm
attribute [local go_sem] Oper.semAt_some

set_option maxRecDepth 20000 in
set_option maxHeartbeats 2000000 in
theorem accountsTwice_any (a : Ac) (ha : a.Ok) (n m : Int) (hn : I64 n) (hm : I64 m) (w : World) (hS : MSent w) : Calls Tryd.prog 8 #[a.v, .int .i64 n, .int .i64 m] w fun e w' => e = .returned (.bool true) ∧ Below w.heap.size w w' := by
  have hd := deposit_ok64 a ha n
  have P1 : Veil _ := ⟨fun W (hb : Below w.heap.size w W) => acdeposit_any a ha n hn W (hS.below hb)⟩
  have P2 : Veil _ := ⟨fun W (hb : Below w.heap.size w W) => acdeposit_any (depositA a n).1 hd m hm W (hS.below hb)⟩
  have F : (depositA a n).2 ≠ 0 ∨ (depositA a n).2 = 0 ∧ ((depositA (depositA a n).1 m).2 ≠ 0 ∨ (depositA (depositA a n).1 m).2 = 0 ∧ (0 ≤ n ∧ n ≤ 1152921504606846976) ∧ (0 ≤ m ∧ m ≤ 1152921504606846976) ∧ ∀ W, Below w.heap.size w W → Calls Tryd.prog 10 #[a.v, .int .i64 (n + m)] W fun e w' => e = .returned (.tuple #[(depositA (depositA a n).1 m).1.v, .int .i64 0]) ∧ Below W.heap.size W w') := by
    by_cases h : (depositA a n).2 = 0
    · refine .inr ⟨h, ?_⟩
      by_cases g : (depositA (depositA a n).1 m).2 = 0
      · obtain ⟨b1, b2, b3⟩ := deposit_twice a n m h g
        refine .inr ⟨g, b1, b2, fun W hb => ?_⟩
        have := acdeposit_any a ha (n + m) (by unfold I64; omega) W (hS.below hb)
        rw [b3] at this
        rwa [g] at this
      · exact .inl g
    · exact .inl h
  have HSm : Veil (∀ W, Below w.heap.size w W → MSent W) := ⟨fun W hb => hS.below hb⟩
  clear hd ha hn hm hS
  generalize depositA a n = x1 at P1 P2 F
  obtain ⟨B, e0⟩ := x1
  dsimp only at P1 P2 F
  generalize depositA B m = x2 at P2 F
  obtain ⟨C, f0⟩ := x2
  dsimp only at P2 F
  have HA : Veil (AcBox (w.alloc (.cells #[.int .i64 a.w, .int .i64 a.b] 23)) w.heap.size a.w a.b) := ⟨AcBox.new _ _ _ _⟩
  have hT : Below w.heap.size w (w.alloc (.cells #[.int .i64 a.w, .int .i64 a.b] 23)) := below_al (Below.refl _ _) _
  rcases F with F | ⟨rfl, F | ⟨rfl, ⟨n0, n1⟩, ⟨m0, m1⟩, P3⟩⟩
  · have F1' : ¬ e0 = 0 := F
    clear F
    obtain ⟨aw, ab⟩ := a
    obtain ⟨bw, bb⟩ := B
    obtain ⟨cw, cb⟩ := C
    unfold Ac.v at *
    dsimp only at *
    go_enter Tryd.func8, Tryd.ntmps8
    go_wp2_with (first
    | (go_at_call 10; (with_reducible refine (P2.out _ (below_al hT _)).mono ?_); rintro e w3x ⟨rfl, hb3⟩; have hT := bc_then (below_al hT _) hb3; have HA : Veil _ := ⟨(HA.out.below (below_al (Below.refl _ _) _)).below hb3⟩; have HB : Veil _ := ⟨(AcBox.new _ _ _ _).below hb3⟩; obtain ⟨HA0, HA1⟩ := HA.out; have HAz := World.block_lt_of_cell? _ _ HA0; dsimp only at HAz; obtain ⟨HB0, HB1⟩ := HB.out; have HBz := World.block_lt_of_cell? _ _ HB0; dsimp only at HBz)
    | (go_at_call 10; (with_reducible refine (P1.out _ (hT)).mono ?_); rintro e w2x ⟨rfl, hb2⟩; have hT := bc_then (hT) hb2; have HA : Veil _ := ⟨HA.out.below hb2⟩; obtain ⟨HA0, HA1⟩ := HA.out; have HAz := World.block_lt_of_cell? _ _ HA0; dsimp only at HAz)
    | (go_at_call 9; refine (shown13_any _ (HSm.out _ hT)).mono ?_; rintro e w1x ⟨rfl, hb1⟩; have hT := bc_then hT hb1; have HA : Veil _ := ⟨HA.out.below hb1⟩; obtain ⟨HA0, HA1⟩ := HA.out; have HAz := World.block_lt_of_cell? _ _ HA0; dsimp only at HAz))
    go_ret
    exact ⟨rfl, below_al hT _⟩
  · have F1' : ¬ f0 = 0 := F
    clear F
    obtain ⟨aw, ab⟩ := a
    obtain ⟨bw, bb⟩ := B
    obtain ⟨cw, cb⟩ := C
    unfold Ac.v at *
    dsimp only at *
    go_enter Tryd.func8, Tryd.ntmps8
    go_wp2_with (first
    | (go_at_call 10; (with_reducible refine (P2.out _ (below_al hT _)).mono ?_); rintro e w3x ⟨rfl, hb3⟩; have hT := bc_then (below_al hT _) hb3; have HA : Veil _ := ⟨(HA.out.below (below_al (Below.refl _ _) _)).below hb3⟩; have HB : Veil _ := ⟨(AcBox.new _ _ _ _).below hb3⟩; obtain ⟨HA0, HA1⟩ := HA.out; have HAz := World.block_lt_of_cell? _ _ HA0; dsimp only at HAz; obtain ⟨HB0, HB1⟩ := HB.out; have HBz := World.block_lt_of_cell? _ _ HB0; dsimp only at HBz)
    | (go_at_call 10; (with_reducible refine (P1.out _ (hT)).mono ?_); rintro e w2x ⟨rfl, hb2⟩; have hT := bc_then (hT) hb2; have HA : Veil _ := ⟨HA.out.below hb2⟩; obtain ⟨HA0, HA1⟩ := HA.out; have HAz := World.block_lt_of_cell? _ _ HA0; dsimp only at HAz)
    | (go_at_call 9; refine (shown13_any _ (HSm.out _ hT)).mono ?_; rintro e w1x ⟨rfl, hb1⟩; have hT := bc_then hT hb1; have HA : Veil _ := ⟨HA.out.below hb1⟩; obtain ⟨HA0, HA1⟩ := HA.out; have HAz := World.block_lt_of_cell? _ _ HA0; dsimp only at HAz))
    go_ret
    exact ⟨rfl, below_al hT _⟩
  · have HP3 : Veil _ := ⟨P3⟩
    clear P3
    obtain ⟨aw, ab⟩ := a
    obtain ⟨bw, bb⟩ := B
    obtain ⟨cw, cb⟩ := C
    unfold Ac.v at *
    dsimp only at *
    go_enter Tryd.func8, Tryd.ntmps8
    go_wp2_with (first
    | (go_at_call 10; (with_reducible refine (HP3.out _ (below_al hT _)).mono ?_); rintro e w4x ⟨rfl, hb4⟩; have hT := bc_then (below_al hT _) hb4; have HA : Veil _ := ⟨(HA.out.below (below_al (Below.refl _ _) _)).below hb4⟩; have HB : Veil _ := ⟨(HB.out.below (below_al (Below.refl _ _) _)).below hb4⟩; have HC : Veil _ := ⟨(AcBox.new _ _ _ _).below hb4⟩; obtain ⟨HA0, HA1⟩ := HA.out; have HAz := World.block_lt_of_cell? _ _ HA0; dsimp only at HAz; obtain ⟨HB0, HB1⟩ := HB.out; have HBz := World.block_lt_of_cell? _ _ HB0; dsimp only at HBz; obtain ⟨HC0, HC1⟩ := HC.out; have HCz := World.block_lt_of_cell? _ _ HC0; dsimp only at HCz)
    | (go_at_call 10; (with_reducible refine (P2.out _ (below_al hT _)).mono ?_); rintro e w3x ⟨rfl, hb3⟩; have hT := bc_then (below_al hT _) hb3; have HA : Veil _ := ⟨(HA.out.below (below_al (Below.refl _ _) _)).below hb3⟩; have HB : Veil _ := ⟨(AcBox.new _ _ _ _).below hb3⟩; obtain ⟨HA0, HA1⟩ := HA.out; have HAz := World.block_lt_of_cell? _ _ HA0; dsimp only at HAz; obtain ⟨HB0, HB1⟩ := HB.out; have HBz := World.block_lt_of_cell? _ _ HB0; dsimp only at HBz)
    | (go_at_call 10; (with_reducible refine (P1.out _ (hT)).mono ?_); rintro e w2x ⟨rfl, hb2⟩; have hT := bc_then (hT) hb2; have HA : Veil _ := ⟨HA.out.below hb2⟩; obtain ⟨HA0, HA1⟩ := HA.out; have HAz := World.block_lt_of_cell? _ _ HA0; dsimp only at HAz)
    | (go_at_call 9; refine (shown13_any _ (HSm.out _ hT)).mono ?_; rintro e w1x ⟨rfl, hb1⟩; have hT := bc_then hT hb1; have HA : Veil _ := ⟨HA.out.below hb1⟩; obtain ⟨HA0, HA1⟩ := HA.out; have HAz := World.block_lt_of_cell? _ _ HA0; dsimp only at HAz))
    go_ret
    exact ⟨rfl, below_al hT _⟩

theorem bytesA_len (a : Ac) : (bytesA a).1.length ≤ 16 := by
  unfold bytesA
  split
  · exact bytesR_len _
  · exact Nat.zero_le _
theorem parse_ok64 (s : List UInt8) : (parseA s).1.Ok := by
  unfold parseA
  by_cases hc : (parseR s).2 = 0 ∧ (parseR s).1.length = 2 ∧ rightA (acOf (parseR s).1) = true
  · rw [if_pos hc]; exact am_ok hc.2.2
  · rw [if_neg hc]; exact zero_ok
set_option maxRecDepth 20000 in
set_option maxHeartbeats 2000000 in
theorem accountsBytes_any (a : Ac) (ha : a.Ok) (s : List UInt8) (hs : s.length ≤ 9223372036854775807) (w : World) (hS : MSent w) : Calls Tryd.prog 4 #[a.v, .string ⟨s.toArray⟩] w fun e w' => e = .returned (.bool true) ∧ Below w.heap.size w w' := by
  have hmin : ∀ W, (Builtin.min_ #[3, 3] 3 #[.int .i64 (s.length : Int), .int .i64 40]).run Tryd.prog W = .ok (.int .i64 ((min s.length 40 : Nat) : Int)) W := min_two s.length 40
  have hX := take_extM s 40
  have hk2 : min s.length 40 ≤ s.length := Nat.min_le_left _ _
  have ht : (s.take 40).length ≤ 40 := by rw [List.length_take]; omega
  generalize s.take 40 = t at hX ht
  generalize min s.length 40 = k at hmin hX hk2
  have P1 : Veil _ := ⟨fun W (hb : Below w.heap.size w W) => acbytes_any a ha W (hS.below hb)⟩
  have R1 : Veil _ := ⟨fun w => refbytesA_any a ha w⟩
  have P2 : Veil _ := ⟨fun W (hb : Below w.heap.size w W) => acparse_any t (by omega) W (hS.below hb)⟩
  have R2 : Veil _ := ⟨fun w => refparseA_any t (by omega) w⟩
  generalize bytesA a = x1 at P1 R1
  generalize parseA t = x2 at P2 R2
  obtain ⟨S, c1⟩ := x1
  obtain ⟨⟨qw, qb⟩, c2⟩ := x2
  have HSm : Veil (∀ W, Below w.heap.size w W → MSent W) := ⟨fun W hb => hS.below hb⟩
  clear ha hS
  have HA : Veil (AcBox (w.alloc (.cells #[.int .i64 a.w, .int .i64 a.b] 23)) w.heap.size a.w a.b) := ⟨AcBox.new _ _ _ _⟩
  have hT : Below w.heap.size w (w.alloc (.cells #[.int .i64 a.w, .int .i64 a.b] 23)) := below_al (Below.refl _ _) _
  obtain ⟨aw, ab⟩ := a
  unfold Ac.v at *
  dsimp only at *
  go_enter Tryd.func4, Tryd.ntmps4
  go_wp2_with (first
    | (go_at_call 25; (with_reducible refine (R2.out _).mono ?_); rintro e w5x ⟨rfl, hb5⟩; have hT := bc_then (below_al hT _) hb5; have HA : Veil _ := ⟨(HA.out.below (below_al (Below.refl _ _) _)).below hb5⟩; have HC : Veil _ := ⟨(AcBox.new _ _ _ _).below hb5⟩; obtain ⟨HA0, HA1⟩ := HA.out; have HAz := World.block_lt_of_cell? _ _ HA0; dsimp only at HAz; obtain ⟨HC0, HC1⟩ := HC.out; have HCz := World.block_lt_of_cell? _ _ HC0; dsimp only at HCz)
    | (go_at_call 24; (with_reducible refine (P2.out _ (hT)).mono ?_); rintro e w4x ⟨rfl, hb4⟩; have hT := bc_then (hT) hb4; have HA : Veil _ := ⟨HA.out.below hb4⟩; obtain ⟨HA0, HA1⟩ := HA.out; have HAz := World.block_lt_of_cell? _ _ HA0; dsimp only at HAz)
    | (go_at_call 23; (with_reducible refine (R1.out _).mono ?_); rintro e w3x ⟨rfl, hb3⟩; have hT := bc_then (hT) hb3; have HA : Veil _ := ⟨HA.out.below hb3⟩; obtain ⟨HA0, HA1⟩ := HA.out; have HAz := World.block_lt_of_cell? _ _ HA0; dsimp only at HAz)
    | (go_at_call 22; (with_reducible refine (P1.out _ (hT)).mono ?_); rintro e w2x ⟨rfl, hb2⟩; have hT := bc_then (hT) hb2; have HA : Veil _ := ⟨HA.out.below hb2⟩; obtain ⟨HA0, HA1⟩ := HA.out; have HAz := World.block_lt_of_cell? _ _ HA0; dsimp only at HAz)
    | (go_at_call 9; refine (shown13_any _ (HSm.out _ hT)).mono ?_; rintro e w1x ⟨rfl, hb1⟩; have hT := bc_then hT hb1; have HA : Veil _ := ⟨HA.out.below hb1⟩; obtain ⟨HA0, HA1⟩ := HA.out; have HAz := World.block_lt_of_cell? _ _ HA0; dsimp only at HAz))
  go_ret
  exact ⟨rfl, below_al hT _⟩

set_option maxRecDepth 20000 in
set_option maxHeartbeats 2000000 in
theorem accountsBack_any (a : Ac) (ha : a.Ok) (s : List UInt8) (hs : s.length ≤ 9223372036854775807) (w : World) (hS : MSent w) : Calls Tryd.prog 5 #[a.v, .string ⟨s.toArray⟩] w fun e w' => e = .returned (.bool true) ∧ Below w.heap.size w w' := by
  have hmin : ∀ W, (Builtin.min_ #[3, 3] 3 #[.int .i64 (s.length : Int), .int .i64 40]).run Tryd.prog W = .ok (.int .i64 ((min s.length 40 : Nat) : Int)) W := min_two s.length 40
  have hX := take_extM s 40
  have hk2 : min s.length 40 ≤ s.length := Nat.min_le_left _ _
  have ht : (s.take 40).length ≤ 40 := by rw [List.length_take]; omega
  generalize s.take 40 = t at hX ht
  generalize min s.length 40 = k at hmin hX hk2
  have hbl := bytesA_len a
  have hpo := parse_ok64 t
  have P1 : Veil _ := ⟨fun W (hb : Below w.heap.size w W) => acbytes_any a ha W (hS.below hb)⟩
  have P2 : Veil _ := ⟨fun W (hb : Below w.heap.size w W) => acparse_any (bytesA a).1 (by omega) W (hS.below hb)⟩
  have P3 : Veil _ := ⟨fun W (hb : Below w.heap.size w W) => acparse_any t (by omega) W (hS.below hb)⟩
  have P4 : Veil _ := ⟨fun W (hb : Below w.heap.size w W) => acbytes_any (parseA t).1 hpo W (hS.below hb)⟩
  have F1 : (bytesA a).2 ≠ 0 ∨ (bytesA a).2 = 0 ∧ (parseA (bytesA a).1).2 = 0 ∧ (parseA (bytesA a).1).1 = a := by
    by_cases h : (bytesA a).2 = 0
    · exact .inr ⟨h, by rw [bytesA_back a h], by rw [bytesA_back a h]⟩
    · exact .inl h
  have F2 : (parseA t).2 ≠ 0 ∨ (parseA t).2 = 0 ∧ (bytesA (parseA t).1).2 = 0 ∧ (bytesA (parseA t).1).1 = t := by
    by_cases h : (parseA t).2 = 0
    · exact .inr ⟨h, by rw [parseA_back t h], by rw [parseA_back t h]⟩
    · exact .inl h
  have HSm : Veil (∀ W, Below w.heap.size w W → MSent W) := ⟨fun W hb => hS.below hb⟩
  clear hbl hpo ha hS
  generalize bytesA a = x1 at P1 P2 F1
  obtain ⟨S, e0⟩ := x1
  dsimp only at P1 P2 F1
  generalize parseA S = x2 at P2 F1
  obtain ⟨C, f0⟩ := x2
  generalize parseA t = x3 at P3 P4 F2
  obtain ⟨D, g0⟩ := x3
  dsimp only at P3 P4 F2
  generalize bytesA D = x4 at P4 F2
  obtain ⟨U, h0⟩ := x4
  dsimp only at P2 P4 F1 F2
  have HA : Veil (AcBox (w.alloc (.cells #[.int .i64 a.w, .int .i64 a.b] 23)) w.heap.size a.w a.b) := ⟨AcBox.new _ _ _ _⟩
  have hT : Below w.heap.size w (w.alloc (.cells #[.int .i64 a.w, .int .i64 a.b] 23)) := below_al (Below.refl _ _) _
  rcases F1 with F1 | ⟨rfl, rfl, rfl⟩ <;> rcases F2 with F2 | ⟨rfl, rfl, rfl⟩
  all_goals
    try (have F1' : ¬ e0 = 0 := F1)
    try (have F2' : ¬ g0 = 0 := F2)
    try clear F1
    try clear F2
    try obtain ⟨aw, ab⟩ := a
    try obtain ⟨cw, cb⟩ := C
    try obtain ⟨dw, db⟩ := D
    unfold Ac.v at *
    dsimp only at *
    go_enter Tryd.func5, Tryd.ntmps5
    go_wp2_with (first
    | (go_at_call 22; (with_reducible refine (P4.out _ (below_al hT _)).mono ?_); rintro e w5x ⟨rfl, hb5⟩; have hT := bc_then (below_al hT _) hb5; have HA : Veil _ := ⟨(HA.out.below (below_al (Below.refl _ _) _)).below hb5⟩; have HC : Veil _ := ⟨(HC.out.below (below_al (Below.refl _ _) _)).below hb5⟩; have HD : Veil _ := ⟨(AcBox.new _ _ _ _).below hb5⟩; obtain ⟨HA0, HA1⟩ := HA.out; have HAz := World.block_lt_of_cell? _ _ HA0; dsimp only at HAz; obtain ⟨HC0, HC1⟩ := HC.out; have HCz := World.block_lt_of_cell? _ _ HC0; dsimp only at HCz; obtain ⟨HD0, HD1⟩ := HD.out; have HDz := World.block_lt_of_cell? _ _ HD0; dsimp only at HDz)
    | (go_at_call 24; (with_reducible refine (P3.out _ (below_al hT _)).mono ?_); rintro e w4x ⟨rfl, hb4⟩; have hT := bc_then (below_al hT _) hb4; have HA : Veil _ := ⟨(HA.out.below (below_al (Below.refl _ _) _)).below hb4⟩; have HC : Veil _ := ⟨(AcBox.new _ _ _ _).below hb4⟩; obtain ⟨HA0, HA1⟩ := HA.out; have HAz := World.block_lt_of_cell? _ _ HA0; dsimp only at HAz; obtain ⟨HC0, HC1⟩ := HC.out; have HCz := World.block_lt_of_cell? _ _ HC0; dsimp only at HCz)
    | (go_at_call 24; (with_reducible refine (P2.out _ (hT)).mono ?_); rintro e w3x ⟨rfl, hb3⟩; have hT := bc_then (hT) hb3; have HA : Veil _ := ⟨HA.out.below hb3⟩; obtain ⟨HA0, HA1⟩ := HA.out; have HAz := World.block_lt_of_cell? _ _ HA0; dsimp only at HAz)
    | (go_at_call 22; (with_reducible refine (P1.out _ (hT)).mono ?_); rintro e w2x ⟨rfl, hb2⟩; have hT := bc_then (hT) hb2; have HA : Veil _ := ⟨HA.out.below hb2⟩; obtain ⟨HA0, HA1⟩ := HA.out; have HAz := World.block_lt_of_cell? _ _ HA0; dsimp only at HAz)
    | (go_at_call 9; refine (shown13_any _ (HSm.out _ hT)).mono ?_; rintro e w1x ⟨rfl, hb1⟩; have hT := bc_then hT hb1; have HA : Veil _ := ⟨HA.out.below hb1⟩; obtain ⟨HA0, HA1⟩ := HA.out; have HAz := World.block_lt_of_cell? _ _ HA0; dsimp only at HAz))
    go_ret
    exact ⟨rfl, hT⟩
end Go.Proofs.YtbbfmddechpnjaaDoor

/- The laws on accounts: AccountsDo. -/
namespace Go.Proofs.YtbbfmddechpnjaaDoor
open Go Go.RowKit Sm
attribute [local go_sem] Oper.semAt_some

abbrev AcAt2 (f : FuncId) (x y x2 y2 n u v u2 v2 c : Int) : Prop := ∀ w, Calls Tryd.prog f #[.agg #[.int .i64 x, .int .i64 y], .agg #[.int .i64 x2, .int .i64 y2], .int .i64 n] w fun e w' => e = .returned (.tuple #[.agg #[.int .i64 u, .int .i64 v], .agg #[.int .i64 u2, .int .i64 v2], .int .i64 c]) ∧ Below w.heap.size w w'
set_option maxRecDepth 20000 in
set_option maxHeartbeats 4000000 in
theorem accountsDo_any (a b : Ac) (ha : a.Ok) (hbk : b.Ok) (n : Int) (hn : I64 n) (w : World) (hS : MSent w) : Calls Tryd.prog 3 #[a.v, b.v, .int .i64 n] w fun e w' => e = .returned (.bool true) ∧ Below w.heap.size w w' := by
  have PD : Veil _ := ⟨fun W (hb : Below w.heap.size w W) => acdeposit_any a ha n hn W (hS.below hb)⟩
  have RD : Veil _ := ⟨fun w => refdepositA_any a ha n hn w⟩
  have PWd : Veil _ := ⟨fun W (hb : Below w.heap.size w W) => acwithdraw_any a ha n hn W (hS.below hb)⟩
  have RWd : Veil _ := ⟨fun w => refwithdrawA_any a ha n hn w⟩
  have PE : Veil _ := ⟨fun W (hb : Below w.heap.size w W) => acearn_any a ha n hn W (hS.below hb)⟩
  have RE : Veil _ := ⟨fun w => refearnA_any a ha n hn w⟩
  have PS : Veil _ := ⟨fun W (hb : Below w.heap.size w W) => acspend_any a ha n hn W (hS.below hb)⟩
  have RS : Veil _ := ⟨fun w => refspendA_any a ha n hn w⟩
  have PP : Veil _ := ⟨fun W (hb : Below w.heap.size w W) => acpay_any a b ha hbk n hn W (hS.below hb)⟩
  have RP : Veil _ := ⟨fun w => refpayA_any a b ha hbk n hn w⟩
  have PR : Veil _ := ⟨fun W (hb : Below w.heap.size w W) => acright_any a ha W (hS.below hb)⟩
  have RR : Veil _ := ⟨fun w => refrightA_any a ha w⟩
  generalize depositA a n = x1 at PD RD
  generalize withdrawA a n = x2 at PWd RWd
  generalize earnA a n = x3 at PE RE
  generalize spendA a n = x4 at PS RS
  generalize payA a b n = x5 at PP RP
  generalize rightA a = rr at PR RR
  obtain ⟨⟨dw, db⟩, cd⟩ := x1
  obtain ⟨⟨ww, wb⟩, cw⟩ := x2
  obtain ⟨⟨ew, eb⟩, ce⟩ := x3
  obtain ⟨⟨sw, sb⟩, cs⟩ := x4
  obtain ⟨⟨pw, pb⟩, ⟨qw, qb⟩, cp⟩ := x5
  obtain ⟨aw, ab⟩ := a
  obtain ⟨bw, bb⟩ := b
  have HSm : Veil (∀ W, Below w.heap.size w W → MSent W) := ⟨fun W hb => hS.below hb⟩
  clear ha hbk hn hS
  unfold Ac.v at *
  dsimp only at *
  have HA : Veil (AcBox ((w.alloc (.cells #[.int .i64 aw, .int .i64 ab] 23)).alloc (.cells #[.int .i64 bw, .int .i64 bb] 23)) w.heap.size aw ab) := ⟨(AcBox.new _ _ _ _).below (below_al (Below.refl _ _) _)⟩
  have HB : Veil (AcBox ((w.alloc (.cells #[.int .i64 aw, .int .i64 ab] 23)).alloc (.cells #[.int .i64 bw, .int .i64 bb] 23)) (w.heap.size + 1) bw bb) := ⟨by
    have := AcBox.new (w.alloc (.cells #[.int .i64 aw, .int .i64 ab] 23)) bw bb 23
    rwa [World.size_alloc] at this⟩
  have hT : Below w.heap.size w ((w.alloc (.cells #[.int .i64 aw, .int .i64 ab] 23)).alloc (.cells #[.int .i64 bw, .int .i64 bb] 23)) := below_al (below_al (Below.refl _ _) _) _
  go_enter Tryd.func3, Tryd.ntmps3
  go_wp2_with (first
    | (go_at_call 19; (with_reducible refine (RP.out _).mono ?_); rintro e w11x ⟨rfl, hb11⟩; have hT := bc_then (below_al (below_al (hT) _) _) hb11; have HA : Veil _ := ⟨(HA.out.below (below_al (below_al (Below.refl _ _) _) _)).below hb11⟩; have HB : Veil _ := ⟨(HB.out.below (below_al (below_al (Below.refl _ _) _) _)).below hb11⟩; have HD : Veil _ := ⟨(HD.out.below (below_al (below_al (Below.refl _ _) _) _)).below hb11⟩; have KD : Veil _ := ⟨(KD.out.below (below_al (below_al (Below.refl _ _) _) _)).below hb11⟩; have HWd : Veil _ := ⟨(HWd.out.below (below_al (below_al (Below.refl _ _) _) _)).below hb11⟩; have KWd : Veil _ := ⟨(KWd.out.below (below_al (below_al (Below.refl _ _) _) _)).below hb11⟩; have HE : Veil _ := ⟨(HE.out.below (below_al (below_al (Below.refl _ _) _) _)).below hb11⟩; have KE : Veil _ := ⟨(KE.out.below (below_al (below_al (Below.refl _ _) _) _)).below hb11⟩; have HS : Veil _ := ⟨(HS.out.below (below_al (below_al (Below.refl _ _) _) _)).below hb11⟩; have KS : Veil _ := ⟨(KS.out.below (below_al (below_al (Below.refl _ _) _) _)).below hb11⟩; have HP : Veil _ := ⟨((AcBox.new _ _ _ _).below (below_al (Below.refl _ _) _)).below hb11⟩; have HQ : Veil _ := ⟨(AcBox.new _ _ _ _).below hb11⟩; simp only [World.size_alloc] at HQ; obtain ⟨HA0, HA1⟩ := HA.out; have HAz := World.block_lt_of_cell? _ _ HA0; dsimp only at HAz; obtain ⟨HB0, HB1⟩ := HB.out; have HBz := World.block_lt_of_cell? _ _ HB0; dsimp only at HBz; obtain ⟨HD0, HD1⟩ := HD.out; have HDz := World.block_lt_of_cell? _ _ HD0; dsimp only at HDz; obtain ⟨KD0, KD1⟩ := KD.out; have KDz := World.block_lt_of_cell? _ _ KD0; dsimp only at KDz; obtain ⟨HWd0, HWd1⟩ := HWd.out; have HWdz := World.block_lt_of_cell? _ _ HWd0; dsimp only at HWdz; obtain ⟨KWd0, KWd1⟩ := KWd.out; have KWdz := World.block_lt_of_cell? _ _ KWd0; dsimp only at KWdz; obtain ⟨HE0, HE1⟩ := HE.out; have HEz := World.block_lt_of_cell? _ _ HE0; dsimp only at HEz; obtain ⟨KE0, KE1⟩ := KE.out; have KEz := World.block_lt_of_cell? _ _ KE0; dsimp only at KEz; obtain ⟨HS0, HS1⟩ := HS.out; have HSz := World.block_lt_of_cell? _ _ HS0; dsimp only at HSz; obtain ⟨KS0, KS1⟩ := KS.out; have KSz := World.block_lt_of_cell? _ _ KS0; dsimp only at KSz; obtain ⟨HP0, HP1⟩ := HP.out; have HPz := World.block_lt_of_cell? _ _ HP0; dsimp only at HPz; obtain ⟨HQ0, HQ1⟩ := HQ.out; have HQz := World.block_lt_of_cell? _ _ HQ0; dsimp only at HQz)
    | (go_at_call 18; (with_reducible refine (PP.out _ (below_al (hT) _)).mono ?_); rintro e w10x ⟨rfl, hb10⟩; have hT := bc_then (below_al (hT) _) hb10; have HA : Veil _ := ⟨(HA.out.below (below_al (Below.refl _ _) _)).below hb10⟩; have HB : Veil _ := ⟨(HB.out.below (below_al (Below.refl _ _) _)).below hb10⟩; have HD : Veil _ := ⟨(HD.out.below (below_al (Below.refl _ _) _)).below hb10⟩; have KD : Veil _ := ⟨(KD.out.below (below_al (Below.refl _ _) _)).below hb10⟩; have HWd : Veil _ := ⟨(HWd.out.below (below_al (Below.refl _ _) _)).below hb10⟩; have KWd : Veil _ := ⟨(KWd.out.below (below_al (Below.refl _ _) _)).below hb10⟩; have HE : Veil _ := ⟨(HE.out.below (below_al (Below.refl _ _) _)).below hb10⟩; have KE : Veil _ := ⟨(KE.out.below (below_al (Below.refl _ _) _)).below hb10⟩; have HS : Veil _ := ⟨(HS.out.below (below_al (Below.refl _ _) _)).below hb10⟩; have KS : Veil _ := ⟨(AcBox.new _ _ _ _).below hb10⟩; obtain ⟨HA0, HA1⟩ := HA.out; have HAz := World.block_lt_of_cell? _ _ HA0; dsimp only at HAz; obtain ⟨HB0, HB1⟩ := HB.out; have HBz := World.block_lt_of_cell? _ _ HB0; dsimp only at HBz; obtain ⟨HD0, HD1⟩ := HD.out; have HDz := World.block_lt_of_cell? _ _ HD0; dsimp only at HDz; obtain ⟨KD0, KD1⟩ := KD.out; have KDz := World.block_lt_of_cell? _ _ KD0; dsimp only at KDz; obtain ⟨HWd0, HWd1⟩ := HWd.out; have HWdz := World.block_lt_of_cell? _ _ HWd0; dsimp only at HWdz; obtain ⟨KWd0, KWd1⟩ := KWd.out; have KWdz := World.block_lt_of_cell? _ _ KWd0; dsimp only at KWdz; obtain ⟨HE0, HE1⟩ := HE.out; have HEz := World.block_lt_of_cell? _ _ HE0; dsimp only at HEz; obtain ⟨KE0, KE1⟩ := KE.out; have KEz := World.block_lt_of_cell? _ _ KE0; dsimp only at KEz; obtain ⟨HS0, HS1⟩ := HS.out; have HSz := World.block_lt_of_cell? _ _ HS0; dsimp only at HSz; obtain ⟨KS0, KS1⟩ := KS.out; have KSz := World.block_lt_of_cell? _ _ KS0; dsimp only at KSz)
    | (go_at_call 17; (with_reducible refine (RS.out _).mono ?_); rintro e w9x ⟨rfl, hb9⟩; have hT := bc_then (below_al (hT) _) hb9; have HA : Veil _ := ⟨(HA.out.below (below_al (Below.refl _ _) _)).below hb9⟩; have HB : Veil _ := ⟨(HB.out.below (below_al (Below.refl _ _) _)).below hb9⟩; have HD : Veil _ := ⟨(HD.out.below (below_al (Below.refl _ _) _)).below hb9⟩; have KD : Veil _ := ⟨(KD.out.below (below_al (Below.refl _ _) _)).below hb9⟩; have HWd : Veil _ := ⟨(HWd.out.below (below_al (Below.refl _ _) _)).below hb9⟩; have KWd : Veil _ := ⟨(KWd.out.below (below_al (Below.refl _ _) _)).below hb9⟩; have HE : Veil _ := ⟨(HE.out.below (below_al (Below.refl _ _) _)).below hb9⟩; have KE : Veil _ := ⟨(KE.out.below (below_al (Below.refl _ _) _)).below hb9⟩; have HS : Veil _ := ⟨(AcBox.new _ _ _ _).below hb9⟩; obtain ⟨HA0, HA1⟩ := HA.out; have HAz := World.block_lt_of_cell? _ _ HA0; dsimp only at HAz; obtain ⟨HB0, HB1⟩ := HB.out; have HBz := World.block_lt_of_cell? _ _ HB0; dsimp only at HBz; obtain ⟨HD0, HD1⟩ := HD.out; have HDz := World.block_lt_of_cell? _ _ HD0; dsimp only at HDz; obtain ⟨KD0, KD1⟩ := KD.out; have KDz := World.block_lt_of_cell? _ _ KD0; dsimp only at KDz; obtain ⟨HWd0, HWd1⟩ := HWd.out; have HWdz := World.block_lt_of_cell? _ _ HWd0; dsimp only at HWdz; obtain ⟨KWd0, KWd1⟩ := KWd.out; have KWdz := World.block_lt_of_cell? _ _ KWd0; dsimp only at KWdz; obtain ⟨HE0, HE1⟩ := HE.out; have HEz := World.block_lt_of_cell? _ _ HE0; dsimp only at HEz; obtain ⟨KE0, KE1⟩ := KE.out; have KEz := World.block_lt_of_cell? _ _ KE0; dsimp only at KEz; obtain ⟨HS0, HS1⟩ := HS.out; have HSz := World.block_lt_of_cell? _ _ HS0; dsimp only at HSz)
    | (go_at_call 16; (with_reducible refine (PS.out _ (below_al (hT) _)).mono ?_); rintro e w8x ⟨rfl, hb8⟩; have hT := bc_then (below_al (hT) _) hb8; have HA : Veil _ := ⟨(HA.out.below (below_al (Below.refl _ _) _)).below hb8⟩; have HB : Veil _ := ⟨(HB.out.below (below_al (Below.refl _ _) _)).below hb8⟩; have HD : Veil _ := ⟨(HD.out.below (below_al (Below.refl _ _) _)).below hb8⟩; have KD : Veil _ := ⟨(KD.out.below (below_al (Below.refl _ _) _)).below hb8⟩; have HWd : Veil _ := ⟨(HWd.out.below (below_al (Below.refl _ _) _)).below hb8⟩; have KWd : Veil _ := ⟨(KWd.out.below (below_al (Below.refl _ _) _)).below hb8⟩; have HE : Veil _ := ⟨(HE.out.below (below_al (Below.refl _ _) _)).below hb8⟩; have KE : Veil _ := ⟨(AcBox.new _ _ _ _).below hb8⟩; obtain ⟨HA0, HA1⟩ := HA.out; have HAz := World.block_lt_of_cell? _ _ HA0; dsimp only at HAz; obtain ⟨HB0, HB1⟩ := HB.out; have HBz := World.block_lt_of_cell? _ _ HB0; dsimp only at HBz; obtain ⟨HD0, HD1⟩ := HD.out; have HDz := World.block_lt_of_cell? _ _ HD0; dsimp only at HDz; obtain ⟨KD0, KD1⟩ := KD.out; have KDz := World.block_lt_of_cell? _ _ KD0; dsimp only at KDz; obtain ⟨HWd0, HWd1⟩ := HWd.out; have HWdz := World.block_lt_of_cell? _ _ HWd0; dsimp only at HWdz; obtain ⟨KWd0, KWd1⟩ := KWd.out; have KWdz := World.block_lt_of_cell? _ _ KWd0; dsimp only at KWdz; obtain ⟨HE0, HE1⟩ := HE.out; have HEz := World.block_lt_of_cell? _ _ HE0; dsimp only at HEz; obtain ⟨KE0, KE1⟩ := KE.out; have KEz := World.block_lt_of_cell? _ _ KE0; dsimp only at KEz)
    | (go_at_call 15; (with_reducible refine (RE.out _).mono ?_); rintro e w7x ⟨rfl, hb7⟩; have hT := bc_then (below_al (hT) _) hb7; have HA : Veil _ := ⟨(HA.out.below (below_al (Below.refl _ _) _)).below hb7⟩; have HB : Veil _ := ⟨(HB.out.below (below_al (Below.refl _ _) _)).below hb7⟩; have HD : Veil _ := ⟨(HD.out.below (below_al (Below.refl _ _) _)).below hb7⟩; have KD : Veil _ := ⟨(KD.out.below (below_al (Below.refl _ _) _)).below hb7⟩; have HWd : Veil _ := ⟨(HWd.out.below (below_al (Below.refl _ _) _)).below hb7⟩; have KWd : Veil _ := ⟨(KWd.out.below (below_al (Below.refl _ _) _)).below hb7⟩; have HE : Veil _ := ⟨(AcBox.new _ _ _ _).below hb7⟩; obtain ⟨HA0, HA1⟩ := HA.out; have HAz := World.block_lt_of_cell? _ _ HA0; dsimp only at HAz; obtain ⟨HB0, HB1⟩ := HB.out; have HBz := World.block_lt_of_cell? _ _ HB0; dsimp only at HBz; obtain ⟨HD0, HD1⟩ := HD.out; have HDz := World.block_lt_of_cell? _ _ HD0; dsimp only at HDz; obtain ⟨KD0, KD1⟩ := KD.out; have KDz := World.block_lt_of_cell? _ _ KD0; dsimp only at KDz; obtain ⟨HWd0, HWd1⟩ := HWd.out; have HWdz := World.block_lt_of_cell? _ _ HWd0; dsimp only at HWdz; obtain ⟨KWd0, KWd1⟩ := KWd.out; have KWdz := World.block_lt_of_cell? _ _ KWd0; dsimp only at KWdz; obtain ⟨HE0, HE1⟩ := HE.out; have HEz := World.block_lt_of_cell? _ _ HE0; dsimp only at HEz)
    | (go_at_call 14; (with_reducible refine (PE.out _ (below_al (hT) _)).mono ?_); rintro e w6x ⟨rfl, hb6⟩; have hT := bc_then (below_al (hT) _) hb6; have HA : Veil _ := ⟨(HA.out.below (below_al (Below.refl _ _) _)).below hb6⟩; have HB : Veil _ := ⟨(HB.out.below (below_al (Below.refl _ _) _)).below hb6⟩; have HD : Veil _ := ⟨(HD.out.below (below_al (Below.refl _ _) _)).below hb6⟩; have KD : Veil _ := ⟨(KD.out.below (below_al (Below.refl _ _) _)).below hb6⟩; have HWd : Veil _ := ⟨(HWd.out.below (below_al (Below.refl _ _) _)).below hb6⟩; have KWd : Veil _ := ⟨(AcBox.new _ _ _ _).below hb6⟩; obtain ⟨HA0, HA1⟩ := HA.out; have HAz := World.block_lt_of_cell? _ _ HA0; dsimp only at HAz; obtain ⟨HB0, HB1⟩ := HB.out; have HBz := World.block_lt_of_cell? _ _ HB0; dsimp only at HBz; obtain ⟨HD0, HD1⟩ := HD.out; have HDz := World.block_lt_of_cell? _ _ HD0; dsimp only at HDz; obtain ⟨KD0, KD1⟩ := KD.out; have KDz := World.block_lt_of_cell? _ _ KD0; dsimp only at KDz; obtain ⟨HWd0, HWd1⟩ := HWd.out; have HWdz := World.block_lt_of_cell? _ _ HWd0; dsimp only at HWdz; obtain ⟨KWd0, KWd1⟩ := KWd.out; have KWdz := World.block_lt_of_cell? _ _ KWd0; dsimp only at KWdz)
    | (go_at_call 13; (with_reducible refine (RWd.out _).mono ?_); rintro e w5x ⟨rfl, hb5⟩; have hT := bc_then (below_al (hT) _) hb5; have HA : Veil _ := ⟨(HA.out.below (below_al (Below.refl _ _) _)).below hb5⟩; have HB : Veil _ := ⟨(HB.out.below (below_al (Below.refl _ _) _)).below hb5⟩; have HD : Veil _ := ⟨(HD.out.below (below_al (Below.refl _ _) _)).below hb5⟩; have KD : Veil _ := ⟨(KD.out.below (below_al (Below.refl _ _) _)).below hb5⟩; have HWd : Veil _ := ⟨(AcBox.new _ _ _ _).below hb5⟩; obtain ⟨HA0, HA1⟩ := HA.out; have HAz := World.block_lt_of_cell? _ _ HA0; dsimp only at HAz; obtain ⟨HB0, HB1⟩ := HB.out; have HBz := World.block_lt_of_cell? _ _ HB0; dsimp only at HBz; obtain ⟨HD0, HD1⟩ := HD.out; have HDz := World.block_lt_of_cell? _ _ HD0; dsimp only at HDz; obtain ⟨KD0, KD1⟩ := KD.out; have KDz := World.block_lt_of_cell? _ _ KD0; dsimp only at KDz; obtain ⟨HWd0, HWd1⟩ := HWd.out; have HWdz := World.block_lt_of_cell? _ _ HWd0; dsimp only at HWdz)
    | (go_at_call 12; (with_reducible refine (PWd.out _ (below_al (hT) _)).mono ?_); rintro e w4x ⟨rfl, hb4⟩; have hT := bc_then (below_al (hT) _) hb4; have HA : Veil _ := ⟨(HA.out.below (below_al (Below.refl _ _) _)).below hb4⟩; have HB : Veil _ := ⟨(HB.out.below (below_al (Below.refl _ _) _)).below hb4⟩; have HD : Veil _ := ⟨(HD.out.below (below_al (Below.refl _ _) _)).below hb4⟩; have KD : Veil _ := ⟨(AcBox.new _ _ _ _).below hb4⟩; obtain ⟨HA0, HA1⟩ := HA.out; have HAz := World.block_lt_of_cell? _ _ HA0; dsimp only at HAz; obtain ⟨HB0, HB1⟩ := HB.out; have HBz := World.block_lt_of_cell? _ _ HB0; dsimp only at HBz; obtain ⟨HD0, HD1⟩ := HD.out; have HDz := World.block_lt_of_cell? _ _ HD0; dsimp only at HDz; obtain ⟨KD0, KD1⟩ := KD.out; have KDz := World.block_lt_of_cell? _ _ KD0; dsimp only at KDz)
    | (go_at_call 11; (with_reducible refine (RD.out _).mono ?_); rintro e w3x ⟨rfl, hb3⟩; have hT := bc_then (below_al (hT) _) hb3; have HA : Veil _ := ⟨(HA.out.below (below_al (Below.refl _ _) _)).below hb3⟩; have HB : Veil _ := ⟨(HB.out.below (below_al (Below.refl _ _) _)).below hb3⟩; have HD : Veil _ := ⟨(AcBox.new _ _ _ _).below hb3⟩; obtain ⟨HA0, HA1⟩ := HA.out; have HAz := World.block_lt_of_cell? _ _ HA0; dsimp only at HAz; obtain ⟨HB0, HB1⟩ := HB.out; have HBz := World.block_lt_of_cell? _ _ HB0; dsimp only at HBz; obtain ⟨HD0, HD1⟩ := HD.out; have HDz := World.block_lt_of_cell? _ _ HD0; dsimp only at HDz)
    | (go_at_call 10; (with_reducible refine (PD.out _ (hT)).mono ?_); rintro e w2x ⟨rfl, hb2⟩; have hT := bc_then (hT) hb2; have HA : Veil _ := ⟨HA.out.below hb2⟩; have HB : Veil _ := ⟨HB.out.below hb2⟩; obtain ⟨HA0, HA1⟩ := HA.out; have HAz := World.block_lt_of_cell? _ _ HA0; dsimp only at HAz; obtain ⟨HB0, HB1⟩ := HB.out; have HBz := World.block_lt_of_cell? _ _ HB0; dsimp only at HBz)
    | (go_at_call 9; (with_reducible refine (shown13_any _ (HSm.out _ (hT))).mono ?_); rintro e w1x ⟨rfl, hb1⟩; have hT := bc_then (hT) hb1; have HA : Veil _ := ⟨HA.out.below hb1⟩; have HB : Veil _ := ⟨HB.out.below hb1⟩; obtain ⟨HA0, HA1⟩ := HA.out; have HAz := World.block_lt_of_cell? _ _ HA0; dsimp only at HAz; obtain ⟨HB0, HB1⟩ := HB.out; have HBz := World.block_lt_of_cell? _ _ HB0; dsimp only at HBz))
  obtain ⟨WF, hWF⟩ : ∃ WF, (w11x.alloc (.cells #[.int .i64 pw, .int .i64 pb] 23)).alloc (.cells #[.int .i64 qw, .int .i64 qb] 23) = WF := ⟨_, rfl⟩
  have hup : Below w11x.heap.size w11x WF := by rw [← hWF]; exact below_al (below_al (Below.refl _ _) _) _
  have HAf : Veil _ := ⟨HA.out.below hup⟩
  have HBf : Veil _ := ⟨HB.out.below hup⟩
  have HDf : Veil _ := ⟨HD.out.below hup⟩
  have KDf : Veil _ := ⟨KD.out.below hup⟩
  have HWdf : Veil _ := ⟨HWd.out.below hup⟩
  have KWdf : Veil _ := ⟨KWd.out.below hup⟩
  have HEf : Veil _ := ⟨HE.out.below hup⟩
  have KEf : Veil _ := ⟨KE.out.below hup⟩
  have HSf : Veil _ := ⟨HS.out.below hup⟩
  have KSf : Veil _ := ⟨KS.out.below hup⟩
  have HPf : Veil _ := ⟨HP.out.below hup⟩
  have HQf : Veil _ := ⟨HQ.out.below hup⟩
  have KPf : Veil (AcBox WF w11x.heap.size pw pb) := ⟨by
    rw [← hWF]
    exact (AcBox.new _ _ _ _).below (below_al (Below.refl _ _) _)⟩
  have KQf : Veil (AcBox WF (w11x.heap.size + 1) qw qb) := ⟨by
    rw [← hWF]
    rw [← World.size_alloc]
    exact AcBox.new _ _ _ _⟩
  have HTf : Veil (Below w.heap.size w WF) := ⟨by rw [← hWF]; exact below_al (below_al (hT) _) _⟩
  rw [hWF]
  clear HA0 HA1 HAz HB0 HB1 HBz HD0 HD1 HDz KD0 KD1 KDz HWd0 HWd1 HWdz KWd0 KWd1 KWdz HE0 HE1 HEz KE0 KE1 KEz HS0 HS1 HSz KS0 KS1 KSz HP0 HP1 HPz HQ0 HQ1 HQz
  clear HA HB HD KD HWd KWd HE KE HS KS HP HQ hT hup hWF hb1 hb2 hb3 hb4 hb5 hb6 hb7 hb8 hb9 hb10 hb11
  refine region_new [.is (.bool true), .is (.bool true), .is (.agg #[.int .i64 aw, .int .i64 ab]), .is (.bool rr), .is (.agg #[.int .i64 aw, .int .i64 ab]), .is (.bool rr), .is (.bool true), .is (.bool true), .is (.bool true), .is (.agg #[.int .i64 dw, .int .i64 db]), .is (.agg #[.int .i64 dw, .int .i64 db]), .is (.bool true), .is (.bool true), .is (.bool true), .is (.int .i64 cd), .is (.int .i64 cd), .is (.bool true), .is (.bool true), .is (.bool true), .is (.agg #[.int .i64 ww, .int .i64 wb]), .is (.agg #[.int .i64 ww, .int .i64 wb]), .is (.bool true), .is (.bool true), .is (.bool true), .is (.int .i64 cw), .is (.int .i64 cw), .is (.bool true), .is (.bool true), .is (.bool true), .is (.agg #[.int .i64 ew, .int .i64 eb]), .is (.agg #[.int .i64 ew, .int .i64 eb]), .is (.bool true), .is (.bool true), .is (.bool true), .is (.int .i64 ce), .is (.int .i64 ce), .is (.bool true), .is (.bool true), .is (.bool true), .is (.agg #[.int .i64 sw, .int .i64 sb]), .is (.agg #[.int .i64 sw, .int .i64 sb]), .is (.bool true), .is (.bool true), .is (.bool true), .is (.int .i64 cs), .is (.int .i64 cs), .is (.bool true), .is (.bool true), .is (.bool true), .is (.agg #[.int .i64 pw, .int .i64 pb]), .is (.agg #[.int .i64 pw, .int .i64 pb]), .is (.bool true), .is (.bool true), .is (.bool true), .is (.agg #[.int .i64 qw, .int .i64 qb]), .is (.agg #[.int .i64 qw, .int .i64 qb]), .is (.bool true), .is (.bool true), .is (.bool true), .is (.int .i64 cp), .is (.int .i64 cp), .is (.bool true), .is (.bool true)]
    [[], [(0, 95)], [(1, 96)], [(1, 96), (2, 97)], [(1, 96)], [(1, 96), (4, 99)], [(1, 96), (3, 98), (5, 100)], [(1, 96), (6, 101)], [(7, 102)], [(8, 103)], [(8, 103)], [(8, 103), (9, 104), (10, 105)], [(8, 103), (11, 106)], [(12, 107)], [(13, 108)], [(13, 108)], [(13, 108), (14, 109), (15, 110)], [(13, 108), (16, 111)], [(17, 112)], [(18, 113)], [(18, 113)], [(18, 113), (19, 114), (20, 115)], [(18, 113), (21, 116)], [(22, 117)], [(23, 118)], [(23, 118)], [(23, 118), (24, 119), (25, 120)], [(23, 118), (26, 121)], [(27, 122)], [(28, 123)], [(28, 123)], [(28, 123), (29, 124), (30, 125)], [(28, 123), (31, 126)], [(32, 127)], [(33, 128)], [(33, 128)], [(33, 128), (34, 129), (35, 130)], [(33, 128), (36, 131)], [(37, 132)], [(38, 133)], [(38, 133)], [(38, 133), (39, 134), (40, 135)], [(38, 133), (41, 136)], [(42, 137)], [(43, 138)], [(43, 138)], [(43, 138), (44, 139), (45, 140)], [(43, 138), (46, 141)], [(47, 142)], [(48, 143)], [(48, 143)], [(48, 143), (49, 144), (50, 145)], [(48, 143), (51, 146)], [(52, 147)], [(53, 148)], [(53, 148)], [(53, 148), (54, 149), (55, 150)], [(53, 148), (56, 151)], [(57, 152)], [(58, 153)], [(58, 153)], [(58, 153), (59, 154), (60, 155)], [(58, 153), (61, 156)]]
    [[], [0], [1], [1, 2], [1], [1, 3, 4], [1, 3, 5], [1, 6], [5, 7], [8], [8], [8, 9, 10], [8, 11], [8, 12], [13], [13], [13, 14, 15], [13, 16], [13, 17], [18], [18], [18, 19, 20], [18, 21], [18, 22], [23], [23], [23, 24, 25], [23, 26], [23, 27], [28], [28], [28, 29, 30], [28, 31], [28, 32], [33], [33], [33, 34, 35], [33, 36], [33, 37], [38], [38], [38, 39, 40], [38, 41], [38, 42], [43], [43], [43, 44, 45], [43, 46], [43, 47], [48], [48], [48, 49, 50], [48, 51], [48, 52], [53], [53], [53, 54, 55], [53, 56], [53, 57], [58], [58], [58, 59, 60], [58, 61]]
    [(0, 95), (1, 96), (2, 97), (3, 98), (4, 99), (5, 100), (6, 101), (7, 102), (8, 103), (9, 104), (10, 105), (11, 106), (12, 107), (13, 108), (14, 109), (15, 110), (16, 111), (17, 112), (18, 113), (19, 114), (20, 115), (21, 116), (22, 117), (23, 118), (24, 119), (25, 120), (26, 121), (27, 122), (28, 123), (29, 124), (30, 125), (31, 126), (32, 127), (33, 128), (34, 129), (35, 130), (36, 131), (37, 132), (38, 133), (39, 134), (40, 135), (41, 136), (42, 137), (43, 138), (44, 139), (45, 140), (46, 141), (47, 142), (48, 143), (49, 144), (50, 145), (51, 146), (52, 147), (53, 148), (54, 149), (55, 150), (56, 151), (57, 152), (58, 153), (59, 154), (60, 155), (61, 156), (62, 157)] rfl (by kernel_rfl) ⟨?_, ?_, ?_, ?_, ?_, ?_, ?_, ?_, ?_, ?_, ?_, ?_, ?_, ?_, ?_, ?_, ?_, ?_, ?_, ?_, ?_, ?_, ?_, ?_, ?_, ?_, ?_, ?_, ?_, ?_, ?_, ?_, ?_, ?_, ?_, ?_, ?_, ?_, ?_, ?_, ?_, ?_, ?_, ?_, ?_, ?_, ?_, ?_, ?_, ?_, ?_, ?_, ?_, ?_, ?_, ?_, ?_, ?_, ?_, ?_, ?_, ?_, ?_, trivial⟩ ?_
  · intro vals W hB _
    dsimp only [putsL, slotOf]
    go_wp2
    exact ⟨rfl, Below.refl _ _, rfl⟩
  · intro vals W hB ⟨h0, _⟩
    have h0 : vals 0 = _ := h0
    dsimp only [putsL, slotOf]
    rw [h0]
    go_wp2
    exact ⟨rfl, Below.refl _ _, rfl⟩
  · intro vals W hB ⟨h1, _⟩
    have h1 : vals 1 = _ := h1
    obtain ⟨x0, x1⟩ := HAf.out.below hB
    dsimp only [putsL, slotOf]
    rw [h1]
    go_wp2
    exact ⟨rfl, Below.refl _ _, rfl⟩
  · intro vals W hB ⟨h1, h2, _⟩
    have h1 : vals 1 = _ := h1
    have h2 : vals 2 = _ := h2
    dsimp only [putsL, slotOf]
    rw [h1, h2]
    go_wp2_with ((go_at_call 20; refine (PR.out _ (bc_then HTf.out hB)).mono ?_; rintro e w4 ⟨rfl, hb4⟩))
    exact ⟨rfl, hb4, rfl⟩
  · intro vals W hB ⟨h1, _⟩
    have h1 : vals 1 = _ := h1
    obtain ⟨x0, x1⟩ := HAf.out.below hB
    dsimp only [putsL, slotOf]
    rw [h1]
    go_wp2
    exact ⟨rfl, Below.refl _ _, rfl⟩
  · intro vals W hB ⟨h1, h3, h4, _⟩
    have h1 : vals 1 = _ := h1
    have h4 : vals 4 = _ := h4
    dsimp only [putsL, slotOf]
    rw [h1, h4]
    go_wp2_with ((go_at_call 21; refine (RR.out _).mono ?_; rintro e w4 ⟨rfl, hb4⟩))
    exact ⟨rfl, hb4, rfl⟩
  · intro vals W hB ⟨h1, h3, h5, _⟩
    have h1 : vals 1 = _ := h1
    have h3 : vals 3 = _ := h3
    have h5 : vals 5 = _ := h5
    dsimp only [putsL, slotOf]
    rw [h1, h3, h5]
    go_wp2
    exact ⟨rfl, Below.refl _ _, rfl⟩
  · intro vals W hB ⟨h1, h6, _⟩
    have h1 : vals 1 = _ := h1
    have h6 : vals 6 = _ := h6
    dsimp only [putsL, slotOf]
    rw [h1, h6]
    go_wp2
    exact ⟨rfl, Below.refl _ _, rfl⟩
  · intro vals W hB ⟨h5, h7, _⟩
    have h7 : vals 7 = _ := h7
    dsimp only [putsL, slotOf]
    rw [h7]
    go_wp2
    exact ⟨rfl, Below.refl _ _, rfl⟩
  · intro vals W hB ⟨h8, _⟩
    have h8 : vals 8 = _ := h8
    obtain ⟨x0, x1⟩ := HDf.out.below hB
    dsimp only [putsL, slotOf]
    rw [h8]
    go_wp2
    exact ⟨rfl, Below.refl _ _, rfl⟩
  · intro vals W hB ⟨h8, _⟩
    have h8 : vals 8 = _ := h8
    obtain ⟨x0, x1⟩ := KDf.out.below hB
    dsimp only [putsL, slotOf]
    rw [h8]
    go_wp2
    exact ⟨rfl, Below.refl _ _, rfl⟩
  · intro vals W hB ⟨h8, h9, h10, _⟩
    have h8 : vals 8 = _ := h8
    have h9 : vals 9 = _ := h9
    have h10 : vals 10 = _ := h10
    dsimp only [putsL, slotOf]
    rw [h8, h9, h10]
    go_wp2
    exact ⟨rfl, Below.refl _ _, rfl⟩
  · intro vals W hB ⟨h8, h11, _⟩
    have h8 : vals 8 = _ := h8
    have h11 : vals 11 = _ := h11
    dsimp only [putsL, slotOf]
    rw [h8, h11]
    go_wp2
    exact ⟨rfl, Below.refl _ _, rfl⟩
  · intro vals W hB ⟨h8, h12, _⟩
    have h12 : vals 12 = _ := h12
    dsimp only [putsL, slotOf]
    rw [h12]
    go_wp2
    exact ⟨rfl, Below.refl _ _, rfl⟩
  · intro vals W hB ⟨h13, _⟩
    have h13 : vals 13 = _ := h13
    dsimp only [putsL, slotOf]
    rw [h13]
    go_wp2
    exact ⟨rfl, Below.refl _ _, rfl⟩
  · intro vals W hB ⟨h13, _⟩
    have h13 : vals 13 = _ := h13
    dsimp only [putsL, slotOf]
    rw [h13]
    go_wp2
    exact ⟨rfl, Below.refl _ _, rfl⟩
  · intro vals W hB ⟨h13, h14, h15, _⟩
    have h13 : vals 13 = _ := h13
    have h14 : vals 14 = _ := h14
    have h15 : vals 15 = _ := h15
    dsimp only [putsL, slotOf]
    rw [h13, h14, h15]
    go_wp2
    exact ⟨rfl, Below.refl _ _, rfl⟩
  · intro vals W hB ⟨h13, h16, _⟩
    have h13 : vals 13 = _ := h13
    have h16 : vals 16 = _ := h16
    dsimp only [putsL, slotOf]
    rw [h13, h16]
    go_wp2
    exact ⟨rfl, Below.refl _ _, rfl⟩
  · intro vals W hB ⟨h13, h17, _⟩
    have h17 : vals 17 = _ := h17
    dsimp only [putsL, slotOf]
    rw [h17]
    go_wp2
    exact ⟨rfl, Below.refl _ _, rfl⟩
  · intro vals W hB ⟨h18, _⟩
    have h18 : vals 18 = _ := h18
    obtain ⟨x0, x1⟩ := HWdf.out.below hB
    dsimp only [putsL, slotOf]
    rw [h18]
    go_wp2
    exact ⟨rfl, Below.refl _ _, rfl⟩
  · intro vals W hB ⟨h18, _⟩
    have h18 : vals 18 = _ := h18
    obtain ⟨x0, x1⟩ := KWdf.out.below hB
    dsimp only [putsL, slotOf]
    rw [h18]
    go_wp2
    exact ⟨rfl, Below.refl _ _, rfl⟩
  · intro vals W hB ⟨h18, h19, h20, _⟩
    have h18 : vals 18 = _ := h18
    have h19 : vals 19 = _ := h19
    have h20 : vals 20 = _ := h20
    dsimp only [putsL, slotOf]
    rw [h18, h19, h20]
    go_wp2
    exact ⟨rfl, Below.refl _ _, rfl⟩
  · intro vals W hB ⟨h18, h21, _⟩
    have h18 : vals 18 = _ := h18
    have h21 : vals 21 = _ := h21
    dsimp only [putsL, slotOf]
    rw [h18, h21]
    go_wp2
    exact ⟨rfl, Below.refl _ _, rfl⟩
  · intro vals W hB ⟨h18, h22, _⟩
    have h22 : vals 22 = _ := h22
    dsimp only [putsL, slotOf]
    rw [h22]
    go_wp2
    exact ⟨rfl, Below.refl _ _, rfl⟩
  · intro vals W hB ⟨h23, _⟩
    have h23 : vals 23 = _ := h23
    dsimp only [putsL, slotOf]
    rw [h23]
    go_wp2
    exact ⟨rfl, Below.refl _ _, rfl⟩
  · intro vals W hB ⟨h23, _⟩
    have h23 : vals 23 = _ := h23
    dsimp only [putsL, slotOf]
    rw [h23]
    go_wp2
    exact ⟨rfl, Below.refl _ _, rfl⟩
  · intro vals W hB ⟨h23, h24, h25, _⟩
    have h23 : vals 23 = _ := h23
    have h24 : vals 24 = _ := h24
    have h25 : vals 25 = _ := h25
    dsimp only [putsL, slotOf]
    rw [h23, h24, h25]
    go_wp2
    exact ⟨rfl, Below.refl _ _, rfl⟩
  · intro vals W hB ⟨h23, h26, _⟩
    have h23 : vals 23 = _ := h23
    have h26 : vals 26 = _ := h26
    dsimp only [putsL, slotOf]
    rw [h23, h26]
    go_wp2
    exact ⟨rfl, Below.refl _ _, rfl⟩
  · intro vals W hB ⟨h23, h27, _⟩
    have h27 : vals 27 = _ := h27
    dsimp only [putsL, slotOf]
    rw [h27]
    go_wp2
    exact ⟨rfl, Below.refl _ _, rfl⟩
  · intro vals W hB ⟨h28, _⟩
    have h28 : vals 28 = _ := h28
    obtain ⟨x0, x1⟩ := HEf.out.below hB
    dsimp only [putsL, slotOf]
    rw [h28]
    go_wp2
    exact ⟨rfl, Below.refl _ _, rfl⟩
  · intro vals W hB ⟨h28, _⟩
    have h28 : vals 28 = _ := h28
    obtain ⟨x0, x1⟩ := KEf.out.below hB
    dsimp only [putsL, slotOf]
    rw [h28]
    go_wp2
    exact ⟨rfl, Below.refl _ _, rfl⟩
  · intro vals W hB ⟨h28, h29, h30, _⟩
    have h28 : vals 28 = _ := h28
    have h29 : vals 29 = _ := h29
    have h30 : vals 30 = _ := h30
    dsimp only [putsL, slotOf]
    rw [h28, h29, h30]
    go_wp2
    exact ⟨rfl, Below.refl _ _, rfl⟩
  · intro vals W hB ⟨h28, h31, _⟩
    have h28 : vals 28 = _ := h28
    have h31 : vals 31 = _ := h31
    dsimp only [putsL, slotOf]
    rw [h28, h31]
    go_wp2
    exact ⟨rfl, Below.refl _ _, rfl⟩
  · intro vals W hB ⟨h28, h32, _⟩
    have h32 : vals 32 = _ := h32
    dsimp only [putsL, slotOf]
    rw [h32]
    go_wp2
    exact ⟨rfl, Below.refl _ _, rfl⟩
  · intro vals W hB ⟨h33, _⟩
    have h33 : vals 33 = _ := h33
    dsimp only [putsL, slotOf]
    rw [h33]
    go_wp2
    exact ⟨rfl, Below.refl _ _, rfl⟩
  · intro vals W hB ⟨h33, _⟩
    have h33 : vals 33 = _ := h33
    dsimp only [putsL, slotOf]
    rw [h33]
    go_wp2
    exact ⟨rfl, Below.refl _ _, rfl⟩
  · intro vals W hB ⟨h33, h34, h35, _⟩
    have h33 : vals 33 = _ := h33
    have h34 : vals 34 = _ := h34
    have h35 : vals 35 = _ := h35
    dsimp only [putsL, slotOf]
    rw [h33, h34, h35]
    go_wp2
    exact ⟨rfl, Below.refl _ _, rfl⟩
  · intro vals W hB ⟨h33, h36, _⟩
    have h33 : vals 33 = _ := h33
    have h36 : vals 36 = _ := h36
    dsimp only [putsL, slotOf]
    rw [h33, h36]
    go_wp2
    exact ⟨rfl, Below.refl _ _, rfl⟩
  · intro vals W hB ⟨h33, h37, _⟩
    have h37 : vals 37 = _ := h37
    dsimp only [putsL, slotOf]
    rw [h37]
    go_wp2
    exact ⟨rfl, Below.refl _ _, rfl⟩
  · intro vals W hB ⟨h38, _⟩
    have h38 : vals 38 = _ := h38
    obtain ⟨x0, x1⟩ := HSf.out.below hB
    dsimp only [putsL, slotOf]
    rw [h38]
    go_wp2
    exact ⟨rfl, Below.refl _ _, rfl⟩
  · intro vals W hB ⟨h38, _⟩
    have h38 : vals 38 = _ := h38
    obtain ⟨x0, x1⟩ := KSf.out.below hB
    dsimp only [putsL, slotOf]
    rw [h38]
    go_wp2
    exact ⟨rfl, Below.refl _ _, rfl⟩
  · intro vals W hB ⟨h38, h39, h40, _⟩
    have h38 : vals 38 = _ := h38
    have h39 : vals 39 = _ := h39
    have h40 : vals 40 = _ := h40
    dsimp only [putsL, slotOf]
    rw [h38, h39, h40]
    go_wp2
    exact ⟨rfl, Below.refl _ _, rfl⟩
  · intro vals W hB ⟨h38, h41, _⟩
    have h38 : vals 38 = _ := h38
    have h41 : vals 41 = _ := h41
    dsimp only [putsL, slotOf]
    rw [h38, h41]
    go_wp2
    exact ⟨rfl, Below.refl _ _, rfl⟩
  · intro vals W hB ⟨h38, h42, _⟩
    have h42 : vals 42 = _ := h42
    dsimp only [putsL, slotOf]
    rw [h42]
    go_wp2
    exact ⟨rfl, Below.refl _ _, rfl⟩
  · intro vals W hB ⟨h43, _⟩
    have h43 : vals 43 = _ := h43
    dsimp only [putsL, slotOf]
    rw [h43]
    go_wp2
    exact ⟨rfl, Below.refl _ _, rfl⟩
  · intro vals W hB ⟨h43, _⟩
    have h43 : vals 43 = _ := h43
    dsimp only [putsL, slotOf]
    rw [h43]
    go_wp2
    exact ⟨rfl, Below.refl _ _, rfl⟩
  · intro vals W hB ⟨h43, h44, h45, _⟩
    have h43 : vals 43 = _ := h43
    have h44 : vals 44 = _ := h44
    have h45 : vals 45 = _ := h45
    dsimp only [putsL, slotOf]
    rw [h43, h44, h45]
    go_wp2
    exact ⟨rfl, Below.refl _ _, rfl⟩
  · intro vals W hB ⟨h43, h46, _⟩
    have h43 : vals 43 = _ := h43
    have h46 : vals 46 = _ := h46
    dsimp only [putsL, slotOf]
    rw [h43, h46]
    go_wp2
    exact ⟨rfl, Below.refl _ _, rfl⟩
  · intro vals W hB ⟨h43, h47, _⟩
    have h47 : vals 47 = _ := h47
    dsimp only [putsL, slotOf]
    rw [h47]
    go_wp2
    exact ⟨rfl, Below.refl _ _, rfl⟩
  · intro vals W hB ⟨h48, _⟩
    have h48 : vals 48 = _ := h48
    obtain ⟨x0, x1⟩ := HPf.out.below hB
    dsimp only [putsL, slotOf]
    rw [h48]
    go_wp2
    exact ⟨rfl, Below.refl _ _, rfl⟩
  · intro vals W hB ⟨h48, _⟩
    have h48 : vals 48 = _ := h48
    obtain ⟨x0, x1⟩ := KPf.out.below hB
    dsimp only [putsL, slotOf]
    rw [h48]
    go_wp2
    exact ⟨rfl, Below.refl _ _, rfl⟩
  · intro vals W hB ⟨h48, h49, h50, _⟩
    have h48 : vals 48 = _ := h48
    have h49 : vals 49 = _ := h49
    have h50 : vals 50 = _ := h50
    dsimp only [putsL, slotOf]
    rw [h48, h49, h50]
    go_wp2
    exact ⟨rfl, Below.refl _ _, rfl⟩
  · intro vals W hB ⟨h48, h51, _⟩
    have h48 : vals 48 = _ := h48
    have h51 : vals 51 = _ := h51
    dsimp only [putsL, slotOf]
    rw [h48, h51]
    go_wp2
    exact ⟨rfl, Below.refl _ _, rfl⟩
  · intro vals W hB ⟨h48, h52, _⟩
    have h52 : vals 52 = _ := h52
    dsimp only [putsL, slotOf]
    rw [h52]
    go_wp2
    exact ⟨rfl, Below.refl _ _, rfl⟩
  · intro vals W hB ⟨h53, _⟩
    have h53 : vals 53 = _ := h53
    obtain ⟨x0, x1⟩ := HQf.out.below hB
    dsimp only [putsL, slotOf]
    rw [h53]
    go_wp2
    exact ⟨rfl, Below.refl _ _, rfl⟩
  · intro vals W hB ⟨h53, _⟩
    have h53 : vals 53 = _ := h53
    obtain ⟨x0, x1⟩ := KQf.out.below hB
    dsimp only [putsL, slotOf]
    rw [h53]
    go_wp2
    exact ⟨rfl, Below.refl _ _, rfl⟩
  · intro vals W hB ⟨h53, h54, h55, _⟩
    have h53 : vals 53 = _ := h53
    have h54 : vals 54 = _ := h54
    have h55 : vals 55 = _ := h55
    dsimp only [putsL, slotOf]
    rw [h53, h54, h55]
    go_wp2
    exact ⟨rfl, Below.refl _ _, rfl⟩
  · intro vals W hB ⟨h53, h56, _⟩
    have h53 : vals 53 = _ := h53
    have h56 : vals 56 = _ := h56
    dsimp only [putsL, slotOf]
    rw [h53, h56]
    go_wp2
    exact ⟨rfl, Below.refl _ _, rfl⟩
  · intro vals W hB ⟨h53, h57, _⟩
    have h57 : vals 57 = _ := h57
    dsimp only [putsL, slotOf]
    rw [h57]
    go_wp2
    exact ⟨rfl, Below.refl _ _, rfl⟩
  · intro vals W hB ⟨h58, _⟩
    have h58 : vals 58 = _ := h58
    dsimp only [putsL, slotOf]
    rw [h58]
    go_wp2
    exact ⟨rfl, Below.refl _ _, rfl⟩
  · intro vals W hB ⟨h58, _⟩
    have h58 : vals 58 = _ := h58
    dsimp only [putsL, slotOf]
    rw [h58]
    go_wp2
    exact ⟨rfl, Below.refl _ _, rfl⟩
  · intro vals W hB ⟨h58, h59, h60, _⟩
    have h58 : vals 58 = _ := h58
    have h59 : vals 59 = _ := h59
    have h60 : vals 60 = _ := h60
    dsimp only [putsL, slotOf]
    rw [h58, h59, h60]
    go_wp2
    exact ⟨rfl, Below.refl _ _, rfl⟩
  · intro vals W hB ⟨h58, h61, _⟩
    have h58 : vals 58 = _ := h58
    have h61 : vals 61 = _ := h61
    dsimp only [putsL, slotOf]
    rw [h58, h61]
    go_wp2
    exact ⟨rfl, Below.refl _ _, rfl⟩
  rintro vals W hB ⟨q0, q1, q2, q3, q4, q5, q6, q7, q8, q9, q10, q11, q12, q13, q14, q15, q16, q17, q18, q19, q20, q21, q22, q23, q24, q25, q26, q27, q28, q29, q30, q31, q32, q33, q34, q35, q36, q37, q38, q39, q40, q41, q42, q43, q44, q45, q46, q47, q48, q49, q50, q51, q52, q53, q54, q55, q56, q57, q58, q59, q60, q61, q62, -⟩
  have h0 : vals 0 = _ := q0
  have h1 : vals 1 = _ := q1
  have h2 : vals 2 = _ := q2
  have h3 : vals 3 = _ := q3
  have h4 : vals 4 = _ := q4
  have h5 : vals 5 = _ := q5
  have h6 : vals 6 = _ := q6
  have h7 : vals 7 = _ := q7
  have h8 : vals 8 = _ := q8
  have h9 : vals 9 = _ := q9
  have h10 : vals 10 = _ := q10
  have h11 : vals 11 = _ := q11
  have h12 : vals 12 = _ := q12
  have h13 : vals 13 = _ := q13
  have h14 : vals 14 = _ := q14
  have h15 : vals 15 = _ := q15
  have h16 : vals 16 = _ := q16
  have h17 : vals 17 = _ := q17
  have h18 : vals 18 = _ := q18
  have h19 : vals 19 = _ := q19
  have h20 : vals 20 = _ := q20
  have h21 : vals 21 = _ := q21
  have h22 : vals 22 = _ := q22
  have h23 : vals 23 = _ := q23
  have h24 : vals 24 = _ := q24
  have h25 : vals 25 = _ := q25
  have h26 : vals 26 = _ := q26
  have h27 : vals 27 = _ := q27
  have h28 : vals 28 = _ := q28
  have h29 : vals 29 = _ := q29
  have h30 : vals 30 = _ := q30
  have h31 : vals 31 = _ := q31
  have h32 : vals 32 = _ := q32
  have h33 : vals 33 = _ := q33
  have h34 : vals 34 = _ := q34
  have h35 : vals 35 = _ := q35
  have h36 : vals 36 = _ := q36
  have h37 : vals 37 = _ := q37
  have h38 : vals 38 = _ := q38
  have h39 : vals 39 = _ := q39
  have h40 : vals 40 = _ := q40
  have h41 : vals 41 = _ := q41
  have h42 : vals 42 = _ := q42
  have h43 : vals 43 = _ := q43
  have h44 : vals 44 = _ := q44
  have h45 : vals 45 = _ := q45
  have h46 : vals 46 = _ := q46
  have h47 : vals 47 = _ := q47
  have h48 : vals 48 = _ := q48
  have h49 : vals 49 = _ := q49
  have h50 : vals 50 = _ := q50
  have h51 : vals 51 = _ := q51
  have h52 : vals 52 = _ := q52
  have h53 : vals 53 = _ := q53
  have h54 : vals 54 = _ := q54
  have h55 : vals 55 = _ := q55
  have h56 : vals 56 = _ := q56
  have h57 : vals 57 = _ := q57
  have h58 : vals 58 = _ := q58
  have h59 : vals 59 = _ := q59
  have h60 : vals 60 = _ := q60
  have h61 : vals 61 = _ := q61
  have h62 : vals 62 = _ := q62
  dsimp only [putsL]
  rw [h0, h1, h2, h3, h4, h5, h6, h7, h8, h9, h10, h11, h12, h13, h14, h15, h16, h17, h18, h19, h20, h21, h22, h23, h24, h25, h26, h27, h28, h29, h30, h31, h32, h33, h34, h35, h36, h37, h38, h39, h40, h41, h42, h43, h44, h45, h46, h47, h48, h49, h50, h51, h52, h53, h54, h55, h56, h57, h58, h59, h60, h61, h62]
  clear h0 q0 h1 q1 h2 q2 h3 q3 h4 q4 h5 q5 h6 q6 h7 q7 h8 q8 h9 q9 h10 q10 h11 q11 h12 q12 h13 q13 h14 q14 h15 q15 h16 q16 h17 q17 h18 q18 h19 q19 h20 q20 h21 q21 h22 q22 h23 q23 h24 q24 h25 q25 h26 q26 h27 q27 h28 q28 h29 q29 h30 q30 h31 q31 h32 q32 h33 q33 h34 q34 h35 q35 h36 q36 h37 q37 h38 q38 h39 q39 h40 q40 h41 q41 h42 q42 h43 q43 h44 q44 h45 q45 h46 q46 h47 q47 h48 q48 h49 q49 h50 q50 h51 q51 h52 q52 h53 q53 h54 q54 h55 q55 h56 q56 h57 q57 h58 q58 h59 q59 h60 q60 h61 q61 h62 q62
  simp only [List.length_cons, List.length_nil, Nat.reduceAdd, List.drop_succ_cons, List.drop_zero, List.setIfInBounds_toArray, List.set_cons_succ, List.set_cons_zero]
  have HTF : Veil _ := ⟨bc_then HTf.out hB⟩
  clear hB
  go_wp2
  go_ret
  exact ⟨rfl, HTF.out⟩
end Go.Proofs.YtbbfmddechpnjaaDoor
