/- Accounts, by the program: Bytes, Parse, changed, Deposit, Withdraw, Earn, Spend, Pay. -/
import Derived.Test.YtfjjodkapofgjaaGreatDoorKJ90
import Derived.Test.YtfjjodkapofgjaaGreatDoorKZ1
import Derived.Test.YtfjjodkapofgjaaGreatDoorKZ3
namespace Go.Proofs.YtfjjodkapofgjaaGreatDoor
open Go Go.RowKit Sm
attribute [local go_sem] Oper.semAt_some

set_option maxRecDepth 20000 in
set_option maxHeartbeats 1000000 in
theorem acchanged_any (a : Ac) (ha : a.Ok) (n : Int) (w : World) (hS : MSent w) (cf : FuncId) (heg : ∀ args w, (callFunc cf args).run Tryz.prog w = .ok (.enter cf args) w) (X : Ac) (ec : Int)
    (hwork : rightA a = true → ∀ W, Below w.heap.size w W → Calls Tryz.prog cf #[a.v, .int .i64 n] W fun e w' => e = .returned (.tuple #[X.v, .int .i64 ec]) ∧ Below W.heap.size W w') :
    Calls Tryz.prog 30 #[a.v, .func (.func cf) #[a.v] #[], .int .i64 n] w fun e w' => e = .returned (.tuple #[(if rightA a then (X, ec) else (Ac.zero, 130)).1.v, .int .i64 (if rightA a then (X, ec) else (Ac.zero, 130)).2]) ∧ Below w.heap.size w w' := by
  have HR : Veil (∀ W, Below w.heap.size w W → Calls Tryz.prog 48 #[a.v] W fun e w' => e = .returned (.bool (rightA a)) ∧ Below W.heap.size W w') := ⟨fun W hb => acright_any a ha W (hS.below hb)⟩
  have HWk : Veil _ := ⟨hwork⟩
  clear hwork
  generalize rightA a = r at HR HWk ⊢
  obtain ⟨W, B⟩ := a
  obtain ⟨x, y⟩ := X
  unfold Ac.v at *
  dsimp only at *
  clear ha hS
  cases r
  · rw [if_neg (by decide)]
    dsimp only [Ac.zero]
    go_enter Tryz.func30, Tryz.ntmps30
    go_wp2_with (go_at_call 48; refine (HR.out _ (AcB.new w W B).below).mono ?_; rintro e w1 ⟨rfl, hb1⟩; have HB : Veil _ := ⟨(AcB.new w W B).after hb1⟩; obtain ⟨⟨c0, c1⟩, -⟩ := pk2 HB.out.box; obtain ⟨⟨y0, y1⟩, f0, f1⟩ := pk2 HB.out.res)
    exact bodyPost_ret (results_acc2 (g := w.heap.size + 1) rfl rfl rfl (st2 HB.out.res _ _)) rfl ⟨rfl, tn2 HB.out.below (by omega) _ _⟩
  · have HWq : Veil _ := ⟨HWk.out rfl⟩
    clear HWk
    rw [if_pos rfl]
    go_enter Tryz.func30, Tryz.ntmps30
    go_wp2_with (first
      | (go_at_call 48; refine (HR.out _ (AcB.new w W B).below).mono ?_; rintro e w1 ⟨rfl, hb1⟩; have HB : Veil _ := ⟨(AcB.new w W B).after hb1⟩; obtain ⟨⟨c0, c1⟩, -⟩ := pk2 HB.out.box; obtain ⟨⟨y0, y1⟩, f0, f1⟩ := pk2 HB.out.res)
      | (refine (HWq.out _ HB.out.below).mono ?_; rintro e w2 ⟨rfl, hb2⟩; have HB : Veil _ := ⟨HB.out.after hb2⟩; obtain ⟨⟨y0, y1⟩, f0, f1⟩ := pk2 HB.out.res))
    exact bodyPost_ret (results_acc2 (g := w.heap.size + 1) rfl rfl rfl (st2 HB.out.res _ _)) rfl ⟨rfl, tn2 HB.out.below (by omega) _ _⟩

/-- A purse's box, and the result's, behind calls. -/
structure PuB (w W : World) (a b : Int) : Prop where
  box : W.heap[w.heap.size]? = some (.cells #[.int .i64 a, .int .i64 b] 54 (0, 0))
  res : W.heap[w.heap.size + 1]? = some (.cells #[.int .i64 0, .int .i64 0] 23 (0, 0))
  below : Below w.heap.size w W
theorem PuB.new (w : World) (a b : Int) : PuB w ((w.alloc (.cells #[.int .i64 a, .int .i64 b] 54)).alloc (.cells #[.int .i64 0, .int .i64 0] 23)) a b :=
  ⟨heap_alloc2_old _ _ _, heap_alloc2_new _ _ _, below_al (below_al (Below.refl _ _) _) _⟩
theorem PuB.after {w W W' : World} {a b : Int} (h : PuB w W a b) (hb : Below W.heap.size W W') : PuB w W' a b :=
  ⟨(hb.block _ (lt_of_heap h.box)).trans h.box, (hb.block _ (lt_of_heap h.res)).trans h.res, bc_then h.below hb⟩
theorem PuB.set {w W : World} {a b : Int} (h : PuB w W a b) (v : Int) : PuB w (W.setCell ⟨w.heap.size, 0, none⟩ (.int .i64 v)) v b :=
  ⟨heap_setCell_at h.box 0 _, by rw [Below.heap_setCell _ _ _ _ (by dsimp only; omega)]; exact h.res, h.below.setCell (Nat.le_refl _) _⟩


set_option maxRecDepth 20000 in
set_option maxHeartbeats 1000000 in
theorem acpearn_any (a : Ac) (ha : a.Ok) (n : Int) (hn : I64 n) (hr : rightA a = true) (w : World) (hS : MSent w) : Calls Tryz.prog 42 #[a.v, .int .i64 n] w fun e w' => e = .returned (.tuple #[(earnA a n).1.v, .int .i64 (earnA a n).2]) ∧ Below w.heap.size w w' := by
  have HT : Veil (∀ (W : World) (g : Nat), g = W.heap.size → Below w.heap.size w W → Calls Tryz.prog 55 #[.slice (some ⟨g, 0, none⟩) 3 3] (W.alloc (.cells #[.int .i64 a.w, .int .i64 n, .int .i64 a.b] 2)) fun e w' => e = .returned (.int .i64 (earnA a n).2) ∧ Below W.heap.size W w') := ⟨fun W g hg hb => by
    subst hg
    refine (actogether_any (w := W.alloc (.cells #[.int .i64 a.w, .int .i64 n, .int .i64 a.b] 2)) [a.w, n, a.b] 3 (by simp) (by intro m hm; simp only [List.mem_cons, List.not_mem_nil, or_false] at hm; rcases hm with rfl | rfl | rfl; exact ha.w; exact hn; exact ha.b) (els_three W a.w n a.b _) (hS.below (below_al hb _))).mono ?_
    rintro e w' ⟨h1, h2⟩
    exact ⟨by rw [h1, tog_earn a.w a.b n hr], bc_then (below_al (Below.refl _ _) _) h2⟩⟩
  have hE : (earnA a n).2 ≠ 0 ∧ (earnA a n).1 = Ac.zero ∨ (earnA a n).2 = 0 ∧ (earnA a n).1 = ⟨a.w + n, a.b⟩ ∧ wrap64 (a.w + n) = a.w + n := by
    by_cases h : (earnA a n).2 = 0
    · obtain ⟨-, h2, h3, h4⟩ := earnA_ok a n h
      obtain ⟨r1, -, -⟩ := (rightA_iff _).1 h4
      rw [amt_iff] at r1
      dsimp only at r1
      refine .inr ⟨h, by rw [h3], ?_⟩
      unfold wrap64
      omega
    · refine .inl ⟨h, ?_⟩
      unfold earnA at h ⊢
      rw [if_pos hr] at h ⊢
      by_cases h1 : (addA a.w n).2 = 0
      · rw [if_pos h1] at h ⊢
        by_cases h2 : (addA (addA a.w n).1 a.b).2 = 0
        · rw [if_pos h2] at h; exact absurd rfl h
        · rw [if_neg h2]
      · rw [if_neg h1]
  clear ha hn hr hS
  generalize earnA a n = x at HT hE ⊢
  obtain ⟨X, c⟩ := x
  obtain ⟨W, B⟩ := a
  unfold Ac.v
  dsimp only at *
  have HB : Veil _ := ⟨PuB.new w W B⟩
  rcases hE with ⟨h0, rfl⟩ | ⟨rfl, rfl, hwr⟩
  · dsimp only [Ac.zero]
    go_enter Tryz.func42, Tryz.ntmps42
    go_wp2_with (go_at_call 55; refine (HT.out _ _ (by simp) HB.out.below).mono ?_; rintro e w1 ⟨rfl, hb1⟩; have HB : Veil _ := ⟨HB.out.after hb1⟩; obtain ⟨⟨c0, c1⟩, h0, h1⟩ := pk2 HB.out.box; obtain ⟨⟨y0, y1⟩, f0, f1⟩ := pk2 HB.out.res)
    exact bodyPost_ret (results_acc2 (g := w.heap.size + 1) rfl rfl rfl (st2 HB.out.res _ _)) rfl ⟨rfl, tn2 HB.out.below (by omega) _ _⟩
  · dsimp only
    obtain ⟨S, hS⟩ : ∃ S, W + n = S := ⟨_, rfl⟩
    rw [hS] at hwr ⊢
    have HSv : Veil _ := ⟨hS⟩
    have HWr : Veil (wrap64 (W + n) = S) := ⟨by rw [hS]; exact hwr⟩
    clear hS hwr
    go_enter Tryz.func42, Tryz.ntmps42
    go_wp2_with (go_at_call 55; refine (HT.out _ _ (by simp) HB.out.below).mono ?_; rintro e w1 ⟨rfl, hb1⟩; have hwr := HWr.out; have HB : Veil _ := ⟨HB.out.after hb1⟩; obtain ⟨⟨c0, c1⟩, h0, h1⟩ := pk2 HB.out.box; obtain ⟨⟨y0, y1⟩, f0, f1⟩ := pk2 HB.out.res; have HB : Veil _ := ⟨HB.out.set S⟩; obtain ⟨⟨z0, z1⟩, -⟩ := pk2 HB.out.res)
    exact bodyPost_ret (results_acc2 (g := w.heap.size + 1) rfl rfl rfl (st2 HB.out.res _ _)) rfl ⟨rfl, tn2 HB.out.below (by omega) _ _⟩

set_option maxRecDepth 20000 in
set_option maxHeartbeats 1000000 in
theorem acpspend_any (a : Ac) (ha : a.Ok) (n : Int) (hn : I64 n) (hr : rightA a = true) (w : World) (hS : MSent w) : Calls Tryz.prog 31 #[a.v, .int .i64 n] w fun e w' => e = .returned (.tuple #[(spendA a n).1.v, .int .i64 (spendA a n).2]) ∧ Below w.heap.size w w' := by
  have HM : Veil (∀ W, Below w.heap.size w W → Calls Tryz.prog 49 #[.int .i64 a.w, .int .i64 n] W fun e w' => e = .returned (.tuple #[.int .i64 (subA a.w n).1, .int .i64 (subA a.w n).2]) ∧ Below W.heap.size W w') := ⟨fun W hb => mosub_any a.w n ha.w hn W (hS.below hb)⟩
  have HD : spendA a n = (if (subA a.w n).2 = 0 then (⟨(subA a.w n).1, a.b⟩, 0) else (Ac.zero, (subA a.w n).2)) := by unfold spendA; rw [if_pos hr]
  rw [HD]
  clear HD ha hn hr hS
  generalize subA a.w n = x at HM ⊢
  obtain ⟨v, c⟩ := x
  obtain ⟨W, B⟩ := a
  unfold Ac.v
  dsimp only at *
  have HB : Veil _ := ⟨PuB.new w W B⟩
  by_cases h0 : c = 0
  · subst h0
    rw [if_pos rfl]
    dsimp only
    go_enter Tryz.func31, Tryz.ntmps31
    go_wp2_with (go_at_call 49; refine (HM.out _ HB.out.below).mono ?_; rintro e w1 ⟨rfl, hb1⟩; have HB : Veil _ := ⟨HB.out.after hb1⟩; obtain ⟨⟨c0, c1⟩, h0, h1⟩ := pk2 HB.out.box; obtain ⟨⟨y0, y1⟩, f0, f1⟩ := pk2 HB.out.res; have HB : Veil _ := ⟨HB.out.set v⟩; obtain ⟨⟨z0, z1⟩, -⟩ := pk2 HB.out.res)
    exact bodyPost_ret (results_acc2 (g := w.heap.size + 1) rfl rfl rfl (st2 HB.out.res _ _)) rfl ⟨rfl, tn2 HB.out.below (by omega) _ _⟩
  · rw [if_neg h0]
    dsimp only [Ac.zero]
    go_enter Tryz.func31, Tryz.ntmps31
    go_wp2_with (go_at_call 49; refine (HM.out _ HB.out.below).mono ?_; rintro e w1 ⟨rfl, hb1⟩; have HB : Veil _ := ⟨HB.out.after hb1⟩; obtain ⟨⟨c0, c1⟩, h0, h1⟩ := pk2 HB.out.box; obtain ⟨⟨y0, y1⟩, f0, f1⟩ := pk2 HB.out.res)
    exact bodyPost_ret (results_acc2 (g := w.heap.size + 1) rfl rfl rfl (st2 HB.out.res _ _)) rfl ⟨rfl, tn2 HB.out.below (by omega) _ _⟩

set_option maxRecDepth 20000 in
set_option maxHeartbeats 1000000 in
theorem acearn_any (a : Ac) (ha : a.Ok) (n : Int) (hn : I64 n) (w : World) (hS : MSent w) : Calls Tryz.prog 23 #[a.v, .int .i64 n] w fun e w' => e = .returned (.tuple #[(earnA a n).1.v, .int .i64 (earnA a n).2]) ∧ Below w.heap.size w w' := by
  have he : earnA a n = if rightA a then ((earnA a n).1, (earnA a n).2) else (Ac.zero, 130) := by by_cases h : rightA a = true; (rw [if_pos h]); (rw [if_neg h]; unfold earnA; rw [if_neg h])
  have HC : Veil (∀ W, Below w.heap.size w W → Calls Tryz.prog 30 #[a.v, .func (.func 42) #[a.v] #[], .int .i64 n] W fun e w' => e = .returned (.tuple #[(earnA a n).1.v, .int .i64 (earnA a n).2]) ∧ Below W.heap.size W w') := ⟨fun W hb => by
    rw [he]
    exact acchanged_any a ha n W (hS.below hb) 42 (enters_of Tryz.func42 (by kernel_rfl) rfl) (earnA a n).1 (earnA a n).2 (fun hr W' hb' => acpearn_any a ha n hn hr W' (hS.below (bc_then hb hb')))⟩
  clear he
  generalize earnA a n = r at HC ⊢
  obtain ⟨⟨x, y⟩, c⟩ := r
  obtain ⟨W, B⟩ := a
  unfold Ac.v at *
  dsimp only at *
  clear ha hn hS
  have HB : Veil _ := ⟨AcB.new w W B⟩
  go_enter Tryz.func23, Tryz.ntmps23
  go_wp2_with (go_at_call 30; refine (HC.out _ HB.out.below).mono ?_; rintro e w1 ⟨rfl, hb1⟩; have HB : Veil _ := ⟨HB.out.after hb1⟩; obtain ⟨⟨y0, y1⟩, f0, f1⟩ := pk2 HB.out.res)
  exact bodyPost_ret (results_acc2 (g := w.heap.size + 1) rfl rfl rfl (st2 HB.out.res _ _)) rfl ⟨rfl, tn2 HB.out.below (by omega) _ _⟩

set_option maxRecDepth 20000 in
set_option maxHeartbeats 1000000 in
theorem acspend_any (a : Ac) (ha : a.Ok) (n : Int) (hn : I64 n) (w : World) (hS : MSent w) : Calls Tryz.prog 13 #[a.v, .int .i64 n] w fun e w' => e = .returned (.tuple #[(spendA a n).1.v, .int .i64 (spendA a n).2]) ∧ Below w.heap.size w w' := by
  have he : spendA a n = if rightA a then ((spendA a n).1, (spendA a n).2) else (Ac.zero, 130) := by by_cases h : rightA a = true; (rw [if_pos h]); (rw [if_neg h]; unfold spendA; rw [if_neg h])
  have HC : Veil (∀ W, Below w.heap.size w W → Calls Tryz.prog 30 #[a.v, .func (.func 31) #[a.v] #[], .int .i64 n] W fun e w' => e = .returned (.tuple #[(spendA a n).1.v, .int .i64 (spendA a n).2]) ∧ Below W.heap.size W w') := ⟨fun W hb => by
    rw [he]
    exact acchanged_any a ha n W (hS.below hb) 31 (enters_of Tryz.func31 (by kernel_rfl) rfl) (spendA a n).1 (spendA a n).2 (fun hr W' hb' => acpspend_any a ha n hn hr W' (hS.below (bc_then hb hb')))⟩
  clear he
  generalize spendA a n = r at HC ⊢
  obtain ⟨⟨x, y⟩, c⟩ := r
  obtain ⟨W, B⟩ := a
  unfold Ac.v at *
  dsimp only at *
  clear ha hn hS
  have HB : Veil _ := ⟨AcB.new w W B⟩
  go_enter Tryz.func13, Tryz.ntmps13
  go_wp2_with (go_at_call 30; refine (HC.out _ HB.out.below).mono ?_; rintro e w1 ⟨rfl, hb1⟩; have HB : Veil _ := ⟨HB.out.after hb1⟩; obtain ⟨⟨y0, y1⟩, f0, f1⟩ := pk2 HB.out.res)
  exact bodyPost_ret (results_acc2 (g := w.heap.size + 1) rfl rfl rfl (st2 HB.out.res _ _)) rfl ⟨rfl, tn2 HB.out.below (by omega) _ _⟩

end Go.Proofs.YtfjjodkapofgjaaGreatDoor

/- The laws on accounts: shown, AccountsTurn, AccountsTwice. -/
namespace Go.Proofs.YtfjjodkapofgjaaGreatDoor
open Go Go.RowKit Sm
attribute [local go_sem] Oper.semAt_some

/-- An account in a box. -/
structure AcBox (w : World) (b : Nat) (x y : Int) : Prop where
  x : w.cell? ⟨b, 0, none⟩ = some (.int .i64 x)
  y : w.cell? ⟨b, 1, none⟩ = some (.int .i64 y)
theorem AcBox.new (w : World) (x y : Int) (T : TypeId) : AcBox (w.alloc (.cells #[.int .i64 x, .int .i64 y] T)) w.heap.size x y := by
  constructor <;> exact cell_whole (cur := [.int .i64 x, .int .i64 y]) (heap_alloc_new _ _) _
theorem AcBox.below {w w' : World} {b : Nat} {x y : Int} (h : AcBox w b x y) (hb : Below w.heap.size w w') : AcBox w' b x y :=
  ⟨(hb.cell (World.block_lt_of_cell? _ _ h.x)).trans h.x, (hb.cell (World.block_lt_of_cell? _ _ h.y)).trans h.y⟩
theorem zero_ok : Ac.zero.Ok := ⟨by unfold I64; decide, by unfold I64; decide⟩
theorem am_ok {x y : Int} (h : rightA ⟨x, y⟩ = true) : (⟨x, y⟩ : Ac).Ok := by
  obtain ⟨h1, h2, -⟩ := (rightA_iff _).1 h
  exact ⟨i64_am h1, i64_am h2⟩
theorem depositA_err (a : Ac) (n : Int) (h : (depositA a n).2 ≠ 0) : (depositA a n).1 = Ac.zero := by
  unfold depositA at h ⊢
  by_cases hr : rightA a = true
  · rw [if_pos hr] at h ⊢
    dsimp only at h ⊢
    unfold movA at h ⊢
    by_cases h1 : (subA a.w n).2 = 0
    · rw [if_pos h1] at h ⊢
      by_cases h2 : (addA a.b n).2 = 0
      · rw [if_pos h2] at h; exact absurd rfl h
      · rw [if_neg h2]; rfl
    · rw [if_neg h1]; rfl
  · rw [if_neg hr]
theorem deposit_ok64 (a : Ac) (_ : a.Ok) (n : Int) : (depositA a n).1.Ok := by
  by_cases h : (depositA a n).2 = 0
  · obtain ⟨-, -, -, h4, h5⟩ := depositA_ok a n h
    rw [h4]; exact am_ok h5
  · rw [depositA_err a n h]; exact zero_ok
theorem earnA_err (a : Ac) (n : Int) (h : (earnA a n).2 ≠ 0) : (earnA a n).1 = Ac.zero := by
  unfold earnA at h ⊢
  by_cases hr : rightA a = true
  · rw [if_pos hr] at h ⊢
    by_cases h1 : (addA a.w n).2 = 0
    · rw [if_pos h1] at h ⊢
      by_cases h2 : (addA (addA a.w n).1 a.b).2 = 0
      · rw [if_pos h2] at h; exact absurd rfl h
      · rw [if_neg h2]
    · rw [if_neg h1]
  · rw [if_neg hr]
theorem earn_ok64 (a : Ac) (_ : a.Ok) (n : Int) : (earnA a n).1.Ok := by
  by_cases h : (earnA a n).2 = 0
  · obtain ⟨-, -, h4, h5⟩ := earnA_ok a n h
    rw [h4]; exact am_ok h5
  · rw [earnA_err a n h]; exact zero_ok
abbrev AcAt (w0 : World) (f : FuncId) (x y n u v c : Int) : Prop := ∀ w, Below w0.heap.size w0 w → Calls Tryz.prog f #[.agg #[.int .i64 x, .int .i64 y], .int .i64 n] w fun e w' => e = .returned (.tuple #[.agg #[.int .i64 u, .int .i64 v], .int .i64 c]) ∧ Below w.heap.size w w'
theorem i64_small {n : Int} (h : 0 ≤ n ∧ n ≤ 1000) : I64 n := by unfold I64; omega

end Go.Proofs.YtfjjodkapofgjaaGreatDoor
