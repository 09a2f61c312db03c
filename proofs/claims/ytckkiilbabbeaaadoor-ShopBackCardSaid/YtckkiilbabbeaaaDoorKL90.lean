/- Shop, by the program: fields and their iterator, Right. -/
import Derived.Test.YtckkiilbabbeaaaDoorKL1
import Derived.Test.YtckkiilbabbeaaaDoorKI9
import Derived.Test.YtckkiilbabbeaaaDoorKJ9
namespace Go.Proofs.YtckkiilbabbeaaaDoor
open Go Go.RowKit Sm
attribute [local go_sem] Oper.semAt_some

theorem shfields_any (m : Li) (w : World) : Calls Tryd.prog 25 #[m.v] w fun e w' => e = .returned (.func (.func 42) #[] #[.pointer (some ⟨w.heap.size, 0, none⟩)]) ∧ w.alloc (.cells #[.int .u32 m.src, .int .u16 m.item, .int .i64 m.n, .int .i64 m.price] 27) = w' := by
  obtain ⟨f, i, n, mo⟩ := m
  unfold Li.v
  go_enter Tryd.func25, Tryd.ntmps25
  go_wp2
  go_ret
  exact ⟨rfl, rfl⟩

/-- How many bytes each number of a listing has, and the number. -/
def Li.flds (m : Li) : List (Nat × Int) := [(4, m.src), (2, m.item), (8, m.n), (8, m.price)]
def handsLi (m : Li) (k : Nat) : Array Value := #[.int .i64 (m.flds.getD k (0, 0)).1, .int .i64 (m.flds.getD k (0, 0)).2]
theorem lflds_len (m : Li) : m.flds.length = 4 := rfl

set_option maxRecDepth 20000 in
set_option maxHeartbeats 2000000 in
theorem shfields_seq (Bx : Nat) (m : Li) (hm : m.Ok) :
    Seq Tryd.prog 42 #[.pointer (some ⟨Bx, 0, none⟩)] (handsLi m) 4 (fun W => LiBox W Bx m.src m.item m.n m.price) := by
  intro l n J Jx W hJ hJx hF hY h0
  have ws : IntKind.i64.wrap (m.src : Int) = m.src := by rw [IntKind.wrap_i64]; have := hm.src; omega
  have wi : IntKind.i64.wrap (m.item : Int) = m.item := by rw [IntKind.wrap_i64]; have := hm.item; omega
  have vs : wrap64 (m.src : Int) = m.src := by unfold wrap64; have := hm.src; omega
  have vi : wrap64 (m.item : Int) = m.item := by unfold wrap64; have := hm.item; omega
  obtain ⟨f0, f1, f2, f3⟩ := hF 0 W h0
  have hY0 : ∀ A, J 0 A → YieldAt Fence.wide n Tryd.prog l #[.int .i64 4, .int .i64 m.src] A fun e A' => (e = .returned (.bool true) ∧ J 1 A') ∨ (e = .returned (.bool false) ∧ Jx 0 A') := fun A => hY 0 A (by decide)
  have hY1 : ∀ A, J 1 A → YieldAt Fence.wide n Tryd.prog l #[.int .i64 2, .int .i64 m.item] A fun e A' => (e = .returned (.bool true) ∧ J 2 A') ∨ (e = .returned (.bool false) ∧ Jx 1 A') := fun A => hY 1 A (by decide)
  have hY2 : ∀ A, J 2 A → YieldAt Fence.wide n Tryd.prog l #[.int .i64 8, .int .i64 m.n] A fun e A' => (e = .returned (.bool true) ∧ J 3 A') ∨ (e = .returned (.bool false) ∧ Jx 2 A') := fun A => hY 2 A (by decide)
  have hY3 : ∀ A, J 3 A → YieldAt Fence.wide n Tryd.prog l #[.int .i64 8, .int .i64 m.price] A fun e A' => (e = .returned (.bool true) ∧ J 4 A') ∨ (e = .returned (.bool false) ∧ Jx 3 A') := fun A => hY 3 A (by decide)
  obtain ⟨f, i, x, mo⟩ := m
  dsimp only at *
  clear hm hY
  obtain ⟨fn, tmps, assign, body, hy, hR⟩ := hY0 _ h0
  refine callsIn_of_wp Tryd.func42 rfl trivial ?_
  simp only [Tryd.ntmps42, List.size_toArray, List.length_cons, List.length_nil, Nat.reduceAdd, Nat.reduceSub, Array.replicate_succ, Array.replicate_zero, List.push_toArray, List.append_toArray, List.nil_append, List.cons_append]
  gi_wp2
  refine hR.mono ?_
  clear hy hR fn tmps assign body f0 f1 f2 f3
  rintro e W1 (⟨rfl, hj1⟩ | ⟨rfl, hjx⟩)
  rotate_left 1
  · gi_wp2
    repeat (refine ⟨fun _ h => (by cases h), ?_⟩; rename ∀ (a : Act) (w : World), wpListIn _ _ _ _ _ _ a w → _ => hK0; refine hK0 _ _ ?_; clear hK0; gi_wp2)
    go_end0
    exact ⟨⟨_, rfl⟩, .inr ⟨0, by decide, hjx⟩⟩
  obtain ⟨f0, f1, f2, f3⟩ := hF _ _ hj1
  obtain ⟨fn, tmps, assign, body, hy, hR⟩ := hY1 _ hj1
  gi_wp2
  refine hR.mono ?_
  clear hy hR fn tmps assign body f0 f1 f2 f3
  rintro e W2 (⟨rfl, hj2⟩ | ⟨rfl, hjx⟩)
  rotate_left 1
  · gi_wp2
    repeat (refine ⟨fun _ h => (by cases h), ?_⟩; rename ∀ (a : Act) (w : World), wpListIn _ _ _ _ _ _ a w → _ => hK0; refine hK0 _ _ ?_; clear hK0; gi_wp2)
    go_end0
    exact ⟨⟨_, rfl⟩, .inr ⟨1, by decide, hjx⟩⟩
  obtain ⟨f0, f1, f2, f3⟩ := hF _ _ hj2
  obtain ⟨fn, tmps, assign, body, hy, hR⟩ := hY2 _ hj2
  gi_wp2
  refine hR.mono ?_
  clear hy hR fn tmps assign body f0 f1 f2 f3
  rintro e W3 (⟨rfl, hj3⟩ | ⟨rfl, hjx⟩)
  rotate_left 1
  · gi_wp2
    repeat (refine ⟨fun _ h => (by cases h), ?_⟩; rename ∀ (a : Act) (w : World), wpListIn _ _ _ _ _ _ a w → _ => hK0; refine hK0 _ _ ?_; clear hK0; gi_wp2)
    go_end0
    exact ⟨⟨_, rfl⟩, .inr ⟨2, by decide, hjx⟩⟩
  obtain ⟨f0, f1, f2, f3⟩ := hF _ _ hj3
  obtain ⟨fn, tmps, assign, body, hy, hR⟩ := hY3 _ hj3
  gi_wp2
  refine hR.mono ?_
  clear hy hR fn tmps assign body f0 f1 f2 f3
  rintro e W4 (⟨rfl, hj4⟩ | ⟨rfl, hjx⟩)
  · gi_wp2
    go_end0
    exact ⟨⟨_, rfl⟩, .inl hj4⟩
  · gi_wp2
    go_end0
    exact ⟨⟨_, rfl⟩, .inr ⟨3, by decide, hjx⟩⟩


theorem rightG_one (i : Nat) (n : Int) : rightG [⟨i, n⟩] = true ↔ (1 ≤ n ∧ n ≤ 1152921504606846976) := by
  have e : rightG [⟨i, n⟩] = amt1 n := by
    unfold rightG okAt
    simp
  rw [e, amt1_iff]
/-- One stack, in a slice of its own. -/
theorem inl_one (W : World) (i : Nat) (n : Int) (T : TypeId) : InL elS (W.alloc (.cells #[.int .u16 i, .int .i64 n] T)) (some ⟨W.heap.size, 0, none⟩) [⟨i, n⟩] 1 :=
  ⟨els_of_block (E := elS) (L := [⟨i, n⟩]) (heap_alloc_new _ _) rfl, fun a ha => by cases ha; rfl, fun h => (by cases h), by simp, by decide⟩
theorem sh_rightG (i : Nat) (n : Int) (hi : i < 65536) : ∀ (W : World) (g : Nat), g = W.heap.size → Calls Tryd.prog 31 #[.slice (some ⟨g, 0, none⟩) 1 1] (W.alloc (.cells #[.int .u16 i, .int .i64 n] 25)) fun e w' => e = .returned (.bool (rightG [⟨i, n⟩])) ∧ Below W.heap.size W w' := fun W g hg => by
  subst hg
  refine (gdright_any [⟨i, n⟩] 1 (inl_one W i n _) (by simp) (fun s hs => by obtain rfl := List.mem_singleton.1 hs; exact hi)).mono ?_
  rintro e w' ⟨rfl, hb⟩
  exact ⟨rfl, bc_then (below_al (Below.refl _ _) _) hb⟩

set_option maxRecDepth 20000 in
set_option maxHeartbeats 4000000 in
theorem shright_any (m : Li) (hm : m.Ok) (w : World) : Calls Tryd.prog 14 #[m.v] w fun e w' => e = .returned (.bool (rightLi m)) ∧ Below w.heap.size w w' := by
  have HG : Veil _ := ⟨sh_rightG m.item m.n hm.item⟩
  have HP : Veil _ := ⟨fun W => moright_of m.price W⟩
  have HR := rightLi_iff m
  have H1 := rightG_one m.item m.n
  have H2 := amt_iff m.price
  obtain ⟨r, hr⟩ : ∃ r, rightLi m = r := ⟨_, rfl⟩
  rw [hr] at HR ⊢
  revert HG HP HR H1 H2
  generalize rightG [⟨m.item, m.n⟩] = A1
  generalize amt m.price = A2
  clear hr
  obtain ⟨f, i, n, mo⟩ := m
  unfold Li.v
  dsimp only
  intro HG HP H1 H2 HR
  have HH : Veil _ := ⟨And.intro HR (And.intro H1 H2)⟩
  obtain ⟨F, hF⟩ : ∃ F : Int, (f : Int) = F := ⟨_, rfl⟩
  obtain ⟨I, hI⟩ : ∃ I : Int, (i : Int) = I := ⟨_, rfl⟩
  have HN : Veil ((f : Int) = F ∧ (i : Int) = I) := ⟨⟨hF, hI⟩⟩
  rw [hI] at HG
  rw [hF, hI]
  clear hF hI hm HR H1 H2
  have hT : Below w.heap.size w (w.alloc (.cells #[.int .u32 F, .int .u16 I, .int .i64 n, .int .i64 mo] 27)) := below_al (Below.refl _ _) _
  have HB : Veil _ := ⟨LiBox.new w F I n mo 27⟩
  have hfin : ∀ (b : Bool) (w' : World), (b = true ↔ ((1 ≤ F ∧ F ≤ 1000000) ∧ A1 = true ∧ A2 = true)) → Below w.heap.size w w' → Ending.returned (.bool b) = Ending.returned (.bool r) ∧ Below w.heap.size w w' := fun b w' hb ht => by
    refine ⟨ret_boolL ?_, ht⟩
    obtain ⟨h0, h1, h2⟩ := HH.out
    obtain ⟨e1, e2⟩ := HN.out
    rw [Bool.eq_iff_iff, h0, hb, h1, h2]
    omega
  clear HH HN
  cases A1 <;> cases A2
  all_goals
    go_enter Tryd.func14, Tryd.ntmps14
    go_wp2_with (first
      | (go_at_call 32; (with_reducible refine (HP.out _).mono ?_); rintro e w2 ⟨rfl, hb2⟩; have hT := bc_then hT hb2)
      | (go_at_call 31; (with_reducible refine (HG.out _ _ (by simp)).mono ?_); rintro e w1 ⟨rfl, hb1⟩; have hT := bc_then hT hb1; have HB : Veil _ := ⟨HB.out.below hb1⟩; obtain ⟨x0, x1, x2, x3⟩ := HB.out))
    all_goals
      go_ret
      refine hfin _ _ ?_ hT
      simp
      try omega
end Go.Proofs.YtckkiilbabbeaaaDoor

/- Shop, by the program: changed, List, Cancel, what is paid, Buy. -/
namespace Go.Proofs.YtckkiilbabbeaaaDoor
open Go Go.RowKit Sm
attribute [local go_sem] Oper.semAt_some

set_option maxRecDepth 20000 in
set_option maxHeartbeats 2000000 in
theorem shchanged0_any {w : World} {p : Option Addr} (n lc : Nat) (f i nn mo : Int) (rt : Bool) (cf : FuncId) (Q : Value → Int → World → Prop)
    (hcf : ∀ args w, (callFunc cf args).run Tryd.prog w = .ok (.enter cf args) w)
    (hr : ∀ W, Calls Tryd.prog 14 #[.agg #[.int .u32 f, .int .u16 i, .int .i64 nn, .int .i64 mo]] W fun e w' => e = .returned (.bool rt) ∧ Below W.heap.size W w')
    (hd : rt = true → ∀ W, Below w.heap.size w W → Calls Tryd.prog cf #[.slice p n lc, .agg #[.int .u16 i, .int .i64 nn]] W fun e w' => ∃ v c, e = .returned (.tuple #[v, .int .i64 c]) ∧ Q v c w')
    (h0 : rt = false → ∀ W, Below w.heap.size w W → Q (.slice none 0 0) 150 W) :
    Calls Tryd.prog 34 #[.slice p n lc, .agg #[.int .u32 f, .int .u16 i, .int .i64 nn, .int .i64 mo], .func (.func cf) #[] #[]] w fun e w' => ∃ v c, e = .returned (.tuple #[v, .int .i64 c]) ∧ Q v c w' := by
  have HR : Veil _ := ⟨hr⟩
  have HD : Veil _ := ⟨hd⟩
  have H0 : Veil _ := ⟨h0⟩
  have HB0 : Veil _ := ⟨LiBox.new w f i nn mo 27⟩
  have HT0 : Veil _ := ⟨below_al (Below.refl w.heap.size w) (.cells #[.int .u32 f, .int .u16 i, .int .i64 nn, .int .i64 mo] 27)⟩
  clear hr hd h0
  cases rt
  · go_enter Tryd.func34, Tryd.ntmps34
    go_wp2_with (go_at_call 14; refine (HR.out _).mono ?_; rintro e w1 ⟨rfl, hb1⟩; have HT : Veil _ := ⟨bc_then HT0.out hb1⟩; clear hb1)
    go_ret2
    exact ⟨_, _, rfl, H0.out (by first | rfl | trivial) _ HT.out⟩
  · go_enter Tryd.func34, Tryd.ntmps34
    go_wp2_with (first
      | (refine (HD.out (by first | rfl | trivial) _ HT.out).mono ?_; rintro e w2 ⟨v2, c2, rfl, hQ⟩; have HQ : Veil _ := ⟨hQ⟩; clear hQ)
      | (go_at_call 14; refine (HR.out _).mono ?_; rintro e w1 ⟨rfl, hb1⟩; have HT : Veil _ := ⟨bc_then HT0.out hb1⟩; have HB : Veil _ := ⟨HB0.out.below hb1⟩; clear hb1; obtain ⟨x0, x1, x2, x3⟩ := HB.out))
    go_ret2
    exact ⟨_, _, rfl, HQ.out⟩
set_option maxRecDepth 20000 in
set_option maxHeartbeats 2000000 in
theorem shchanged5_any {w : World} {p : Option Addr} (n lc : Nat) (f i nn mo : Int) (rt : Bool) (cf : FuncId) (u0 u1 u2 u3 u4 : Value) (Q : Value → Int → World → Prop)
    (hcf : ∀ args w, (callFunc cf args).run Tryd.prog w = .ok (.enter cf args) w)
    (hr : ∀ W, Calls Tryd.prog 14 #[.agg #[.int .u32 f, .int .u16 i, .int .i64 nn, .int .i64 mo]] W fun e w' => e = .returned (.bool rt) ∧ Below W.heap.size W w')
    (hd : rt = true → ∀ W, Below w.heap.size w W → Calls Tryd.prog cf #[.slice p n lc, .agg #[.int .u16 i, .int .i64 nn], u0, u1, u2, u3, u4] W fun e w' => ∃ v c, e = .returned (.tuple #[v, .int .i64 c]) ∧ Q v c w')
    (h0 : rt = false → ∀ W, Below w.heap.size w W → Q (.slice none 0 0) 150 W) :
    Calls Tryd.prog 34 #[.slice p n lc, .agg #[.int .u32 f, .int .u16 i, .int .i64 nn, .int .i64 mo], .func (.func cf) #[] #[u0, u1, u2, u3, u4]] w fun e w' => ∃ v c, e = .returned (.tuple #[v, .int .i64 c]) ∧ Q v c w' := by
  have HR : Veil _ := ⟨hr⟩
  have HD : Veil _ := ⟨hd⟩
  have H0 : Veil _ := ⟨h0⟩
  have HB0 : Veil _ := ⟨LiBox.new w f i nn mo 27⟩
  have HT0 : Veil _ := ⟨below_al (Below.refl w.heap.size w) (.cells #[.int .u32 f, .int .u16 i, .int .i64 nn, .int .i64 mo] 27)⟩
  clear hr hd h0
  cases rt
  · go_enter Tryd.func34, Tryd.ntmps34
    go_wp2_with (go_at_call 14; refine (HR.out _).mono ?_; rintro e w1 ⟨rfl, hb1⟩; have HT : Veil _ := ⟨bc_then HT0.out hb1⟩; clear hb1)
    go_ret2
    exact ⟨_, _, rfl, H0.out (by first | rfl | trivial) _ HT.out⟩
  · go_enter Tryd.func34, Tryd.ntmps34
    go_wp2_with (first
      | (refine (HD.out (by first | rfl | trivial) _ HT.out).mono ?_; rintro e w2 ⟨v2, c2, rfl, hQ⟩; have HQ : Veil _ := ⟨hQ⟩; clear hQ)
      | (go_at_call 14; refine (HR.out _).mono ?_; rintro e w1 ⟨rfl, hb1⟩; have HT : Veil _ := ⟨bc_then HT0.out hb1⟩; have HB : Veil _ := ⟨HB0.out.below hb1⟩; clear hb1; obtain ⟨x0, x1, x2, x3⟩ := HB.out))
    go_ret2
    exact ⟨_, _, rfl, HQ.out⟩
set_option maxRecDepth 20000 in
set_option maxHeartbeats 2000000 in
theorem shlist_any {w : World} {p : Option Addr} (l : List St) (lc : Nat) (x : Li) (hx : x.Ok) (h : InL elS w p l lc) (hl : l.length ≤ 1000) (hw : GdW l) (hS : MSent w) :
    Calls Tryd.prog 17 #[.slice p l.length lc, x.v] w (GoodsPost w (listS l x).1 (listS l x).2) := by
  have HC : Veil (∀ W, Below w.heap.size w W → Calls Tryd.prog 34 #[.slice p l.length lc, .agg #[.int .u32 x.src, .int .u16 x.item, .int .i64 x.n, .int .i64 x.price], .func (.func 35) #[] #[]] W fun e w' => ∃ v c, e = .returned (.tuple #[v, .int .i64 c]) ∧ (c = (listS l x).2 ∧ FreshE elS W.heap.size w' v (listS l x).1 ∧ Below W.heap.size W w')) := ⟨fun W hW => by
    refine shchanged0_any l.length lc x.src x.item x.n x.price (rightLi x) 35 (fun v c w' => c = (listS l x).2 ∧ FreshE elS W.heap.size w' v (listS l x).1 ∧ Below W.heap.size W w')
      (enters_of Tryd.func35 (by kernel_rfl) rfl) (fun W => shright_any x hx W) (fun hrt W' hW' => ?_) (fun hrf W' hW' => ?_)
    · have e : listS l x = takeG l x.st := by unfold listS; rw [if_pos hrt]
      rw [e]
      refine (gdtake_any l lc x.st ((h.below hW).below hW') hl hx.item hx.n hw ((hS.below hW).below hW')).mono ?_
      rintro e w' ⟨v, rfl, hF, hb⟩
      exact ⟨_, _, rfl, rfl, hF.base hW'.size, bc_then hW' hb⟩
    · have e : listS l x = ([], 150) := by unfold listS; rw [if_neg (by rw [hrf]; decide)]
      rw [e]
      exact ⟨rfl, FreshE.nil _ _ _, hW'⟩⟩
  generalize listS l x = R at HC ⊢
  obtain ⟨T, ec⟩ := R
  obtain ⟨f, i, n, mo⟩ := x
  unfold Li.v
  dsimp only at *
  clear h hx hl hw hS
  go_enter Tryd.func17, Tryd.ntmps17
  go_wp2_with (go_at_call 34; refine (HC.out _ (below_al (Below.refl _ _) _)).mono ?_; rintro e w1 ⟨v, c, rfl, rfl, hF, hb1⟩)
  go_ret2
  exact ⟨_, rfl, hF.base (by simp), bc_then (below_al (Below.refl _ _) _) hb1⟩
set_option maxRecDepth 20000 in
set_option maxHeartbeats 2000000 in
theorem shcancel_any {w : World} {p : Option Addr} (l : List St) (lc : Nat) (x : Li) (hx : x.Ok) (h : InL elS w p l lc) (hl : l.length ≤ 1000) (hw : GdW l) (hS : MSent w) :
    Calls Tryd.prog 19 #[.slice p l.length lc, x.v] w (GoodsPost w (cancelS l x).1 (cancelS l x).2) := by
  have HC : Veil (∀ W, Below w.heap.size w W → Calls Tryd.prog 34 #[.slice p l.length lc, .agg #[.int .u32 x.src, .int .u16 x.item, .int .i64 x.n, .int .i64 x.price], .func (.func 37) #[] #[]] W fun e w' => ∃ v c, e = .returned (.tuple #[v, .int .i64 c]) ∧ (c = (cancelS l x).2 ∧ FreshE elS W.heap.size w' v (cancelS l x).1 ∧ Below W.heap.size W w')) := ⟨fun W hW => by
    refine shchanged0_any l.length lc x.src x.item x.n x.price (rightLi x) 37 (fun v c w' => c = (cancelS l x).2 ∧ FreshE elS W.heap.size w' v (cancelS l x).1 ∧ Below W.heap.size W w')
      (enters_of Tryd.func37 (by kernel_rfl) rfl) (fun W => shright_any x hx W) (fun hrt W' hW' => ?_) (fun hrf W' hW' => ?_)
    · have e : cancelS l x = giveG l x.st := by unfold cancelS; rw [if_pos hrt]
      rw [e]
      refine (gdgive_any l lc x.st ((h.below hW).below hW') hl hx.item hx.n hw ((hS.below hW).below hW')).mono ?_
      rintro e w' ⟨v, rfl, hF, hb⟩
      exact ⟨_, _, rfl, rfl, hF.base hW'.size, bc_then hW' hb⟩
    · have e : cancelS l x = ([], 150) := by unfold cancelS; rw [if_neg (by rw [hrf]; decide)]
      rw [e]
      exact ⟨rfl, FreshE.nil _ _ _, hW'⟩⟩
  generalize cancelS l x = R at HC ⊢
  obtain ⟨T, ec⟩ := R
  obtain ⟨f, i, n, mo⟩ := x
  unfold Li.v
  dsimp only at *
  clear h hx hl hw hS
  go_enter Tryd.func19, Tryd.ntmps19
  go_wp2_with (go_at_call 34; refine (HC.out _ (below_al (Below.refl _ _) _)).mono ?_; rintro e w1 ⟨v, c, rfl, rfl, hF, hb1⟩)
  go_ret2
  exact ⟨_, rfl, hF.base (by simp), bc_then (below_al (Below.refl _ _) _) hb1⟩
/-- The boxes that what is paid reads and writes. -/
structure PdB (W : World) (ga gb gx gp gq : Nat) (a b c d f i n mo : Int) : Prop where
  a : W.heap[ga]? = some (.cells #[.int .i64 a, .int .i64 b] 37 (0, 0))
  b : W.heap[gb]? = some (.cells #[.int .i64 c, .int .i64 d] 37 (0, 0))
  m : W.heap[gx]? = some (.cells #[.int .u32 f, .int .u16 i, .int .i64 n, .int .i64 mo] 27 (0, 0))
  p : W.heap[gp]? = some (.cells #[.int .i64 0, .int .i64 0] 37 (0, 0))
  q : W.heap[gq]? = some (.cells #[.int .i64 0, .int .i64 0] 37 (0, 0))
theorem PdB.below {W W' : World} {ga gb gx gp gq : Nat} {a b c d f i n mo : Int} (h : PdB W ga gb gx gp gq a b c d f i n mo) (hb : Below W.heap.size W W') : PdB W' ga gb gx gp gq a b c d f i n mo :=
  ⟨(hb.block _ (lt_of_heap h.a)).trans h.a, (hb.block _ (lt_of_heap h.b)).trans h.b, (hb.block _ (lt_of_heap h.m)).trans h.m, (hb.block _ (lt_of_heap h.p)).trans h.p, (hb.block _ (lt_of_heap h.q)).trans h.q⟩
/-- What paid does: A, B into the two boxes, then T, or an error. -/
def PaidQ (w : World) (gp gq : Nat) (A B : Ac) (e1 : Int) (T : List St) (e2 : Int) (v : Value) (c : Int) (w' : World) : Prop :=
  Turned (fun k => k = gp ∨ k = gq) w w' ∧ ((c = 0 ∧ e1 = 0 ∧ e2 = 0 ∧ w'.heap[gp]? = some (.cells #[.int .i64 A.w, .int .i64 A.b] 37 (0, 0)) ∧ w'.heap[gq]? = some (.cells #[.int .i64 B.w, .int .i64 B.b] 37 (0, 0)) ∧ FreshE elS w.heap.size w' v T) ∨ (c ≠ 0 ∧ (e1 = c ∨ e1 = 0 ∧ e2 = c)))
set_option maxRecDepth 20000 in
set_option maxHeartbeats 4000000 in
theorem shpaid_any {w0 w : World} {p : Option Addr} (a b : Ac) (ha : a.Ok) (hb : b.Ok) (l : List St) (lc : Nat) (x : Li) (hx : x.Ok) (hin : InL elS w0 p l lc) (hl : l.length ≤ 1000) (hw : GdW l) (hS : MSent w0) (hB : Below w0.heap.size w0 w) (ga gb gx gp gq : Nat)
    (h : PdB w ga gb gx gp gq a.w a.b b.w b.b x.src x.item x.n x.price) (hp : w0.heap.size ≤ gp) (hq : w0.heap.size ≤ gq) (hne : gp ≠ gq) :
    Calls Tryd.prog 39 #[.slice p l.length lc, .agg #[.int .u16 x.item, .int .i64 x.n], .pointer (some ⟨ga, 0, none⟩), .pointer (some ⟨gb, 0, none⟩), .pointer (some ⟨gx, 0, none⟩), .pointer (some ⟨gp, 0, none⟩), .pointer (some ⟨gq, 0, none⟩)] w
      fun e w' => ∃ v c, e = .returned (.tuple #[v, .int .i64 c]) ∧ PaidQ w gp gq (payA a b x.price).1 (payA a b x.price).2.1 (payA a b x.price).2.2 (giveG l x.st).1 (giveG l x.st).2 v c w' := by
  have HPy : Veil (∀ W, Below w0.heap.size w0 W → Calls Tryd.prog 40 #[a.v, b.v, .int .i64 x.price] W _) := ⟨fun W hW => acpay_any a b ha hb x.price hx.price W (hS.below hW)⟩
  have HGv : Veil (∀ W, Below w0.heap.size w0 W → Calls Tryd.prog 37 #[.slice p l.length lc, x.st.v] W (GoodsPost W (giveG l x.st).1 (giveG l x.st).2)) := ⟨fun W hW => gdgive_any l lc x.st (hin.below hW) hl hx.item hx.n hw (hS.below hW)⟩
  generalize payA a b x.price = s1 at HPy ⊢
  generalize giveG l x.st = s2 at HGv ⊢
  obtain ⟨⟨bw, bb⟩, ⟨dw, db⟩, e1⟩ := s1
  obtain ⟨T, e2⟩ := s2
  obtain ⟨aw, ab⟩ := a
  obtain ⟨cw, cb⟩ := b
  obtain ⟨f, i, n, mo⟩ := x
  unfold Li.st St.v Ac.v at *
  dsimp only at *
  obtain ⟨I, hI⟩ : ∃ I : Int, (i : Int) = I := ⟨_, rfl⟩
  rw [hI] at HGv h ⊢
  have hst := heap_alloc_new w (.cells #[.int .u16 I, .int .i64 n] 25)
  have hB1 : Below w.heap.size w (w.alloc (.cells #[.int .u16 I, .int .i64 n] 25)) := below_al (Below.refl _ _) _
  have HP1 : Veil _ := ⟨h.below hB1⟩
  have HB1 : Veil _ := ⟨hB1⟩
  have HB01 : Veil _ := ⟨bc_then hB hB1⟩
  have HST : Veil _ := ⟨hst⟩
  have HGP : Veil (gp < w.heap.size ∧ gq < w.heap.size) := ⟨lt_of_heap h.p, lt_of_heap h.q⟩
  have hne' : gq ≠ gp := fun e => hne e.symm
  obtain ⟨⟨a0, a1⟩, -⟩ := pk2 h.a
  obtain ⟨⟨b0, b1⟩, -⟩ := pk2 h.b
  obtain ⟨⟨m0, m1, m2, m3⟩, -⟩ := pkM h.m
  have hga := lt_of_heap h.a
  have hgb := lt_of_heap h.b
  have hgx := lt_of_heap h.m
  clear hI ha hb hx hin hl hw hS hB h hB1 hst
  by_cases he1 : e1 = 0
  rotate_left 1
  · go_enter Tryd.func39, Tryd.ntmps39
    go_wp2_with (go_at_call 40; refine (HPy.out _ HB01.out).mono ?_; rintro e w2 ⟨rfl, hb2⟩; have HP2 : Veil _ := ⟨HP1.out.below hb2⟩; have HB2 : Veil _ := ⟨bc_then HB1.out hb2⟩; clear hb2; obtain ⟨⟨p0, p1⟩, k0, k1⟩ := pk2 HP2.out.p; obtain ⟨⟨q0, q1⟩, k2, k3⟩ := pk2 HP2.out.q)
    go_ret2
    exact ⟨_, _, rfl, (Turned.new HB2.out : Turned (fun k => k = gp ∨ k = gq) w w2).trans (tu2 w2 gp gq _ _ _ _), .inr ⟨he1, .inl rfl⟩⟩
  subst he1
  go_enter Tryd.func39, Tryd.ntmps39
  go_wp2_with (first
    | (go_at_call 37; refine (HGv.out _ HB3.out).mono ?_; rintro e w4 ⟨v4, rfl, hF4, hb4⟩; have HF4 : Veil _ := ⟨hF4⟩; have HB4 : Veil _ := ⟨hb4⟩; clear hF4 hb4)
    | (go_at_call 40; refine (HPy.out _ HB01.out).mono ?_; rintro e w2 ⟨rfl, hb2⟩; have HP2 : Veil _ := ⟨HP1.out.below hb2⟩; have HB2 : Veil _ := ⟨bc_then HB1.out hb2⟩; have HB3 : Veil _ := ⟨tn2 (tn2 (bc_then HB01.out hb2) hp (.int .i64 bw) (.int .i64 bb)) hq (.int .i64 dw) (.int .i64 db)⟩; have hst2 := (hb2.block _ (lt_of_heap HST.out)).trans HST.out; clear hb2; obtain ⟨⟨p0, p1⟩, k0, k1⟩ := pk2 HP2.out.p; obtain ⟨⟨q0, q1⟩, k2, k3⟩ := pk2 HP2.out.q; obtain ⟨⟨st0, st1⟩, -⟩ := pk2 hst2; have np : gp ≠ w.heap.size := Nat.ne_of_lt HGP.out.1; have nq : gq ≠ w.heap.size := Nat.ne_of_lt HGP.out.2))
  go_ret2
  have hs := st22 hne HP2.out.p HP2.out.q (.int .i64 bw) (.int .i64 bb) (.int .i64 dw) (.int .i64 db)
  have hT : Turned (fun k => k = gp ∨ k = gq) w ((((w2.setCell ⟨gp, 0, none⟩ (.int .i64 bw)).setCell ⟨gp, 1, none⟩ (.int .i64 bb)).setCell ⟨gq, 0, none⟩ (.int .i64 dw)).setCell ⟨gq, 1, none⟩ (.int .i64 db)) := (Turned.new HB2.out : Turned (fun k => k = gp ∨ k = gq) w w2).trans (tu2 w2 gp gq _ _ _ _)
  refine ⟨_, _, rfl, hT.trans (Turned.new HB4.out), ?_⟩
  by_cases he2 : e2 = 0
  · subst he2
    exact .inl ⟨rfl, rfl, rfl, (HB4.out.block _ (lt_of_heap hs.1)).trans hs.1, (HB4.out.block _ (lt_of_heap hs.2)).trans hs.2, HF4.out.base hT.size⟩
  · exact .inr ⟨he2, .inr ⟨rfl, rfl⟩⟩
end Go.Proofs.YtckkiilbabbeaaaDoor
