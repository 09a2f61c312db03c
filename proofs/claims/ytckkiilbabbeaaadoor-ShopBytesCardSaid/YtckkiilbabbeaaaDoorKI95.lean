/- Goods, by the program: right, with numbers beside goods. -/
import Derived.Test.YtckkiilbabbeaaaDoorKI91
import Derived.Test.YtckkiilbabbeaaaDoorKZ1
namespace Go.Proofs.YtckkiilbabbeaaaDoor
open Go Go.RowKit Sm
attribute [local go_sem] Oper.semAt_some

/-- Between two rounds: the boxes of the numbers, of the answer, of the least Item, of the list. -/
structure RcI (w : World) (B B1 B2 B3 : Nat) (p : Option Addr) (L : List St) (cap least : Nat) (v : Value) (ns : List Int) (A : World) : Prop where
  cb : A.heap[w.heap.size]? = some (.cells #[v] 59 (0, 0))
  r : A.heap[B1]? = some (.cells #[.bool false] 4 (0, 0))
  n : A.heap[B2]? = some (.cells #[.int .i64 least] 3 (0, 0))
  bx : A.heap[B3]? = some (.cells #[.slice p L.length cap] 38 (0, 0))
  own : OwnE elL A B v ns
  ap : ∀ j, v.ownBlock = some j → j < w.heap.size ∨ B3 < j
  s : Els elS A p L
  t : Turned (B ≤ ·) w A
section
variable {w : World} {B B1 B2 B3 : Nat} {p : Option Addr} {L : List St} {cap least : Nat} {v : Value} {ns : List Int} {A A' : World}
theorem RcI.booked {S : Nat} (h : RcI w B B1 B2 B3 p L cap least v ns A) (hb : Booked S A A') (hS : w.heap.size ≤ S) : RcI w B B1 B2 B3 p L cap least v ns A' :=
  ⟨hb.heap h.cb, hb.heap h.r, hb.heap h.n, hb.heap h.bx, hb.ownsRow h.own, h.ap, h.s.booked' hb, hb.turned h.t hS⟩
theorem RcI.new (h : RcI w B B1 B2 B3 p L cap least v ns A) (hb : Below A.heap.size A A') : RcI w B B1 B2 B3 p L cap least v ns A' :=
  have ht : Turned (fun _ => False) A A' := Turned.new hb
  ⟨ht.heap h.cb (fun h => h), ht.heap h.r (fun h => h), ht.heap h.n (fun h => h), ht.heap h.bx (fun h => h), h.own.below hb, h.ap, h.s.below hb, h.t.trans (ht.wider fun _ _ h => h.elim)⟩
theorem RcI.more (h : RcI w B B1 B2 B3 p L cap least v ns A) (hp : L ≠ [] → ∀ a, p = some a → a.block < B) (hB : B ≤ w.heap.size) (h1 : w.heap.size < B1) (h2 : B1 < B2) (h3 : B2 < B3) (k' : Nat) : RcI w B B1 B2 B3 p L cap k' v ns (A.setCell ⟨B2, 0, none⟩ (.int .i64 k')) :=
  have ht : Turned (· = B2) A (A.setCell ⟨B2, 0, none⟩ (.int .i64 k')) := (Turned.refl (· = B2) A).setCell (p := ⟨B2, 0, none⟩) rfl _
  ⟨ht.heap h.cb (by omega), ht.heap h.r (by omega), heap_setCell_at h.n 0 _, ht.heap h.bx (by omega), h.own.kept ht (fun j hj e => by have := h.ap j hj; omega), h.ap, h.s.turned' ht (fun hL a ha e => by have := hp hL a ha; omega), h.t.then ht (fun k hk e => by omega)⟩
/-- One number more. -/
theorem RcI.push {w9 : World} {v' : Value} {ns' : List Int} (h : RcI w B B1 B2 B3 p L cap least v ns A) (hp : L ≠ [] → ∀ a, p = some a → a.block < B) (hB : B ≤ w.heap.size) (h1 : w.heap.size < B1) (h2 : B1 < B2) (h3 : B2 < B3)
    (ho : OwnE elL w9 B v' ns') (hg : A.grownBy w9 v.ownBlock) (hf : ∀ k, v'.ownBlock = some k → v.ownBlock = some k ∨ A.heap.size ≤ k) :
    RcI w B B1 B2 B3 p L cap least v' ns' (w9.setCell ⟨w.heap.size, 0, none⟩ v') ∧ Turned (fun j => v.ownBlock = some j ∨ j = w.heap.size) A (w9.setCell ⟨w.heap.size, 0, none⟩ v') := by
  have ht9 : Turned (fun j => v.ownBlock = some j) A w9 := Turned.grown hg (fun j hj _ => hj)
  have ht : Turned (· = w.heap.size) w9 (w9.setCell ⟨w.heap.size, 0, none⟩ v') := (Turned.refl (· = w.heap.size) w9).setCell (p := ⟨w.heap.size, 0, none⟩) rfl _
  have hT : Turned (fun j => v.ownBlock = some j ∨ j = w.heap.size) A (w9.setCell ⟨w.heap.size, 0, none⟩ v') := (ht9.wider fun _ _ h => .inl h).setCell (p := ⟨w.heap.size, 0, none⟩) (.inr rfl) _
  have hbx := lt_of_heap h.bx
  have hv : ∀ j, v.ownBlock = some j → B ≤ j ∧ (j < w.heap.size ∨ B3 < j) := fun j hj => ⟨(h.own.lt hj).1, h.ap j hj⟩
  refine ⟨⟨?_, ?_, ?_, ?_, ?_, ?_, ?_, ?_⟩, hT⟩
  · exact heap_setCell_at (ht9.heap h.cb (fun e => by have := hv _ e; omega)) 0 _
  · exact hT.heap h.r (fun e => by rcases e with e | e; (have := hv _ e; omega); omega)
  · exact hT.heap h.n (fun e => by rcases e with e | e; (have := hv _ e; omega); omega)
  · exact hT.heap h.bx (fun e => by rcases e with e | e; (have := hv _ e; omega); omega)
  · exact ho.kept ht (fun j hj e => by
      subst e
      rcases hf _ hj with e | e
      · have := hv _ e; omega
      · have := lt_of_heap h.cb; omega)
  · intro j hj
    rcases hf _ hj with e | e
    · exact (hv _ e).2
    · exact .inr (by omega)
  · exact h.s.turned' hT (fun hL a ha e => by have := hp hL a ha; rcases e with e | e; (have := hv _ e; omega); omega)
  · exact h.t.then hT (fun k hk e => by rcases e with e | e; (exact (hv _ e).1); omega)
end
theorem allG_take (l : List Int) (k : Nat) (h : k < l.length) : (l.take (k + 1)).all amt1 = ((l.take k).all amt1 && amt1 (l.getD k 0)) := by
  rw [List.take_succ_eq_append_getElem h, List.all_append]
  simp [List.getD, h]
theorem allG_out (l : List Int) (k : Nat) (h : k < l.length) (hf : amt1 (l.getD k 0) = false) : l.all amt1 = false := by
  rw [List.all_eq_false]
  refine ⟨l[k], List.getElem_mem h, ?_⟩
  rw [show l.getD k 0 = l[k] by simp [List.getD, h]] at hf
  rw [hf]; decide
theorem amt1_low (x : Int) (h : x < 1) : amt1 x = false := by unfold amt1; rw [decide_eq_false_iff_not]; omega
theorem amt1_of (x : Int) (h : 1 ≤ x) (hx : amt x = true) : amt1 x = true := by have := (amt_iff x).1 hx; exact (amt1_iff x).2 (by omega)
theorem amt1_out (x : Int) (hx : amt x = false) : amt1 x = false := by
  cases h : amt1 x with
  | false => rfl
  | true => have := (amt1_iff x).1 h; rw [(amt_iff x).2 (by omega)] at hx; cases hx
theorem risG_cons (k : Nat) (s : St) (r : List St) : risG k (s :: r) = (decide (k ≤ s.item) && risG (s.item + 1) r) := rfl
theorem results_boolG {fn : Func} {p : Tmp} {tmps : Array Value} {w : World} {g : Nat} {x : Value} (h : fn.results = #[.cell p 4]) (hp : tmps.getD p undef = .pointer (some ⟨g, 0, none⟩)) (hg : w.heap[g]? = some (.cells #[x] 4 (0, 0))) :
    (results fn tmps).run Tryd.prog w = .ok x w := by
  have hp' : tmps[p]?.getD undef = .pointer (some ⟨g, 0, none⟩) := by simpa using hp
  have c0 := cell_row6 hg
  simp [results, h, go_sem, hp', c0]

set_option maxRecDepth 20000 in
set_option maxHeartbeats 2000000 in
theorem gdrightc_any {w : World} {p : Option Addr} (L : List St) (cap : Nat) (C : List Int) (vC : Value) (B : Nat) (hB : B ≤ w.heap.size) (h : Els elS w p L) (hp : L ≠ [] → ∀ a, p = some a → a.block < B) (hl : L.length ≤ 1000) (hw : GdW L) (hC : OwnE elL w B vC C) (hCl : C.length ≤ 1) :
    Calls Tryd.prog 46 #[.slice p L.length cap, vC] w fun e w' => e = .returned (.bool (rightC L C)) ∧ Below B w w' := by
  refine calls_of_wp_marks Tryd.func46 rfl ?_
  simp only [Tryd.ntmps46, List.size_toArray, List.length_cons, List.length_nil, Nat.reduceAdd, Nat.reduceSub, Array.replicate_succ, Array.replicate_zero, List.push_toArray, List.append_toArray, List.nil_append, List.cons_append]
  obtain ⟨r, hr⟩ : ∃ r, rightC L C = r := ⟨_, rfl⟩
  have HR : Veil _ := ⟨hr⟩
  rw [hr]
  clear hr
  have HH := Lib.hid h
  have HWD : Veil _ := ⟨hw⟩
  have HC : Veil _ := ⟨hC⟩
  have HP : Veil _ := ⟨hp⟩
  have HBw : Veil _ := ⟨hB⟩
  obtain ⟨pC, cC, evC, -, hCb⟩ := hC.form
  have hCb' : ∀ j, vC.ownBlock = some j → j < w.heap.size := fun j hj => (hC.lt hj).2
  have HCb : Veil _ := ⟨hCb'⟩
  clear h hw hC hp hB hCb hCb'
  by_cases h20 : 20 < L.length
  · have hrf : r = false := by rw [← HR.out]; unfold rightC; rw [decide_eq_false (by omega)]; rfl
    subst hrf evC
    go_wp2
    exact leaves_none (results_boolG (g := w.heap.size + 1) rfl rfl (heap_alloc2_new _ _ _)) ⟨rfl, (below_al (below_al (Below.refl w.heap.size w) _) _).mono HBw.out⟩
  subst evC
  go_wp2_with (go_at_call 62; refine (gdeach_any _ _ _ _).mono ?_; rintro e w1 ⟨rfl, hw1⟩)
  obtain ⟨B1, e1⟩ : ∃ B1, w.heap.size + 1 = B1 := ⟨_, rfl⟩
  obtain ⟨B2, e2⟩ : ∃ B2, B1 + 1 = B2 := ⟨_, rfl⟩
  obtain ⟨B3, e3⟩ : ∃ B3, B2 + 1 = B3 := ⟨_, rfl⟩
  have hI : RcI w B B1 B2 B3 p L cap 0 (.slice pC C.length cC) C w1 := by
    have ht : Turned (fun _ => False) w w1 := by rw [← hw1]; exact ((((Turned.refl (fun _ => False) w).alloc _).alloc _).alloc _).alloc _
    refine ⟨?_, ?_, ?_, ?_, HC.out.kept ht (fun _ _ h => h), fun j hj => .inl (HCb.out j hj), HH.out.turned ht (fun _ _ h => h), ht.wider fun _ _ h => h.elim⟩
    all_goals
      rw [← hw1]
      simp only [heap_alloc_if, World.size_alloc]
      repeat (first | rw [if_neg (by omega)] | rw [if_pos (by first | trivial | omega)])
    all_goals rfl
  have hz1 : w1.heap.size = B3 + 1 := by rw [← hw1]; simp; omega
  have HW : Veil (w.heap.size < B1 ∧ B1 < B2 ∧ B2 < B3) := ⟨by omega⟩
  have HZ : Veil (w1.heap.size = B3 + 1) := ⟨hz1⟩
  rw [e1, e2, e3]
  clear hw1 e1 e2 e3 hz1
  have HS : Veil (L.length ≤ 20) := ⟨by omega⟩
  refine wp_range_seq (gf := 76) (lb := #[.pointer (some ⟨B3, 0, none⟩)]) rfl (enters_of Tryd.func76 (by kernel_rfl) rfl)
    (gdeach_seq B3 p L cap (by omega)) (fun k => rfl)
    (fun k A => ∃ least v, RcI w B B1 B2 B3 p L cap least v (C ++ nsG (L.take k)) A ∧ risG 0 L = risG least (L.drop k) ∧ least ≤ 100000)
    (fun cd k A => cd = .ret ∧ r = false ∧ A.heap[B1]? = some (.cells #[.bool false] 4 (0, 0)) ∧ Turned (B ≤ ·) w A) ?hI ?hIx ?hF ?h0 ?hround ?hdone ?hstop
  case hI => rintro k A A' ⟨least, v, h1, h2⟩ hb; exact ⟨least, v, h1.booked hb (by have := HW.out; have := HZ.out; omega), h2⟩
  case hIx => rintro cd k A A' ⟨h1, h2, h3, h4⟩ hb; exact ⟨h1, h2, hb.heap h3, hb.turned h4 (by have := HW.out; have := HZ.out; omega)⟩
  case hF => rintro k A ⟨least, v, h, _⟩; exact ⟨cell_row6 h.bx, h.s⟩
  case h0 => exact ⟨0, _, by simpa [nsG] using hI, rfl, by omega⟩
  case hround =>
    rintro l m k A hl2 hlt ⟨least, v, hi1, hr, hle⟩
    simp only [handsG, List.zip_cons_cons, List.zip_nil_right, List.foldl_cons, List.foldl_nil, List.setIfInBounds_toArray, List.set_cons_succ, List.set_cons_zero]
    rw [drop_getD L k hlt] at hr
    have HRS : Veil _ := ⟨hr⟩
    have HNS : Veil _ := ⟨nsG_take L k hlt⟩
    have hit := HWD.out.at' hlt
    have hnl : (C ++ nsG (L.take k)).length ≤ 100 := by have := HS.out; simp [nsG]; omega
    have HNL : Veil _ := ⟨hnl⟩
    clear hI hr hnl
    revert HRS HNS hit
    generalize L.getD k St.zero = s
    obtain ⟨it, n⟩ := s
    intro HRS HNS hit
    dsimp only at hit
    obtain ⟨ns, hns⟩ : ∃ ns, C ++ nsG (L.take k) = ns := ⟨_, rfl⟩
    rw [hns] at hi1 HNL
    have HNN : Veil _ := ⟨hns⟩
    clear hns
    gi_wp2
    have hT1 : Turned (fun _ => False) A (A.alloc (.cells #[.int .u16 it, .int .i64 n] 25)) := (Turned.refl _ A).alloc _
    refine ⟨keepsFrom_new6 hT1, fun A2 hbk hsz => ?_⟩
    have hi2 := (hi1.new (below_al (Below.refl _ _) _)).booked hbk (by have := HW.out; have := HZ.out; omega)
    have hs2 := hbk.heap (heap_alloc_new A (.cells #[.int .u16 it, .int .i64 n] 25))
    have hAB : B3 < A.heap.size := lt_of_heap hi1.bx
    clear hi1 hT1 hbk
    have HI2 : Veil _ := ⟨hi2⟩
    have q0 := cell_row6 hi2.cb
    have f0 : A2.frozen? ⟨w.heap.size, 0, none⟩ = false := frozen_whole hi2.cb _
    have q1 := cell_row6 hi2.r
    have f1 : A2.frozen? ⟨B1, 0, none⟩ = false := frozen_whole hi2.r _
    have q2 := cell_row6 hi2.n
    have f2 : A2.frozen? ⟨B2, 0, none⟩ = false := frozen_whole hi2.n _
    obtain ⟨⟨c1, c2⟩, -⟩ := packG hs2
    have HS2 : Veil _ := ⟨hs2⟩
    clear hi2 hs2 hsz
    by_cases g1 : it < least
    · have G1 : decide (it < least) = true := by simp [g1]
      have hrf : r = false := by
        rw [← HR.out]
        have e : risG 0 L = false := by rw [HRS.out, risG_cons, decide_eq_false (show ¬ least ≤ it by omega)]; rfl
        unfold rightC
        rw [e]
        simp
      have HRF : Veil _ := ⟨hrf⟩
      clear hrf
      gi_wp2
      have hT : Turned (· = B1) A2 (A2.setCell ⟨B1, 0, none⟩ (.bool false)) := (Turned.refl (· = B1) A2).setCell (p := ⟨B1, 0, none⟩) rfl _
      have hW := HW.out
      have hBB := HBw.out
      exact ⟨keepsFrom_turned6 hT (fun j hj => .inl (by have := HZ.out; omega)), rfl, HRF.out, heap_setCell_at HI2.out.r 0 _, HI2.out.t.then hT (fun j hj e => by omega)⟩
    have G1 : decide (it < least) = false := by simp [g1]
    have n1 : w.heap.size ≠ B2 := by have := HW.out; omega
    have n2 : B2 ≠ w.heap.size := fun e => n1 e.symm
    have n3 : A.heap.size ≠ B2 := by have := HW.out; omega
    have n4 : B2 ≠ A.heap.size := fun e => n3 e.symm
    have HRR : Veil (risG 0 L = risG (it + 1) (L.drop (k + 1))) := ⟨by
      rw [HRS.out, risG_cons, decide_eq_true (show least ≤ it by omega)]
      rfl⟩
    have e1 : Value.int .i64 ((it : Int) + 1) = .int .i64 ((it + 1 : Nat) : Int) := by go_num
    have hW := HW.out
    have HI5 : Veil (RcI w B B1 B2 B3 p L cap (it + 1) v ns (A2.setCell ⟨B2, 0, none⟩ (.int .i64 ((it : Int) + 1)))) := ⟨by rw [e1]; exact HI2.out.more HP.out HBw.out hW.1 hW.2.1 hW.2.2 (it + 1)⟩
    have HT5 : Veil (Turned (· = B2) A2 (A2.setCell ⟨B2, 0, none⟩ (.int .i64 ((it : Int) + 1)))) := ⟨(Turned.refl (· = B2) A2).setCell (p := ⟨B2, 0, none⟩) rfl _⟩
    have hc9 : ((A2.setCell ⟨B2, 0, none⟩ (.int .i64 ((it : Int) + 1))).alloc (.cells #[.int .i64 n] 2)).heap[A2.heap.size]? = some (.cells #[.int .i64 n] 2 (0, 0)) := by
      have := heap_alloc_new (A2.setCell ⟨B2, 0, none⟩ (.int .i64 ((it : Int) + 1))) (.cells #[.int .i64 n] 2)
      rwa [World.size_setCell] at this
    have HC9 : Veil _ := ⟨hc9⟩
    have HI6 : Veil _ := ⟨HI5.out.new (below_al (Below.refl _ _) (.cells #[.int .i64 n] 2))⟩
    have HE1 : Veil _ := ⟨e1⟩
    have HAC : Veil (∀ j, v.ownBlock = some j → ∃ c t fr, A2.heap[j]? = some (.cells c t fr)) := ⟨fun j hj => by
      obtain ⟨-, h2⟩ := HI2.out.own
      rcases h2 with ⟨e, -⟩ | ⟨g, cap, cur, e, -, hh, -⟩
      · rw [e] at hj; cases hj
      · rw [e] at hj; cases hj; exact ⟨_, _, _, hh⟩⟩
    clear hc9 hW e1 HI5
    gi_wp2_with (refine listIn_op rfl (fun K hK => ?_); refine wpList_append_el elL rfl (.tmp 26) (.tmp 29) rfl B v ns n rfl HI6.out.own A2.heap.size rfl HC9.out (by have := HNL.out; omega) (by have := lt_of_heap HI6.out.cb; have := HBw.out; omega) ?_; intro v' w9 hown9 hgrow hfrom; obtain ⟨p', c', ev, -, -⟩ := hown9.form; subst ev; have hv9 := (Turned.grown hgrow (fun j hj _ => hj) : Turned (fun j => v.ownBlock = some j) _ w9).heap HI6.out.cb (fun e => by have := HI6.out.ap _ e; have := HW.out; omega); have q9 := cell_row6 hv9; have f9 : w9.frozen? ⟨w.heap.size, 0, none⟩ = false := frozen_whole hv9 _; have HO9 : Veil _ := ⟨hown9⟩; have HG9 : Veil _ := ⟨hgrow⟩; have HF9 : Veil _ := ⟨hfrom⟩; clear hown9 hgrow hfrom hv9; refine wpList_nil (one_normal (hK _ _ ?_)); clear hK K)
    have e9 : (ns ++ [n]).length = ns.length + 1 := by simp
    have ho9 := HO9.out
    have hf9 := HF9.out
    rw [e9] at ho9 hf9
    have hW := HW.out
    obtain ⟨hr9, ht9⟩ := HI6.out.push HP.out HBw.out hW.1 hW.2.1 hW.2.2 ho9 HG9.out hf9
    have hT : Turned (fun j => v.ownBlock = some j ∨ j = w.heap.size ∨ j = B2) A2 (w9.setCell ⟨w.heap.size, 0, none⟩ (.slice p' (ns.length + 1) c')) :=
      ((HT5.out.alloc _).wider (fun _ _ h => .inr (.inr h))).trans (ht9.wider (fun _ _ h => h.elim .inl (fun h => .inr (.inl h))))
    refine ⟨keepsFrom_turned6 hT ?_, it + 1, ⟨.slice p' (ns.length + 1) c', ?_⟩, HRR.out, by omega⟩
    · rintro j (hj | rfl | rfl)
      · exact .inr (HAC.out j hj)
      · exact .inl (by have := HZ.out; omega)
      · exact .inl (by have := HZ.out; omega)
    · rw [HNS.out, ← List.append_assoc, HNN.out]
      exact hr9
  case hdone =>
    rintro Dd A hDd ⟨least, v, h1, hr, -⟩ hdd
    rw [List.take_length] at h1
    rw [List.drop_length] at hr
    have HRC : Veil (r = (C ++ nsG L).all amt1) := ⟨by
      rw [← HR.out]
      unfold rightC
      rw [decide_eq_true HS.out, hr]
      rfl⟩
    have HI : Veil _ := ⟨h1⟩
    have HD : Veil _ := ⟨hdd⟩
    have hnl : (C ++ nsG L).length ≤ 100 := by have := HS.out; simp [nsG]; omega
    clear hI h1 hr hdd HR
    generalize C ++ nsG L = ns at HI HRC hnl
    obtain ⟨pn, cn, ev, hels, -⟩ := HI.out.own.form
    subst ev
    have HE : Veil _ := ⟨hels⟩
    have q0 := cell_row6 HI.out.cb
    have q1 := cell_row6 HI.out.r
    have f1 : A.frozen? ⟨B1, 0, none⟩ = false := frozen_whole HI.out.r _
    have HEND : Veil (∀ (b : Bool) X, Below A.heap.size A X → (X.setCell ⟨B1, 0, none⟩ (.bool b)).heap[Dd]? = some (.deferred (some [])) ∧ (X.setCell ⟨B1, 0, none⟩ (.bool b)).heap[B1]? = some (.cells #[.bool b] 4 (0, 0)) ∧ Turned (B ≤ ·) w (X.setCell ⟨B1, 0, none⟩ (.bool b))) := ⟨fun b X hX => by
      have hT : Turned (· = B1) A (X.setCell ⟨B1, 0, none⟩ (.bool b)) := (Turned.new hX : Turned (· = B1) A X).setCell (p := ⟨B1, 0, none⟩) rfl _
      have hW := HW.out
      have hBB := HBw.out
      exact ⟨hT.heap HD.out (by have := HZ.out; omega), heap_setCell_at ((hX.block _ (lt_of_heap HI.out.r)).trans HI.out.r) 0 _, HI.out.t.then hT (fun j hj e => by omega)⟩⟩
    clear hels
    go_wp2
    go_loopw [33] (fun i wr => ∃ k : Nat, k ≤ ns.length ∧ i = .int .i64 k ∧ Veil ((ns.take k).all amt1 = true ∧ Below A.heap.size A wr)) (fun i _ => ns.length - (intOf i).toNat)
    case atStart => exact ⟨0, Nat.zero_le _, rfl, ⟨rfl, Below.refl _ _⟩⟩
    case round =>
      obtain ⟨k, hk, rfl, hJ⟩ := hrel
      obtain ⟨hA, hBl⟩ := hJ.out
      have HBl : Veil _ := ⟨hBl⟩
      have HA : Veil _ := ⟨hA⟩
      clear hA hBl hJ
      have d1 : wr.cell? ⟨B1, 0, none⟩ = some (.bool false) := cell_below q1 HBl.out
      have g1 : wr.frozen? ⟨B1, 0, none⟩ = false := by rw [HBl.out.frozen (p := ⟨B1, 0, none⟩) (lt_of_heap HI.out.r)]; exact f1
      by_cases hlt : k < ns.length
      · obtain ⟨b, o, rfl, hc⟩ := els_load (HE.out.below HBl.out) hlt
        have HT2 : Veil _ := ⟨allG_take ns k hlt⟩
        have HT3 : Veil _ := ⟨allG_out ns k hlt⟩
        revert hc HT2 HT3
        generalize ns.getD k 0 = x
        intro hc HT2 HT3
        have HCl : Veil _ := ⟨fun w => moright_of x w⟩
        by_cases hx1 : x < 1
        · have HRF : Veil (r = false) := ⟨by rw [HRC.out]; exact HT3.out (amt1_low x hx1)⟩
          clear q1 f1
          go_wp2
          obtain ⟨z1, z2, z3⟩ := HEND.out false _ HBl.out
          refine leaves_mark (D := Dd) (B := w.heap.size) z1 (by have := HW.out; have := HZ.out; omega) ?_
          intro w' hb _
          exact leaves_none (results_boolG (g := B1) rfl rfl (hb.heap z2)) ⟨by rw [HRF.out], (hb.turned z3 (Nat.le_refl _)).toBelow HBw.out (fun _ _ h => h)⟩
        · by_cases hx : amt x = true
          · rw [hx] at HCl
            have HX : Veil _ := ⟨amt1_of x (by omega) hx⟩
            clear hx q1 f1
            go_wp2_with (go_at_call 32; refine (HCl.out _).mono ?_; rintro e w2 ⟨rfl, hb2⟩)
            refine ⟨⟨k + 1, by omega, by go_num, ⟨?_, ?_⟩⟩, ?_⟩
            · rw [HT2.out, HA.out, HX.out]; rfl
            · exact bc_then HBl.out hb2
            · simp only [intOf]; omega
          · have hxf : amt x = false := by simpa using hx
            rw [hxf] at HCl
            have HRF : Veil (r = false) := ⟨by rw [HRC.out]; exact HT3.out (amt1_out x hxf)⟩
            clear hx hxf q1 f1
            go_wp2_with (go_at_call 32; refine (HCl.out _).mono ?_; rintro e w2 ⟨rfl, hb2⟩; have d2 := cell_below d1 hb2; have g2 : w2.frozen? ⟨B1, 0, none⟩ = false := (by rw [hb2.frozen (p := ⟨B1, 0, none⟩) (World.block_lt_of_cell? _ _ d1)]; exact g1); clear d1 g1)
            obtain ⟨z1, z2, z3⟩ := HEND.out false _ (bc_then HBl.out hb2)
            refine leaves_mark (D := Dd) (B := w.heap.size) z1 (by have := HW.out; have := HZ.out; omega) ?_
            intro w' hb _
            exact leaves_none (results_boolG (g := B1) rfl rfl (hb.heap z2)) ⟨by rw [HRF.out], (hb.turned z3 (Nat.le_refl _)).toBelow HBw.out (fun _ _ h => h)⟩
      · obtain rfl : k = ns.length := by omega
        have HRT : Veil (r = true) := ⟨by rw [HRC.out]; have := HA.out; rwa [List.take_of_length_le (Nat.le_refl _)] at this⟩
        clear q1 f1
        go_wp2
        obtain ⟨z1, z2, z3⟩ := HEND.out true _ HBl.out
        refine leaves_mark (D := Dd) (B := w.heap.size) z1 (by have := HW.out; have := HZ.out; omega) ?_
        intro w' hb _
        exact leaves_none (results_boolG (g := B1) rfl rfl (hb.heap z2)) ⟨by rw [HRT.out], (hb.turned z3 (Nat.le_refl _)).toBelow HBw.out (fun _ _ h => h)⟩
  case hstop =>
    rintro Dd cd k A hDd hlt ⟨rfl, rfl, h3, h4⟩ hdd
    clear hI
    go_wp2
    refine leaves_mark (D := Dd) (B := w.heap.size) hdd (by have := HW.out; have := HZ.out; omega) ?_
    intro w' hb _
    refine leaves_none (results_boolG (g := B1) rfl rfl (hb.heap h3)) ⟨rfl, ?_⟩
    exact (hb.turned h4 (Nat.le_refl _)).toBelow HBw.out (fun _ _ h => h)
end Go.Proofs.YtckkiilbabbeaaaDoor
