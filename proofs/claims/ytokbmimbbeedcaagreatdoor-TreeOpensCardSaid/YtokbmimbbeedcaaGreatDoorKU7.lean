/- Trees, by the program: gather. -/
import Derived.Test.YtokbmimbbeedcaaGreatDoorKTD
import Derived.Test.YtokbmimbbeedcaaGreatDoorKOG
import Derived.Test.YtokbmimbbeedcaaGreatDoorKT6
namespace Go.Proofs.YtokbmimbbeedcaaGreatDoor
open Go Go.RowKit Sm
attribute [local go_sem] Oper.semAt_some

theorem zero_sight (w : World) : (zeroValue 103).run Tryz.prog w = .ok (.agg #[.slice none 0 0, .slice none 0 0, .slice none 0 0, .int .i64 0, .bool false]) w := by kernel_rfl
/-- What is gathered so far. -/
structure GaS (pg : Nat → Option Nd) (B0 Mb : Nat) (m : List (Nat × Sg)) (H Wb C0 : Nat) (W : World) (v : Value) (acc : List Pr) : Prop where
  s : Sv pg B0 Mb m W
  b : W.heap[H]? = some (.cells #[.pointer (some ⟨Wb, 0, none⟩), .map (some Mb), v] 101 (0, 0))
  o : OwnE elP W C0 v acc
  hl : H < B0
  ne : H ≠ Mb
  c : B0 ≤ C0
  z : C0 ≤ W.heap.size
  a : ∀ x s, mget m x = some s → ∀ j, (s.v1.ownBlock = some j ∨ s.v2.ownBlock = some j ∨ s.v3.ownBlock = some j) → j < C0
/-- What a call that gathers turns. -/
structure GaF (H : Nat) (v : Value) (W : World) (v' : Value) (W' : World) : Prop where
  t : Turned (fun x => x = H ∨ v.ownBlock = some x) W W'
  n : ∀ k, v'.ownBlock = some k → v.ownBlock = some k ∨ W.heap.size ≤ k
theorem GaF.below {H : Nat} {v : Value} {W W' : World} (hb : Below W.heap.size W W') : GaF H v W v W' := ⟨Turned.new hb, fun _ h => .inl h⟩
theorem GaF.trans {H : Nat} {v v1 v2 : Value} {W W1 W2 : World} (h : GaF H v W v1 W1) (h' : GaF H v1 W1 v2 W2) : GaF H v W v2 W2 := by
  have hz := h.t.size
  refine ⟨⟨h'.t.os.trans h.t.os, h'.t.tape.trans h.t.tape, h'.t.output.trans h.t.output, Nat.le_trans h.t.size h'.t.size, fun k hk hf => ?_⟩, fun k hk => ?_⟩
  · rw [← h.t.block k hk hf]
    refine h'.t.block k (by omega) ?_
    rintro (e | e)
    · exact hf (.inl e)
    · rcases h.n k e with e | e
      · exact hf (.inr e)
      · omega
  · rcases h'.n k hk with e | e
    · exact h.n k e
    · exact .inr (by omega)
theorem GaF.booked {B H : Nat} {v v' : Value} {W W' W'' : World} (h : GaF H v W v' W') (hb : Booked B W' W'') (hB : W.heap.size ≤ B) : GaF H v W v' W'' := ⟨hb.turned h.t hB, h.n⟩
/-- A block that was there ahead, neither the box nor the list's own. -/
theorem GaF.heap {H : Nat} {v v' : Value} {W W' : World} (h : GaF H v W v' W') {k : Nat} {o : Obj} (hk : W.heap[k]? = some o) (h1 : k ≠ H) (h2 : v.ownBlock ≠ some k) : W'.heap[k]? = some o := by
  rw [h.t.block k (Array.getElem?_eq_some_iff.1 hk).1 (by rintro (e | e); exact h1 e; exact h2 e)]
  exact hk
section
variable {pg : Nat → Option Nd} {B0 Mb : Nat} {m : List (Nat × Sg)} {H Wb C0 : Nat} {W W' : World} {v v' : Value} {acc L : List Pr}
theorem GaS.below (h : GaS pg B0 Mb m H Wb C0 W v acc) (hb : Below W.heap.size W W') : GaS pg B0 Mb m H Wb C0 W' v acc :=
  ⟨h.s.below hb, (hb.block _ (lt_of_heap h.b)).trans h.b, h.o.below hb, h.hl, h.ne, h.c, Nat.le_trans h.z hb.size, h.a⟩
theorem GaS.booked {B : Nat} (h : GaS pg B0 Mb m H Wb C0 W v acc) (hb : Booked B W W') (hB : Mb < B) : GaS pg B0 Mb m H Wb C0 W' v acc :=
  ⟨h.s.booked hb hB, hb.heap h.b, hb.ownsRow h.o, h.hl, h.ne, h.c, Nat.le_trans h.z hb.size, h.a⟩
theorem GaS.hb (h : GaS pg B0 Mb m H Wb C0 W v acc) : Mb < B0 := h.s.lo
theorem GaS.box5 {W5 : World} (h : GaS pg B0 Mb m H Wb C0 W v acc) (hg : W.grownBy W5 v.ownBlock) : W5.heap[H]? = some (.cells #[.pointer (some ⟨Wb, 0, none⟩), .map (some Mb), v] 101 (0, 0)) := by
  have hT : Turned (fun j => v.ownBlock = some j) W W5 := Turned.grown hg (fun j hj _ => hj)
  refine hT.heap h.b (fun e => ?_)
  have := (h.o.lt e).1
  have := h.hl
  have := h.c
  omega
/-- The list grew, and was laid into the box. -/
theorem GaS.grown {W5 : World} (h : GaS pg B0 Mb m H Wb C0 W v acc) (hg : W.grownBy W5 v.ownBlock) (ho : OwnE elP W5 C0 v' L) (hv : ∀ k, v'.ownBlock = some k → v.ownBlock = some k ∨ W.heap.size ≤ k) : GaS pg B0 Mb m H Wb C0 (W5.setCell ⟨H, 2, none⟩ v') v' L ∧ GaF H v W v' (W5.setCell ⟨H, 2, none⟩ v') := by
  have hT : Turned (fun j => v.ownBlock = some j) W W5 := Turned.grown hg (fun j hj _ => hj)
  have hvl : ∀ j, v.ownBlock = some j → C0 ≤ j := fun j hj => (h.o.lt hj).1
  have hvl' : ∀ j, v'.ownBlock = some j → C0 ≤ j := fun j hj => (ho.lt hj).1
  have hlo := h.hl
  have hc := h.c
  have hm := h.s.lo
  have hb5 : W5.heap[H]? = some (.cells #[.pointer (some ⟨Wb, 0, none⟩), .map (some Mb), v] 101 (0, 0)) := hT.heap h.b (fun e => by have := hvl _ e; omega)
  have hS : Turned (· = H) W5 (W5.setCell ⟨H, 2, none⟩ v') := (Turned.refl (· = H) W5).setCell (p := ⟨H, 2, none⟩) rfl _
  have hT2 : Turned (fun x => x = H ∨ v.ownBlock = some x) W (W5.setCell ⟨H, 2, none⟩ v') := (hT.wider fun j _ e => .inr e).trans (hS.wider fun j _ e => .inl e)
  refine ⟨⟨h.s.turned hT2 ?_ ?_, heap_setCell_at hb5 2 _, ho.kept hS (fun k hk e => by have := hvl' k hk; have e : k = H := e; omega), h.hl, h.ne, h.c, Nat.le_trans h.z hT2.size, h.a⟩, hT2, hv⟩
  · rintro (e | e)
    · exact h.ne e.symm
    · have := hvl _ e; omega
  · rintro x s hs j hj (e | e)
    · have := (h.s.old hs hj).1; omega
    · have := hvl _ e
      have := h.a x s hs j hj
      omega
end
def GaQ (pg : Nat → Option Nd) (B0 Mb : Nat) (m : List (Nat × Sg)) (H Wb C0 : Nat) (W : World) (v : Value) (acc L : List Pr) (e : Ending) (W' : World) : Prop :=
  e = .returned (.tuple #[]) ∧ ∃ v', GaS pg B0 Mb m H Wb C0 W' v' (acc ++ L) ∧ GaF H v W v' W'

set_option maxRecDepth 20000 in
set_option maxHeartbeats 4000000 in
theorem gather_step {pg : Nat → Option Nd} {B0 Mb : Nat} {m : List (Nat × Sg)} {H Wb C0 : Nat} {W : World} {v : Value} {acc : List Pr} {id : Nat} {s : Sg} (hs : mget m id = some s) (KL : List (List Pr)) (hKL : KL.length = s.n.ds.length) (hL : s.n.ps ++ KL.flatten = s.L) (hd : s.n.ds.length ≤ 1000)
    (hK : ∀ j, j < s.n.ds.length → ∀ A vj accj, GaS pg B0 Mb m H Wb C0 A vj accj → accj.length + (KL.getD j []).length ≤ 1000000 → Calls Tryz.prog 38 #[.pointer (some ⟨H, 0, none⟩), .int .u32 (s.n.ds.getD j 0 : Nat)] A (GaQ pg B0 Mb m H Wb C0 A vj accj (KL.getD j [])))
    (h : GaS pg B0 Mb m H Wb C0 W v acc) (hl : acc.length + s.L.length ≤ 1000000) : Calls Tryz.prog 38 #[.pointer (some ⟨H, 0, none⟩), .int .u32 id] W (GaQ pg B0 Mb m H Wb C0 W v acc s.L) := by
  obtain ⟨-, hn, -⟩ := h.s.e id s hs
  obtain ⟨v1, v2, v3, n, hh, L⟩ := s
  dsimp only at *
  obtain ⟨a, rfl, rfl, rfl, hat, hfa⟩ := hn.parts
  have hlH := lt_of_heap h.b
  obtain ⟨⟨b0, b1, b2⟩, f0, f1, f2⟩ := box3 h.b
  have HG : Veil _ := ⟨h⟩
  have HN : Veil _ := ⟨hn⟩
  have HS : Veil _ := ⟨hs⟩
  have HK : Veil _ := ⟨hK⟩
  have HM : Veil _ := ⟨h.s.map⟩
  obtain ⟨be, hbe⟩ : ∃ be, L.isEmpty = be := ⟨_, rfl⟩
  have HBe : Veil _ := ⟨hbe⟩
  clear h hn hs hK hbe
  refine calls_of_wp_marks Tryz.func38 rfl ?_
  simp only [Tryz.ntmps38, List.size_toArray, List.length_cons, List.length_nil, Nat.reduceAdd, Nat.reduceSub, Array.replicate_succ, Array.replicate_zero, List.push_toArray, List.append_toArray, List.nil_append, List.cons_append]
  cases be
  case true =>
    go_wp2_with (at_lookup; refine wpList_mget_some rfl _ _ 99 false rfl _ _ Tryz.underlying99 Tryz.underlying23 _ (zero_sight _) rfl (HM.out.below (below_al (Below.refl _ _) _)) id rfl _ HS.out (.agg #[.slice a.pp n.ps.length a.cp, .slice a.pk n.ks.length a.ck, .slice a.pd n.ds.length a.cd, .int .i64 ((hh + 1 : Nat) : Int), .bool true]) (by simp only [Sg.v, HBe.out]) ?_)
    refine leaves_none (results_none rfl _ _ _) ?_
    have hb : Below W.heap.size W ((W.alloc (.cells #[.pointer (some ⟨H, 0, none⟩)] 98)).alloc (.cells #[.slice a.pp n.ps.length a.cp, .slice a.pk n.ks.length a.ck, .slice a.pd n.ds.length a.cd, .int .i64 ((hh : Int) + 1), .bool true] 103)) := below_al (below_al (Below.refl _ _) _) _
    obtain rfl : L = [] := List.isEmpty_iff.1 HBe.out
    refine ⟨rfl, v, ?_, GaF.below hb⟩
    rw [List.append_nil]
    exact HG.out.below hb
  go_wp2_with (at_lookup; refine wpList_mget_some rfl _ _ 99 false rfl _ _ Tryz.underlying99 Tryz.underlying23 _ (zero_sight _) rfl (HM.out.below (below_al (Below.refl _ _) _)) id rfl _ HS.out (.agg #[.slice a.pp n.ps.length a.cp, .slice a.pk n.ks.length a.ck, .slice a.pd n.ds.length a.cd, .int .i64 ((hh + 1 : Nat) : Int), .bool false]) (by simp only [Sg.v, HBe.out]) ?_)
  obtain ⟨W3, hW3⟩ : ∃ W3, ((W.alloc (.cells #[.pointer (some ⟨H, 0, none⟩)] 98)).alloc (.cells #[.slice a.pp n.ps.length a.cp, .slice a.pk n.ks.length a.ck, .slice a.pd n.ds.length a.cd, .int .i64 ((hh : Int) + 1), .bool false] 103)).drew = W3 := ⟨_, rfl⟩
  have hb3 : Below W.heap.size W W3 := by rw [← hW3]; exact (below_al (below_al (Below.refl _ _) _) _).drew
  have hx3 : W3.heap[W.heap.size]? = some (.cells #[.pointer (some ⟨H, 0, none⟩)] 98 (0, 0)) := by rw [← hW3]; exact heap_alloc2_old _ _ _
  have hy3 : W3.heap[W.heap.size + 1]? = some (.cells #[.slice a.pp n.ps.length a.cp, .slice a.pk n.ks.length a.ck, .slice a.pd n.ds.length a.cd, .int .i64 ((hh : Int) + 1), .bool false] 103 (0, 0)) := by rw [← hW3]; exact heap_alloc2_new _ _ _
  have HB3 : Veil _ := ⟨hb3⟩
  have HX3 : Veil _ := ⟨hx3⟩
  have HY3 : Veil _ := ⟨hy3⟩
  have HG3 : Veil _ := ⟨HG.out.below hb3⟩
  have HP3 : Veil _ := ⟨(hat.p.below hb3)⟩
  have HL : Veil (acc.length + n.ps.length ≤ 1000000) := ⟨by rw [← hL] at hl; rw [List.length_append] at hl; omega⟩
  have x0 : W3.cell? ⟨W.heap.size, 0, none⟩ = some (.pointer (some ⟨H, 0, none⟩)) := by simp [World.cell?, hx3]
  have y0 : W3.cell? ⟨W.heap.size + 1, 0, none⟩ = some (.slice a.pp n.ps.length a.cp) := cell_whole (cur := [_, _, _, _, _]) hy3 0
  obtain ⟨pv, cv, hv, -, -⟩ := HG.out.o.form
  clear b0 b1 b2 f0 f1 f2 hx3 hy3
  obtain ⟨⟨b0, b1, b2⟩, f0, f1, f2⟩ := box3 HG3.out.b
  have hz3 := hb3.size
  clear hb3
  have hS : W3.cell? ⟨W.heap.size, 0, none⟩ = some (.pointer (some ⟨H, 0, none⟩)) ∧ W3.cell? ⟨W.heap.size + 1, 0, none⟩ = some (.slice a.pp n.ps.length a.cp) ∧ W3.cell? ⟨H, 2, none⟩ = some (.slice pv acc.length cv) := ⟨x0, y0, by rw [← hv]; exact b2⟩
  subst hv
  have HSS : Veil _ := ⟨hS⟩
  have HNe : Veil (∀ j, (Value.slice pv acc.length cv).ownBlock = some j → C0 ≤ j ∧ j < W.heap.size) := ⟨fun j hj => HG.out.o.lt hj⟩
  refine region_plan 9 [(true, 0), (true, 1), (true, 2), (true, 3), (true, 4), (true, 5), (true, 6), (true, 7), (false, 8)] (by kernel_rfl) (by kernel_rfl) (fun w' => w'.cell? ⟨W.heap.size, 0, none⟩ = some (.pointer (some ⟨H, 0, none⟩)) ∧ w'.cell? ⟨W.heap.size + 1, 0, none⟩ = some (.slice a.pp n.ps.length a.cp) ∧ w'.cell? ⟨H, 2, none⟩ = some (.slice pv acc.length cv)) W3 hW3 hS ?_
  clear hW3 hS x0 y0
  simp only [planOps, List.filterMap_cons, List.filterMap_nil, List.getElem?_toArray, List.getElem?_cons_zero, List.getElem?_cons_succ, Option.map_some]
  iterate 8 (refine plan_quiet rfl ?_ ?_ (fun K hK => ?_); rotate_left; (rintro w' ⟨s0, s1, s2⟩; go_simp; rfl); (go_simp; refine hK _ ?_; clear hK K))
  refine plan_change (fun K hK => ?_)
  clear b0 b1 b2 f0 f1 f2
  go_wp2_with (at_builtin; refine wpList_append_els elP rfl (.tmp 18) (.tmp 21) rfl C0 (.slice pv acc.length cv) acc n.ps rfl HG3.out.o a.pp a.cp rfl HP3.out HL.out HG3.out.z ?_; intro v5 w5 hown5 hgrow5 hv5; obtain ⟨p5, c5, rfl, -⟩ := hown5.form; have HO5 : Veil _ := ⟨And.intro hown5 (And.intro hgrow5 hv5)⟩; clear hown5 hgrow5 hv5)
  have hT5 : Turned (fun j => (Value.slice pv acc.length cv).ownBlock = some j) W3 w5 := Turned.grown HO5.out.2.1 (fun j hj _ => hj)
  obtain ⟨t0, t1, t2⟩ := HSS.out
  have HC := HG.out.c
  have HH := HG.out.hl
  refine hK _ _ ⟨hT5.cell t0 (fun e => by have h9 := HNe.out _ e; dsimp only at h9; omega), hT5.cell t1 (fun e => by have h9 := HNe.out _ e; dsimp only at h9; omega), hT5.cell t2 (fun e => by have h9 := HNe.out _ e; dsimp only at h9; omega)⟩ ?_
  clear hK K t0 t1 t2 hT5 HSS
  refine wpPlan_nil ?_
  simp only [List.drop_succ_cons, List.drop_zero]
  have hbx5 := HG3.out.box5 HO5.out.2.1
  obtain ⟨⟨g0, g1, g2⟩, e0, e1, e2⟩ := box3 hbx5
  clear hbx5
  go_wp2
  refine only_normal ?_
  obtain ⟨hG6, hF6⟩ := HG3.out.grown HO5.out.2.1 HO5.out.1 HO5.out.2.2
  have hx6 := hF6.heap HX3.out (by omega) (fun e => by have := HNe.out _ e; omega)
  have hy6 := hF6.heap HY3.out (by omega) (fun e => by have := HNe.out _ e; omega)
  rw [List.length_append] at hx6 hy6 hF6 hG6
  have HF6 : Veil _ := ⟨hF6⟩
  have HG6 : Veil _ := ⟨hG6⟩
  clear hG6 hF6 g0 g1 g2 e0 e1 e2
  generalize w5.setCell ⟨H, 2, none⟩ (.slice p5 (acc.length + n.ps.length) c5) = W6 at HF6 HG6 hx6 hy6 ⊢
  have y0 : W6.cell? ⟨W.heap.size + 1, 0, none⟩ = some (.slice a.pp n.ps.length a.cp) := cell_whole (cur := [_, _, _, _, _]) hy6 0
  have y1 : W6.cell? ⟨W.heap.size + 1, 1, none⟩ = some (.slice a.pk n.ks.length a.ck) := cell_whole (cur := [_, _, _, _, _]) hy6 1
  have y2 : W6.cell? ⟨W.heap.size + 1, 2, none⟩ = some (.slice a.pd n.ds.length a.cd) := cell_whole (cur := [_, _, _, _, _]) hy6 2
  have HX6 : Veil _ := ⟨hx6⟩
  have HN6 : Veil (NdOwn W6 B0 (.slice a.pp n.ps.length a.cp) (.slice a.pk n.ks.length a.ck) (.slice a.pd n.ds.length a.cd) n) := ⟨(HG6.out.s.e id _ HS.out).2.1⟩
  clear hx6 hy6 hat HP3
  go_wp2_with (go_at_call 55; refine (tkids_any _ _ _ _).mono ?_; rintro e W7 ⟨rfl, hW7⟩)
  have hb7 : Below W6.heap.size W6 W7 := by rw [← hW7]; exact below_al (Below.refl _ _) _
  have hz7 : W7.heap.size = W6.heap.size + 1 := by rw [← hW7]; simp
  have hk7 : W7.heap[W6.heap.size]? = some (.cells #[.slice a.pp n.ps.length a.cp, .slice a.pk n.ks.length a.ck, .slice a.pd n.ds.length a.cd] 92 (0, 0)) := by rw [← hW7]; exact heap_alloc_new _ _
  have hx7 : W7.heap[W.heap.size]? = some (.cells #[.pointer (some ⟨H, 0, none⟩)] 98 (0, 0)) := (hb7.block _ (lt_of_heap HX6.out)).trans HX6.out
  have hg7 := HG6.out.below hb7
  have HF7 : Veil _ := ⟨HF6.out.trans (GaF.below hb7)⟩
  have HF0 : Veil _ := ⟨(GaF.below (H := H) (v := .slice pv acc.length cv) HB3.out).trans HF7.out⟩
  have HNe6 : Veil (∀ j, (Value.slice p5 (acc.length + n.ps.length) c5).ownBlock = some j → j < W6.heap.size ∧ (j < W.heap.size ∨ W3.heap.size ≤ j)) := ⟨fun j hj => ⟨(HG6.out.o.lt hj).2, (HF6.out.n j hj).imp (fun e => (HNe.out j e).2) (fun e => e)⟩⟩
  have hz36 : W3.heap.size ≤ W6.heap.size := HF6.out.t.size
  have hs03 : W.heap.size < W3.heap.size := lt_of_heap HX3.out
  have HK7 : Veil _ := ⟨hk7⟩
  have HX7 : Veil _ := ⟨hx7⟩
  have HG7 : Veil _ := ⟨hg7⟩
  obtain ⟨bx, hbx⟩ : ∃ bx, W6.heap.size = bx := ⟨_, rfl⟩
  have HMb := HG.out.s.lo
  have HZc := HG.out.z
  rw [hbx]
  rw [hbx] at HK7 hz36 hz7 HNe6
  clear hW7 hk7 hx7 hg7 hb7
  refine wp_range_seq (gf := 80) (lb := #[.pointer (some ⟨bx, 0, none⟩)]) rfl (enters_of Tryz.func80 (by kernel_rfl) rfl)
    (tkids_seq bx (.slice a.pp n.ps.length a.cp) (.slice a.pk n.ks.length a.ck) a.pd n.ds a.cd (by omega)) (fun k => rfl)
    (fun k A => ∃ vk, GaS pg B0 Mb m H Wb C0 A vk (acc ++ n.ps ++ (KL.take k).flatten) ∧ GaF H (.slice p5 (acc.length + n.ps.length) c5) W7 vk A)
    (fun _ _ _ => False) ?hI (fun _ _ _ _ h _ => h) ?hF ?h0 ?hround ?hdone (fun _ _ _ _ _ _ h => h.elim)
  case hI =>
    rintro k A A' ⟨vk, h1, h2⟩ hb
    exact ⟨vk, h1.booked hb (by omega), h2.booked hb (Nat.le_refl _)⟩
  case hF =>
    rintro k A ⟨vk, h1, h2⟩
    refine ⟨h2.heap HK7.out (by omega) (fun e => by have := (HNe6.out _ e).1; omega), ?_⟩
    obtain ⟨p9, c9, e9, he9, -⟩ := (h1.s.e id _ HS.out).2.1.d.form
    cases e9
    exact he9
  case h0 => exact ⟨_, by simpa using HG7.out, GaF.below (Below.refl _ _)⟩
  case hround =>
    rintro l mm k A hll hlt ⟨vk, h1, h2⟩
    have htk : (KL.take (k + 1)).flatten = (KL.take k).flatten ++ KL.getD k [] := flatten_take_succ KL k (by omega)
    have hle : ((KL.take k).flatten ++ KL.getD k []).length ≤ KL.flatten.length := by
      rw [← htk]
      have := congrArg List.length (congrArg List.flatten (List.take_append_drop (k + 1) KL))
      rw [List.flatten_append, List.length_append] at this
      omega
    have hlen : (acc ++ n.ps ++ (KL.take k).flatten).length + (KL.getD k []).length ≤ 1000000 := by
      rw [← hL] at hl
      simp only [List.length_append] at hl hle ⊢
      omega
    have HTk : Veil _ := ⟨htk⟩
    have HKk : Veil _ := ⟨fun A vj accj => HK.out k hlt A vj accj⟩
    have HLk : Veil _ := ⟨hlen⟩
    have H1 : Veil _ := ⟨h1⟩
    have H2 : Veil _ := ⟨h2⟩
    clear h1 h2 htk hle hlen hl hL
    simp only [handsD, List.zip_cons_cons, List.zip_nil_right, List.foldl_cons, List.foldl_nil, List.setIfInBounds_toArray, List.set_cons_succ, List.set_cons_zero]
    revert HKk
    generalize n.ds.getD k 0 = dk
    intro HKk
    gi_wp2
    refine ⟨KeepsFrom.refl _ _, fun A2 hbk hsz => ?_⟩
    have h1 := H1.out.booked hbk (by omega)
    have h2 := H2.out.booked hbk (Nat.le_refl _)
    have hx := h2.heap HX7.out (by omega) (fun e => by have := HNe6.out _ e; omega)
    have x0 : A2.cell? ⟨W.heap.size, 0, none⟩ = some (.pointer (some ⟨H, 0, none⟩)) := by simp [World.cell?, hx]
    have HA1 : Veil _ := ⟨h1⟩
    have HA2 : Veil _ := ⟨h2⟩
    clear h1 h2 hx hbk hsz H1 H2
    gi_wp2_with (refine calls_round ?_; refine (HKk.out _ _ _ HA1.out HLk.out).mono ?_; rintro e w2 ⟨rfl, v9, hg9, hf9⟩)
    refine ⟨keepsFrom_turned hf9.t ?_, v9, ?_, HA2.out.trans hf9⟩
    · rintro j (hj | hj)
      · exact .inl (by omega)
      · right
        obtain ⟨-, h2⟩ := HA1.out.o
        rcases h2 with ⟨rfl, -⟩ | ⟨g, cap, cur, rfl, -, hh, -⟩
        · cases hj
        · cases hj; exact ⟨_, _, _, hh⟩
    · rw [HTk.out, ← List.append_assoc]
      exact hg9
  case hdone =>
    rintro Dd A hDd ⟨vk, h1, h2⟩ hdd
    have HG8 : Veil _ := ⟨h1⟩
    have HF8 : Veil _ := ⟨h2⟩
    have HD : Veil _ := ⟨hdd⟩
    clear h1 h2 hdd
    go_wp2
    refine leaves_mark (D := Dd) (B := W7.heap.size) HD.out hDd ?_
    intro w' hb _
    refine leaves_none (results_none rfl _ _ _) ?_
    have h1 := HG8.out.booked hb (by omega)
    rw [List.append_assoc, ← hKL, List.take_length, hL] at h1
    exact ⟨rfl, vk, h1, HF0.out.trans (HF8.out.booked hb (Nat.le_refl _))⟩
/-- GATHER: the pairs of a page that was seen, and of those below it. -/
theorem gather_any {pg : Nat → Option Nd} {B0 Mb : Nat} {m : List (Nat × Sg)} {H Wb C0 : Nat} (hpg : ∀ id n, pg id = some n → n.ds.length ≤ 1000) : ∀ (h : Nat) {id : Nat} {n : Nd} {L : List Pr}, Tr pg h id n L → (mget m id).isSome = true → ∀ {W : World} {v : Value} {acc : List Pr}, GaS pg B0 Mb m H Wb C0 W v acc → acc.length + L.length ≤ 1000000 →
    Calls Tryz.prog 38 #[.pointer (some ⟨H, 0, none⟩), .int .u32 id] W (GaQ pg B0 Mb m H Wb C0 W v acc L) := by
  intro h
  induction h with
  | zero =>
    intro id n L hT hs W v acc hG hl
    obtain ⟨s, hs⟩ := Option.isSome_iff_exists.1 hs
    obtain ⟨hTs, -, -⟩ := hG.s.e id s hs
    obtain ⟨-, rfl, rfl⟩ := hT.det hTs
    obtain ⟨e1, e2, e3⟩ := hT
    refine gather_step hs [] (by rw [e2]; rfl) (by rw [e3]; simp) (by rw [e2]; simp) (fun j hj => ?_) hG hl
    rw [e2] at hj
    simp at hj
  | succ h ih =>
    intro id n L hT hs W v acc hG hl
    obtain ⟨s, hs⟩ := Option.isSome_iff_exists.1 hs
    obtain ⟨hTs, -, hk⟩ := hG.s.e id s hs
    obtain ⟨-, rfl, rfl⟩ := hT.det hTs
    obtain ⟨e1, e2, e3, ms, Ls, l1, l2, hsub, e4⟩ := hT
    refine gather_step hs Ls l2 (by rw [e2, e4]; simp) (hpg _ _ e1) (fun j hj A vj accj hA hla => ?_) hG hl
    exact ih (hsub j hj) (hk _ (getD_mem hj 0)) hA hla
end Go.Proofs.YtokbmimbbeedcaaGreatDoor

/- Trees, by the program: a region that draws its order and lays a call's node, in blocks of its own, into a box; beside it an error's box. -/
namespace Go.Proofs.YtokbmimbbeedcaaGreatDoor
open Go Go.RowKit Sm

theorem own_type {α : Type} {E : El α} {w : World} {base : Nat} {v : Value} {L : List α} (h : OwnE E w base v L) {j : Nat} (hj : v.ownBlock = some j) : ∃ cur, w.heap[j]? = some (.cells cur E.ty (0, 0)) := by
  obtain ⟨-, h2⟩ := h
  rcases h2 with ⟨rfl, -⟩ | ⟨g, cap, cur, rfl, -, hh, -⟩
  · cases hj
  · cases hj; exact ⟨_, hh⟩
def OFull (W : World) (B g : Nat) (un : Nd) : Prop := ∃ v1 v2 v3, W.heap[g]? = some (.cells #[v1, v2, v3] 92 (0, 0)) ∧ NdOwn W B v1 v2 v3 un
def EBox (W : World) (g : Nat) : Prop := W.heap[g]? = some (.cells #[.nilIface] 81 (0, 0))
def StepO (B : Nat) (un : Nd) (W W' : World) : Prop := Below W.heap.size W W' ∨ ∃ g, B ≤ g ∧ Box3 W g ∧ OFull W' B g un ∧ Turned (· = g) W W'
section
variable {B g : Nat} {un : Nd} {W W' : World}
theorem StepO.below {S : World} (hI : Below S.heap.size S W) (h : StepO S.heap.size un W W') : Below S.heap.size S W' := by
  rcases h with h | ⟨g, h1, -, -, h4⟩
  · exact hI.trans (h.mono hI.size)
  · exact hI.trans (h4.toBelow hI.size (fun k _ e => by omega))
theorem box3_other {t : TypeId} {cur : Array Value} (hg : Box3 W g) {j : Nat} (hj : W.heap[j]? = some (.cells cur t (0, 0))) (ht : t ≠ 92) : j ≠ g := by
  rintro rfl
  obtain ⟨p1, n1, c1, p2, n2, c2, p3, n3, c3, hg⟩ := hg
  rw [hg] at hj
  simp only [Option.some.injEq, Obj.cells.injEq] at hj
  exact ht hj.2.1.symm
theorem ndown_box {base : Nat} {v1 v2 v3 : Value} {n : Nd} (h : NdOwn W base v1 v2 v3 n) (hg : Box3 W g) (ht : Turned (· = g) W W') : NdOwn W' base v1 v2 v3 n := by
  refine h.apart ht (fun k hk => ?_)
  rcases hk with hk | hk | hk
  · obtain ⟨c, hc⟩ := own_type h.p hk
    exact box3_other hg hc (by decide)
  · obtain ⟨c, hc⟩ := own_type h.k hk
    exact box3_other hg hc (by decide)
  · obtain ⟨c, hc⟩ := own_type h.d hk
    exact box3_other hg hc (by decide)
theorem StepO.own {base : Nat} {v1 v2 v3 : Value} {n : Nd} (h : StepO B un W W') (hn : NdOwn W base v1 v2 v3 n) : NdOwn W' base v1 v2 v3 n := by
  rcases h with h | ⟨g', h1, h2, h3, h4⟩
  · exact hn.below h
  · exact ndown_box hn h2 h4
theorem StepO.box (h : StepO B un W W') (hg : Box3 W g) : Box3 W' g := by
  rcases h with h | ⟨g', h1, h2, ⟨v1, v2, v3, h3, h5⟩, h4⟩
  · exact hg.below h
  · by_cases e : g = g'
    · obtain ⟨a, rfl, rfl, rfl, -, -⟩ := h5.parts
      rw [e]
      exact ⟨_, _, _, _, _, _, _, _, _, h3⟩
    · obtain ⟨p1, n1, c1, p2, n2, c2, p3, n3, c3, hg⟩ := hg
      exact ⟨p1, n1, c1, p2, n2, c2, p3, n3, c3, h4.heap hg e⟩
theorem StepO.err (h : StepO B un W W') (hg : EBox W g) : EBox W' g := by
  rcases h with h | ⟨g', h1, h2, h3, h4⟩
  · exact (h.block _ (lt_of_heap hg)).trans hg
  · exact h4.heap hg (box3_other h2 hg (by decide))
theorem StepO.full (h : StepO B un W W') (hg : OFull W B g un) : OFull W' B g un := by
  obtain ⟨v1, v2, v3, h1, h2⟩ := hg
  have hn := h.own h2
  rcases h with h | ⟨g', k1, k2, k3, k4⟩
  · exact ⟨v1, v2, v3, (h.block _ (lt_of_heap h1)).trans h1, hn⟩
  · by_cases e : g = g'
    · rw [e]; exact k3
    · exact ⟨v1, v2, v3, k4.heap h1 e, hn⟩
theorem ofull_set {a : NdP} (h : NdOwn W B (.slice a.pp un.ps.length a.cp) (.slice a.pk un.ks.length a.ck) (.slice a.pd un.ds.length a.cd) un) (hg : Box3 W g) :
    OFull (((W.setCell ⟨g, 0, none⟩ (.slice a.pp un.ps.length a.cp)).setCell ⟨g, 1, none⟩ (.slice a.pk un.ks.length a.ck)).setCell ⟨g, 2, none⟩ (.slice a.pd un.ds.length a.cd)) B g un ∧
    Turned (· = g) W (((W.setCell ⟨g, 0, none⟩ (.slice a.pp un.ps.length a.cp)).setCell ⟨g, 1, none⟩ (.slice a.pk un.ks.length a.ck)).setCell ⟨g, 2, none⟩ (.slice a.pd un.ds.length a.cd)) := by
  have hT : Turned (· = g) W (((W.setCell ⟨g, 0, none⟩ (.slice a.pp un.ps.length a.cp)).setCell ⟨g, 1, none⟩ (.slice a.pk un.ks.length a.ck)).setCell ⟨g, 2, none⟩ (.slice a.pd un.ds.length a.cd)) := (((Turned.refl (· = g) W).setCell (p := ⟨g, 0, none⟩) rfl _).setCell (p := ⟨g, 1, none⟩) rfl _).setCell (p := ⟨g, 2, none⟩) rfl _
  refine ⟨⟨_, _, _, ?_, ndown_box h hg hT⟩, hT⟩
  obtain ⟨p1, n1, c1, p2, n2, c2, p3, n3, c3, hg⟩ := hg
  exact heap_setCell_at (heap_setCell_at (heap_setCell_at hg 0 _) 1 _) 2 _
end
/-- What an operation tells: a value; a value that the node is in; the box; that it is filled; an error's box. -/
inductive SK where
  | any
  | is (v : Value)
  | nd (f : Value → Value)
  | box
  | full
  | err
def SK.holds (B : Nat) (un : Nd) : SK → Value → Value → World → Prop
  | .any, _, _, _ => True
  | .is x, v, _, _ => v = x
  | .nd f, v, _, W => ∃ a : NdP, v = f (.agg #[.slice a.pp un.ps.length a.cp, .slice a.pk un.ks.length a.ck, .slice a.pd un.ds.length a.cd]) ∧ NdOwn W B (.slice a.pp un.ps.length a.cp) (.slice a.pk un.ks.length a.ck) (.slice a.pd un.ds.length a.cd) un
  | .box, v, _, W => ∃ g, B ≤ g ∧ v = .pointer (some ⟨g, 0, none⟩) ∧ Box3 W g
  | .full, _, u, W => ∃ g, B ≤ g ∧ u = .pointer (some ⟨g, 0, none⟩) ∧ OFull W B g un
  | .err, v, _, W => ∃ g, B ≤ g ∧ v = .pointer (some ⟨g, 0, none⟩) ∧ EBox W g
theorem SK.step {B : Nat} {un : Nd} {W W' : World} (k : SK) (v u : Value) (h : StepO B un W W') (hk : k.holds B un v u W) : k.holds B un v u W' := by
  match k, hk with
  | .any, _ => exact trivial
  | .is x, hk => exact hk
  | .nd f, ⟨a, h1, h2⟩ => exact ⟨a, h1, h.own h2⟩
  | .box, ⟨g, h1, h2, h3⟩ => exact ⟨g, h1, h2, h.box h3⟩
  | .full, ⟨g, h1, h2, h3⟩ => exact ⟨g, h1, h2, h.full h3⟩
  | .err, ⟨g, h1, h2, h3⟩ => exact ⟨g, h1, h2, h.err h3⟩
def skAt (B : Nat) (un : Nd) (ks : List SK) (i : Nat) (v u : Value) (W : World) : Prop := (ks.getD i .any).holds B un v u W
def pm12 (i : Nat) : Nat := if i = 12 then 10 else i

/-! ### What a survey stands on -/
structure SuS (k : Wk) (pg : Nat → Option Nd) (B0 Mb H Wb root : Nat) (al : Al) (p : Option Addr) (cp : Nat) (told : Int) (m : List (Nat × Sg)) (W : World) : Prop where
  s : Sv pg B0 Mb m W
  b : W.heap[H]? = some (.cells #[.pointer (some ⟨Wb, 0, none⟩), .map (some Mb), .slice none 0 0] 101 (0, 0))
  wk : W.heap[Wb]? = some (.cells (wkCells k root al p cp told) 78 (0, 0))
  o : MapAt W k.bo Pg.v k.own
  hl : H < B0
  wl : Wb < B0
  ol : k.bo < B0
  ne : H ≠ Mb
  we : Wb ≠ Mb
  oe : k.bo ≠ Mb
section
variable {k : Wk} {pg : Nat → Option Nd} {B0 Mb H Wb root : Nat} {al : Al} {p : Option Addr} {cp : Nat} {told : Int} {m m' : List (Nat × Sg)} {W W' : World}
/-- Blocks from B on are turned, that hold none of it. -/
theorem SuS.turned {F : Nat → Prop} (h : SuS k pg B0 Mb H Wb root al p cp told m W) (ht : Turned F W W') (hF : ∀ j, j < B0 → ¬ F j) (hO : ∀ x s, mget m x = some s → ∀ j, (s.v1.ownBlock = some j ∨ s.v2.ownBlock = some j ∨ s.v3.ownBlock = some j) → ¬ F j) : SuS k pg B0 Mb H Wb root al p cp told m W' :=
  ⟨h.s.turned ht (hF _ h.s.lo) hO, ht.heap h.b (hF _ h.hl), ht.heap h.wk (hF _ h.wl), h.o.turned ht (hF _ h.ol), h.hl, h.wl, h.ol, h.ne, h.we, h.oe⟩
theorem SuS.below (h : SuS k pg B0 Mb H Wb root al p cp told m W) (hb : Below W.heap.size W W') : SuS k pg B0 Mb H Wb root al p cp told m W' :=
  h.turned (Turned.new hb : Turned (fun _ => False) W W') (fun _ _ h => h) (fun _ _ _ _ _ h => h)
theorem SuS.booked {B : Nat} (h : SuS k pg B0 Mb H Wb root al p cp told m W) (hb : Booked B W W') (hB : B0 ≤ B) : SuS k pg B0 Mb H Wb root al p cp told m W' := by
  have := h.s.lo
  have := h.ol
  exact ⟨h.s.booked hb (by omega), hb.heap h.b, hb.heap h.wk, h.o.booked hb (by omega), h.hl, h.wl, h.ol, h.ne, h.we, h.oe⟩
theorem SuS.put (h : SuS k pg B0 Mb H Wb root al p cp told m W) {x : Nat} {s : Sg} (hT : Tr pg s.h x s.n s.L) (hn : NdOwn W B0 s.v1 s.v2 s.v3 s.n) (hd : ∀ d ∈ s.n.ds, (mget m d).isSome = true) (hM : MapAt W' Mb Sg.v (mput m x s)) (ht : Turned (· = Mb) W W') : SuS k pg B0 Mb H Wb root al p cp told (mput m x s) W' :=
  ⟨h.s.put hT hn hd hM ht, ht.heap h.b h.ne, ht.heap h.wk h.we, h.o.turned ht h.oe, h.hl, h.wl, h.ol, h.ne, h.we, h.oe⟩
end
/-- What a survey answers: the sight; it is seen, as is all that was. -/
def SuQ (k : Wk) (pg : Nat → Option Nd) (B0 Mb H Wb root : Nat) (al : Al) (p : Option Addr) (cp : Nat) (told : Int) (m : List (Nat × Sg)) (W : World) (id h : Nat) (n : Nd) (L : List Pr) (e : Ending) (W' : World) : Prop :=
  ∃ v1 v2 v3 m', e = .returned (.tuple #[.agg #[v1, v2, v3, .int .i64 ((h + 1 : Nat) : Int), .bool L.isEmpty], .nilIface]) ∧ NdOwn W' B0 v1 v2 v3 n ∧ SuS k pg B0 Mb H Wb root al p cp told m' W' ∧ (mget m' id).isSome = true ∧ (∀ x, (mget m x).isSome = true → (mget m' x).isSome = true) ∧ Turned (· = Mb) W W'
end Go.Proofs.YtokbmimbbeedcaaGreatDoor

/- Trees, by the program: survey. -/
namespace Go.Proofs.YtokbmimbbeedcaaGreatDoor
open Go Go.RowKit Sm
attribute [local go_sem] Oper.semAt_some

theorem pack5 {w : World} {g : Nat} {a0 a1 a2 a3 a4 : Value} {t : TypeId} (h : w.heap[g]? = some (.cells #[a0, a1, a2, a3, a4] t (0, 0))) :
    (w.cell? ⟨g, 0, none⟩ = some a0 ∧ w.cell? ⟨g, 1, none⟩ = some a1 ∧ w.cell? ⟨g, 2, none⟩ = some a2 ∧ w.cell? ⟨g, 3, none⟩ = some a3 ∧ w.cell? ⟨g, 4, none⟩ = some a4) ∧ (w.frozen? ⟨g, 0, none⟩ = false ∧ w.frozen? ⟨g, 1, none⟩ = false ∧ w.frozen? ⟨g, 2, none⟩ = false ∧ w.frozen? ⟨g, 3, none⟩ = false ∧ w.frozen? ⟨g, 4, none⟩ = false) := by
  have h' : w.heap[g]? = some (.cells [a0, a1, a2, a3, a4].toArray t (0, 0)) := h
  exact ⟨⟨cell_whole h' 0, cell_whole h' 1, cell_whole h' 2, cell_whole h' 3, cell_whole h' 4⟩, frozen_whole h _, frozen_whole h _, frozen_whole h _, frozen_whole h _, frozen_whole h _⟩
theorem results_sight {fn : Func} {p q : Tmp} {tmps : Array Value} {w : World} {g : Nat} {x0 x1 x2 x3 x4 y : Value} (h : fn.results = #[.cell p 103, .tmp q]) (hp : tmps.getD p undef = .pointer (some ⟨g, 0, none⟩)) (hq : tmps.getD q undef = y) (hg : w.heap[g]? = some (.cells #[x0, x1, x2, x3, x4] 103 (0, 0))) :
    (results fn tmps).run Tryz.prog w = .ok (.tuple #[.agg #[x0, x1, x2, x3, x4], y]) w := by
  have hp' : tmps[p]?.getD undef = .pointer (some ⟨g, 0, none⟩) := by simpa using hp
  have hq' : tmps[q]?.getD undef = y := by simpa using hq
  obtain ⟨⟨c0, c1, c2, c3, c4⟩, -⟩ := pack5 hg
  simp [results, h, go_sem, hp', hq', c0, c1, c2, c3, c4]

/-- The boxes that a survey begins with. -/
structure Su0 (H lev : Nat) (W : World) (g0 g1 g2 : Nat) (W1 : World) : Prop where
  b : Below W.heap.size W W1
  h0 : W.heap.size ≤ g0
  x0 : W1.heap[g0]? = some (.cells #[.pointer (some ⟨H, 0, none⟩)] 98 (0, 0))
  x1 : W1.heap[g1]? = some (.cells #[.int .i64 lev] 3 (0, 0))
  x2 : W1.heap[g2]? = some (.cells #[.slice none 0 0, .slice none 0 0, .slice none 0 0, .int .i64 0, .bool false] 103 (0, 0))
  n : g0 < g1 ∧ g1 < g2
theorem su0_made (H lev : Nat) (W : World) : Su0 H lev W W.heap.size (W.heap.size + 1) (W.heap.size + 1 + 1) (((W.alloc (.cells #[.pointer (some ⟨H, 0, none⟩)] 98)).alloc (.cells #[.int .i64 lev] 3)).alloc (.cells #[.slice none 0 0, .slice none 0 0, .slice none 0 0, .int .i64 0, .bool false] 103)) := by
  refine ⟨below_al (below_al (below_al (Below.refl _ _) _) _) _, Nat.le_refl _, ?_, ?_, ?_, by omega, by omega⟩ <;>
  · simp only [heap_alloc_if, World.size_alloc]
    repeat (first | rw [if_neg (by omega)] | rw [if_pos (by first | trivial | omega)])
theorem cells1 {w : World} {g : Nat} {a0 : Value} {t : TypeId} (h : w.heap[g]? = some (.cells #[a0] t (0, 0))) : w.cell? ⟨g, 0, none⟩ = some a0 ∧ w.frozen? ⟨g, 0, none⟩ = false := by
  have h' : w.heap[g]? = some (.cells [a0].toArray t (0, 0)) := h
  exact ⟨cell_whole h' 0, frozen_whole h _⟩
theorem set5 {W : World} {g : Nat} {a0 a1 a2 a3 a4 : Value} {t : TypeId} (h : W.heap[g]? = some (.cells #[a0, a1, a2, a3, a4] t (0, 0))) (u0 u1 u2 u3 u4 : Value) : (((((W.setCell ⟨g, 0, none⟩ u0).setCell ⟨g, 1, none⟩ u1).setCell ⟨g, 2, none⟩ u2).setCell ⟨g, 3, none⟩ u3).setCell ⟨g, 4, none⟩ u4).heap[g]? = some (.cells #[u0, u1, u2, u3, u4] t (0, 0)) ∧ Turned (· = g) W (((((W.setCell ⟨g, 0, none⟩ u0).setCell ⟨g, 1, none⟩ u1).setCell ⟨g, 2, none⟩ u2).setCell ⟨g, 3, none⟩ u3).setCell ⟨g, 4, none⟩ u4) :=
  ⟨heap_setCell_at (heap_setCell_at (heap_setCell_at (heap_setCell_at (heap_setCell_at h 0 _) 1 _) 2 _) 3 _) 4 _, (((((Turned.refl (· = g) W).setCell (p := ⟨g, 0, none⟩) rfl _).setCell (p := ⟨g, 1, none⟩) rfl _).setCell (p := ⟨g, 2, none⟩) rfl _).setCell (p := ⟨g, 3, none⟩) rfl _).setCell (p := ⟨g, 4, none⟩) rfl _⟩
section
variable {k : Wk} {pg : Nat → Option Nd} {B0 Mb H Wb root : Nat} {al : Al} {p : Option Addr} {cp : Nat} {told : Int} {m : List (Nat × Sg)} {W : World}
set_option maxRecDepth 20000 in
set_option maxHeartbeats 4000000 in
/-- A page that was seen. -/
theorem survey_seen (hS : SuS k pg B0 Mb H Wb root al p cp told m W) {id h : Nat} {n : Nd} {L : List Pr} (hT : Tr pg h id n L) (hs : (mget m id).isSome = true) (lev : Nat) (hlv : lev + h ≤ 64) : Calls Tryz.prog 37 #[.pointer (some ⟨H, 0, none⟩), .int .u32 id, .int .i64 lev] W (SuQ k pg B0 Mb H Wb root al p cp told m W id h n L) := by
  obtain ⟨s, hs⟩ := Option.isSome_iff_exists.1 hs
  obtain ⟨hTs, hn, hk⟩ := hS.s.e id s hs
  obtain ⟨rfl, rfl, rfl⟩ := hT.det hTs
  obtain ⟨v1, v2, v3, n, h, L⟩ := s
  dsimp only at *
  obtain ⟨a, rfl, rfl, rfl, -, -⟩ := hn.parts
  have hlH := lt_of_heap hS.b
  have HS : Veil _ := ⟨hS⟩
  have HN : Veil _ := ⟨hn⟩
  have HG : Veil _ := ⟨hs⟩
  obtain ⟨be, hbe⟩ : ∃ be, L.isEmpty = be := ⟨_, rfl⟩
  have HBe : Veil _ := ⟨hbe⟩
  have hw1 : IntKind.i64.wrap ((lev : Int) + ((h : Int) + 1)) = (lev : Int) + ((h : Int) + 1) := by rw [IntKind.wrap_i64]; omega
  have hw2 : IntKind.i64.wrap ((lev : Int) + ((h : Int) + 1) - 1) = (lev : Int) + ((h : Int) + 1) - 1 := by rw [IntKind.wrap_i64]; omega
  have hle : (lev : Int) + ((h : Int) + 1) - 1 ≤ 64 := by omega
  have H0 : Veil _ := ⟨su0_made H lev W⟩
  clear hS hn hs hT hTs hk hbe
  refine calls_of_wp_marks Tryz.func37 rfl ?_
  simp only [Tryz.ntmps37, List.size_toArray, List.length_cons, List.length_nil, Nat.reduceAdd, Nat.reduceSub, Array.replicate_succ, Array.replicate_zero, List.push_toArray, List.append_toArray, List.nil_append, List.cons_append]
  go_wp2
  revert H0
  generalize ((W.alloc (.cells #[.pointer (some ⟨H, 0, none⟩)] 98)).alloc (.cells #[.int .i64 lev] 3)).alloc (.cells #[.slice none 0 0, .slice none 0 0, .slice none 0 0, .int .i64 0, .bool false] 103) = W1
  generalize W.heap.size + 1 + 1 = g2
  generalize W.heap.size + 1 = g1
  generalize hg0 : W.heap.size = g0
  intro H0
  have HS1 : Veil _ := ⟨HS.out.below H0.out.b⟩
  have HM : Veil _ := ⟨HS1.out.s.map⟩
  obtain ⟨⟨b0, b1, b2⟩, -⟩ := box3 HS1.out.b
  obtain ⟨x0, -⟩ := cells1 H0.out.x0
  obtain ⟨x1, -⟩ := cells1 H0.out.x1
  have hl2 := lt_of_heap H0.out.x2
  have hn01 := H0.out.n
  have hne1 : g2 ≠ W1.heap.size := by omega
  obtain ⟨⟨y0, y1, y2, y3, y4⟩, z0, z1, z2, z3, z4⟩ := pack5 H0.out.x2
  have hl1 := lt_of_heap H0.out.x1
  have hl0 := lt_of_heap H0.out.x0
  have hlH1 := lt_of_heap HS1.out.b
  go_step3
  go_wp2_with (at_lookup; refine wpList_mget_some rfl _ _ 99 true rfl _ _ Tryz.underlying99 Tryz.underlying23 _ (zero_sight _) rfl HM.out id rfl _ HG.out (.agg #[.slice a.pp n.ps.length a.cp, .slice a.pk n.ks.length a.ck, .slice a.pd n.ds.length a.cd, .int .i64 ((h : Int) + 1), .bool be]) (by simp only [Sg.v, HBe.out]; rfl) ?_)
  rw [Exit.noGoto_ret]
  obtain ⟨hx, hT⟩ := set5 H0.out.x2 (.slice a.pp n.ps.length a.cp) (.slice a.pk n.ks.length a.ck) (.slice a.pd n.ds.length a.cd) (.int .i64 ((h : Int) + 1)) (.bool be)
  have hg00 := H0.out.h0
  have hlt3 := lt_of_heap hx
  have hb3 : Below W.heap.size W _ := H0.out.b.trans (hT.toBelow H0.out.b.size (fun j hj e => by have e : j = g2 := e; omega))
  have hb4 := below_al hb3 (.cells #[.slice a.pp n.ps.length a.cp, .slice a.pk n.ks.length a.ck, .slice a.pd n.ds.length a.cd, .int .i64 ((h : Int) + 1), .bool be] 103)
  refine leaves_none (results_sight (g := g2) rfl rfl rfl (((below_al (Below.refl _ _) _).block _ hlt3).trans hx)) ?_
  exact ⟨_, _, _, m, by rw [HBe.out]; rfl, HN.out.below hb4, HS.out.below hb4, by rw [HG.out]; rfl, fun _ h => h, Turned.new hb4⟩
end
end Go.Proofs.YtokbmimbbeedcaaGreatDoor

/- Trees, by the program: survey, between two kids. -/
namespace Go.Proofs.YtokbmimbbeedcaaGreatDoor
open Go Go.RowKit Sm

/-- What a row of elements is not laid in. -/
def NoRow (t : TypeId) : Prop := t ≠ elP.ty ∧ t ≠ elK.ty ∧ t ≠ elD.ty
theorem norow_err : NoRow 81 := by unfold NoRow; decide
theorem norow_sight : NoRow 103 := by unfold NoRow; decide
theorem own_other {W : World} {B g : Nat} {v1 v2 v3 : Value} {n : Nd} {cur : Array Value} {t : TypeId} (h : NdOwn W B v1 v2 v3 n) (hg : W.heap[g]? = some (.cells cur t (0, 0))) (ht : NoRow t) : ∀ j, (v1.ownBlock = some j ∨ v2.ownBlock = some j ∨ v3.ownBlock = some j) → ¬ j = g := by
  have key : ∀ (E : TypeId) c, t ≠ E → W.heap[g]? = some (.cells c E (0, 0)) → False := fun E c hE h => by
    rw [hg] at h
    simp only [Option.some.injEq, Obj.cells.injEq] at h
    exact hE h.2.1
  rintro j (hj | hj | hj) rfl
  · obtain ⟨c, hc⟩ := own_type h.p hj; exact key _ _ ht.1 hc
  · obtain ⟨c, hc⟩ := own_type h.k hj; exact key _ _ ht.2.1 hc
  · obtain ⟨c, hc⟩ := own_type h.d hj; exact key _ _ ht.2.2 hc
/-- Between two kids. -/
structure SuI (k : Wk) (pg : Nat → Option Nd) (B0 Mb H Wb root : Nat) (al : Al) (p : Option Addr) (cp : Nat) (told : Int) (W : World) (lev : Nat) (n : Nd) (v1 v2 v3 : Value) (g0 g1 g2 g11 g12 : Nat) (lv : Int) (be : Bool) (m : List (Nat × Sg)) (A : World) : Prop where
  s : SuS k pg B0 Mb H Wb root al p cp told m A
  x0 : A.heap[g0]? = some (.cells #[.pointer (some ⟨H, 0, none⟩)] 98 (0, 0))
  x1 : A.heap[g1]? = some (.cells #[.int .i64 lev] 3 (0, 0))
  x2 : A.heap[g2]? = some (.cells #[.slice none 0 0, .slice none 0 0, .slice none 0 0, .int .i64 0, .bool false] 103 (0, 0))
  e : EBox A g11
  x12 : A.heap[g12]? = some (.cells #[v1, v2, v3, .int .i64 lv, .bool be] 103 (0, 0))
  o : NdOwn A B0 v1 v2 v3 n
  t : Turned (· = Mb) W A
  z : W.heap.size ≤ g0 ∧ W.heap.size ≤ g1 ∧ W.heap.size ≤ g2 ∧ W.heap.size ≤ g11 ∧ W.heap.size ≤ g12
  b : B0 ≤ W.heap.size
  nb : g0 ≠ g12 ∧ g1 ≠ g12 ∧ g2 ≠ g12 ∧ g11 ≠ g12 ∧ g0 ≠ g11 ∧ g1 ≠ g11 ∧ g2 ≠ g11
section
variable {k : Wk} {pg : Nat → Option Nd} {B0 Mb H Wb root : Nat} {al : Al} {p : Option Addr} {cp : Nat} {told : Int} {W : World} {lev : Nat} {n : Nd} {v1 v2 v3 : Value} {g0 g1 g2 g11 g12 : Nat} {lv : Int} {be : Bool} {m m' : List (Nat × Sg)} {A A' : World}
theorem SuS.box (h : SuS k pg B0 Mb H Wb root al p cp told m A) {g : Nat} {cur : Array Value} {t : TypeId} (hg : A.heap[g]? = some (.cells cur t (0, 0))) (ht : NoRow t) (hB : B0 ≤ g) (hT : Turned (· = g) A A') : SuS k pg B0 Mb H Wb root al p cp told m A' :=
  h.turned hT (fun j hj e => by omega) (fun x s hs j hj => own_other (h.s.e x s hs).2.1 hg ht j hj)
theorem SuI.below (h : SuI k pg B0 Mb H Wb root al p cp told W lev n v1 v2 v3 g0 g1 g2 g11 g12 lv be m A) (hb : Below A.heap.size A A') : SuI k pg B0 Mb H Wb root al p cp told W lev n v1 v2 v3 g0 g1 g2 g11 g12 lv be m A' :=
  ⟨h.s.below hb, (hb.block _ (lt_of_heap h.x0)).trans h.x0, (hb.block _ (lt_of_heap h.x1)).trans h.x1, (hb.block _ (lt_of_heap h.x2)).trans h.x2, (hb.block _ (lt_of_heap h.e)).trans h.e, (hb.block _ (lt_of_heap h.x12)).trans h.x12, h.o.below hb, h.t.trans (Turned.new hb), h.z, h.b, h.nb⟩
theorem SuI.booked {B : Nat} (h : SuI k pg B0 Mb H Wb root al p cp told W lev n v1 v2 v3 g0 g1 g2 g11 g12 lv be m A) (hb : Booked B A A') (hB : W.heap.size ≤ B) : SuI k pg B0 Mb H Wb root al p cp told W lev n v1 v2 v3 g0 g1 g2 g11 g12 lv be m A' :=
  ⟨h.s.booked hb (Nat.le_trans h.b hB), hb.heap h.x0, hb.heap h.x1, hb.heap h.x2, hb.heap h.e, hb.heap h.x12, h.o.booked hb, hb.turned h.t hB, h.z, h.b, h.nb⟩
/-- A kid was surveyed. -/
theorem SuI.call (h : SuI k pg B0 Mb H Wb root al p cp told W lev n v1 v2 v3 g0 g1 g2 g11 g12 lv be m A) (hs : SuS k pg B0 Mb H Wb root al p cp told m' A') (ht : Turned (· = Mb) A A') : SuI k pg B0 Mb H Wb root al p cp told W lev n v1 v2 v3 g0 g1 g2 g11 g12 lv be m' A' := by
  have hz := h.z
  have hb := h.b
  have hm := h.s.s.lo
  refine ⟨hs, ht.heap h.x0 (by omega), ht.heap h.x1 (by omega), ht.heap h.x2 (by omega), ht.heap h.e (by omega), ht.heap h.x12 (by omega), h.o.apart ht (fun j hj e => ?_), h.t.trans ht, h.z, h.b, h.nb⟩
  have : B0 ≤ j := by
    rcases hj with hj | hj | hj
    · exact (h.o.p.lt hj).1
    · exact (h.o.k.lt hj).1
    · exact (h.o.d.lt hj).1
  omega
/-- Another box is laid. -/
theorem SuI.other (h : SuI k pg B0 Mb H Wb root al p cp told W lev n v1 v2 v3 g0 g1 g2 g11 g12 lv be m A) {g : Nat} {cur : Array Value} {t : TypeId} (hg : A.heap[g]? = some (.cells cur t (0, 0))) (hn : NoRow t) (hz : W.heap.size ≤ g) (hne : g0 ≠ g ∧ g1 ≠ g ∧ g2 ≠ g ∧ g11 ≠ g ∧ g12 ≠ g) (ht : Turned (· = g) A A') : SuI k pg B0 Mb H Wb root al p cp told W lev n v1 v2 v3 g0 g1 g2 g11 g12 lv be m A' :=
  ⟨h.s.box hg hn (Nat.le_trans h.b hz) ht, ht.heap h.x0 hne.1, ht.heap h.x1 hne.2.1, ht.heap h.x2 hne.2.2.1, ht.heap h.e hne.2.2.2.1, ht.heap h.x12 hne.2.2.2.2, h.o.apart ht (own_other h.o hg hn), h.t.then ht (fun j hj e => by omega), h.z, h.b, h.nb⟩
/-- The error's box is laid as it was. -/
theorem SuI.err (h : SuI k pg B0 Mb H Wb root al p cp told W lev n v1 v2 v3 g0 g1 g2 g11 g12 lv be m A) : SuI k pg B0 Mb H Wb root al p cp told W lev n v1 v2 v3 g0 g1 g2 g11 g12 lv be m (A.setCell ⟨g11, 0, none⟩ .nilIface) := by
  have ht : Turned (· = g11) A (A.setCell ⟨g11, 0, none⟩ .nilIface) := (Turned.refl (· = g11) A).setCell (p := ⟨g11, 0, none⟩) rfl _
  have hz := h.z
  have hnb := h.nb
  exact ⟨h.s.box h.e norow_err (Nat.le_trans h.b (by omega)) ht, ht.heap h.x0 (by omega), ht.heap h.x1 (by omega), ht.heap h.x2 (by omega), heap_setCell_at h.e 0 _, ht.heap h.x12 (by omega), h.o.apart ht (own_other h.o h.e norow_err), h.t.then ht (fun j hj e => by omega), h.z, h.b, h.nb⟩
theorem SuI.layLv (h : SuI k pg B0 Mb H Wb root al p cp told W lev n v1 v2 v3 g0 g1 g2 g11 g12 lv be m A) (lv' : Int) : SuI k pg B0 Mb H Wb root al p cp told W lev n v1 v2 v3 g0 g1 g2 g11 g12 lv' be m (A.setCell ⟨g12, 3, none⟩ (.int .i64 lv')) := by
  have ht : Turned (· = g12) A (A.setCell ⟨g12, 3, none⟩ (.int .i64 lv')) := (Turned.refl (· = g12) A).setCell (p := ⟨g12, 3, none⟩) rfl _
  have hz := h.z
  have hnb := h.nb
  exact ⟨h.s.box h.x12 norow_sight (Nat.le_trans h.b (by omega)) ht, ht.heap h.x0 (by omega), ht.heap h.x1 (by omega), ht.heap h.x2 (by omega), ht.heap h.e (by omega), heap_setCell_at h.x12 3 _, h.o.apart ht (own_other h.o h.x12 norow_sight), h.t.then ht (fun j hj e => by omega), h.z, h.b, h.nb⟩
theorem SuI.layBe (h : SuI k pg B0 Mb H Wb root al p cp told W lev n v1 v2 v3 g0 g1 g2 g11 g12 lv be m A) (be' : Bool) : SuI k pg B0 Mb H Wb root al p cp told W lev n v1 v2 v3 g0 g1 g2 g11 g12 lv be' m (A.setCell ⟨g12, 4, none⟩ (.bool be')) := by
  have ht : Turned (· = g12) A (A.setCell ⟨g12, 4, none⟩ (.bool be')) := (Turned.refl (· = g12) A).setCell (p := ⟨g12, 4, none⟩) rfl _
  have hz := h.z
  have hnb := h.nb
  exact ⟨h.s.box h.x12 norow_sight (Nat.le_trans h.b (by omega)) ht, ht.heap h.x0 (by omega), ht.heap h.x1 (by omega), ht.heap h.x2 (by omega), ht.heap h.e (by omega), heap_setCell_at h.x12 4 _, h.o.apart ht (own_other h.o h.x12 norow_sight), h.t.then ht (fun j hj e => by omega), h.z, h.b, h.nb⟩
end
end Go.Proofs.YtokbmimbbeedcaaGreatDoor

/- Trees, by the program: survey of a page not seen. -/
namespace Go.Proofs.YtokbmimbbeedcaaGreatDoor
open Go Go.RowKit Sm
attribute [local go_sem] Oper.semAt_some

section
variable {k : Wk} {pg : Nat → Option Nd} {B0 Mb H Wb root : Nat} {al : Al} {p : Option Addr} {cp : Nat} {told : Int} {m : List (Nat × Sg)} {W : World}
set_option maxRecDepth 20000 in
set_option maxHeartbeats 4000000 in
theorem survey_new (hS : SuS k pg B0 Mb H Wb root al p cp told m W) (hB0 : B0 ≤ W.heap.size) {id h : Nat} {n : Nd} {L : List Pr} (hT : Tr pg h id n L) (hns : mget m id = none) (hN : NodeIs k id n) (lev : Nat) (hlv : lev + h ≤ 64)
    (KL : List (List Pr)) (hKL : KL.length = n.ds.length) (hL : n.ps ++ KL.flatten = L) (hd : n.ds.length ≤ 1000) (hh0 : n.ds = [] → h = 0) (hh1 : n.ds ≠ [] → 1 ≤ h) (ms : List Nd)
    (hK : ∀ j, j < n.ds.length → ∀ A m', SuS k pg B0 Mb H Wb root al p cp told m' A → Calls Tryz.prog 37 #[.pointer (some ⟨H, 0, none⟩), .int .u32 (n.ds.getD j 0 : Nat), .int .i64 ((lev + 1 : Nat) : Int)] A (SuQ k pg B0 Mb H Wb root al p cp told m' A (n.ds.getD j 0) (h - 1) (ms.getD j Nd.zero) (KL.getD j []))) :
    Calls Tryz.prog 37 #[.pointer (some ⟨H, 0, none⟩), .int .u32 id, .int .i64 lev] W (SuQ k pg B0 Mb H Wb root al p cp told m W id h n L) := by
  have HS : Veil _ := ⟨hS⟩
  have HNs : Veil _ := ⟨hns⟩
  have HNi : Veil _ := ⟨hN⟩
  have HT : Veil _ := ⟨hT⟩
  have HK : Veil _ := ⟨hK⟩
  have H0 : Veil _ := ⟨su0_made H lev W⟩
  clear hS hT hns hN hK
  refine calls_of_wp_marks Tryz.func37 rfl ?_
  simp only [Tryz.ntmps37, List.size_toArray, List.length_cons, List.length_nil, Nat.reduceAdd, Nat.reduceSub, Array.replicate_succ, Array.replicate_zero, List.push_toArray, List.append_toArray, List.nil_append, List.cons_append]
  go_wp2
  revert H0
  generalize ((W.alloc (.cells #[.pointer (some ⟨H, 0, none⟩)] 98)).alloc (.cells #[.int .i64 lev] 3)).alloc (.cells #[.slice none 0 0, .slice none 0 0, .slice none 0 0, .int .i64 0, .bool false] 103) = W1
  generalize W.heap.size + 1 + 1 = g2
  generalize W.heap.size + 1 = g1
  generalize hg0 : W.heap.size = g0
  intro H0
  have HS1 : Veil _ := ⟨HS.out.below H0.out.b⟩
  have HM : Veil _ := ⟨HS1.out.s.map⟩
  obtain ⟨⟨b0, b1, b2⟩, -⟩ := box3 HS1.out.b
  obtain ⟨x0, -⟩ := cells1 H0.out.x0
  have hl1 := lt_of_heap H0.out.x1
  have hl0 := lt_of_heap H0.out.x0
  have hlH1 := lt_of_heap HS1.out.b
  go_step3
  go_wp2_with (at_lookup; refine wpList_mget_none rfl _ _ 99 true rfl _ _ Tryz.underlying99 Tryz.underlying23 _ (zero_sight _) rfl HM.out id rfl HNs.out ?_)
  obtain ⟨W2, hW2⟩ : ∃ W2, W1.alloc (.cells #[.slice none 0 0, .slice none 0 0, .slice none 0 0, .int .i64 0, .bool false] 103) = W2 := ⟨_, rfl⟩
  have hb12 : Below W1.heap.size W1 W2 := by rw [← hW2]; exact below_al (Below.refl _ _) _
  rw [hW2]
  have HB12 : Veil _ := ⟨hb12⟩
  have HS2 : Veil _ := ⟨HS1.out.below hb12⟩
  have HB0 : Veil (Below W2.heap.size W2 W2.drew) := ⟨(Below.refl _ _).drew⟩
  have hy0 := (hb12.block _ hl0).trans H0.out.x0
  have hy1 := (hb12.block _ hl1).trans H0.out.x1
  have HY2 : Veil _ := ⟨(hb12.block _ (lt_of_heap H0.out.x2)).trans H0.out.x2⟩
  have HY0 : Veil _ := ⟨hy0⟩
  have HY1 : Veil _ := ⟨hy1⟩
  have HC : Veil (∀ V, Below W2.heap.size W2 V → V.cell? ⟨g0, 0, none⟩ = some (.pointer (some ⟨H, 0, none⟩)) ∧ V.cell? ⟨g1, 0, none⟩ = some (.int .i64 lev) ∧ V.cell? ⟨H, 0, none⟩ = some (.pointer (some ⟨Wb, 0, none⟩))) := ⟨fun V hV => ⟨(cells1 ((hV.block _ (lt_of_heap HY0.out)).trans HY0.out)).1, (cells1 ((hV.block _ (lt_of_heap HY1.out)).trans HY1.out)).1, (box3 (HS2.out.below hV).b).1.1⟩⟩
  have HNo : Veil (∀ V, Below W2.heap.size W2 V → Calls Tryz.prog 48 #[.pointer (some ⟨Wb, 0, none⟩), .int .u32 id, .int .i64 lev] V fun e w' => ∃ a : NdP, e = .returned (.tuple #[.agg #[.slice a.pp n.ps.length a.cp, .slice a.pk n.ks.length a.ck, .slice a.pd n.ds.length a.cd], .nilIface]) ∧ NdOwn w' W2.heap.size (.slice a.pp n.ps.length a.cp) (.slice a.pk n.ks.length a.ck) (.slice a.pd n.ds.length a.cd) n ∧ Below V.heap.size V w') := ⟨fun V hV => by
    have hs := HS2.out.below hV
    refine (wnode_any hs.wk hs.o id lev (by omega) HNi.out).mono ?_
    rintro e w' ⟨v1, v2, v3, rfl, ho, hb⟩
    obtain ⟨a, rfl, rfl, rfl, -, -⟩ := ho.parts
    exact ⟨a, rfl, ho.less hV.size, hb⟩⟩
  clear hW2 hb12 hy0 hy1 b0 b1 b2 x0
  refine region_pair 13
    [[], [(0, 35)], [(1, 36)], [(2, 37)], [], [], [(3, 38), (4, 39), (5, 40)], [(6, 41)], [(7, 34)], [(7, 34)], [], [], [(8, 42), (10, 10)]]
    [[], [0], [1], [2], [], [], [3, 4, 5], [6], [7], [7], [], [], [0, 1, 2, 3, 4, 5, 6, 7, 8, 10, 11]]
    [(0, 35), (1, 36), (2, 37), (3, 38), (4, 39), (5, 40), (6, 41), (7, 34), (8, 42), (9, 43), (10, 10), (11, 11)]
    (StepO W2.heap.size n) (fun W => Below W2.heap.size W2 W) (skAt W2.heap.size n [.is (.pointer (some ⟨H, 0, none⟩)), .is (.pointer (some ⟨H, 0, none⟩)), .is (.pointer (some ⟨H, 0, none⟩)), .is (.pointer (some ⟨Wb, 0, none⟩)), .is (.int .u32 id), .is (.int .i64 lev), .nd (fun x => .tuple #[x, .nilIface]), .nd (fun x => .tuple #[x, .nilIface]), .nd (fun x => x), .is (.nilIface), .box, .err, .full]) pm12 (fun i => by by_cases e : i = 12; (subst e; exact .inr (by decide)); exact .inl (if_neg e)) rfl (by kernel_rfl) _ rfl (fun _ _ hI hR => StepO.below hI hR) (fun i v u W W' _ hR hf => SK.step _ v u hR hf) HB0.out ⟨?_, ?_, ?_, ?_, ?_, ?_, ?_, ?_, ?_, ?_, ?_, ?_, ?_, trivial⟩ ?_
  · intro vals W hB _
    have hB : Below W2.heap.size W2 W := hB
    have x0 := (HC.out W hB).1
    dsimp only [putsL, slotOf]
    go_wp2
    exact ⟨rfl, .inl (Below.refl _ _), rfl⟩
  · intro vals W hB ⟨h0, _⟩
    have hB : Below W2.heap.size W2 W := hB
    have h0 : vals 0 = _ := h0
    dsimp only [putsL, slotOf]
    rw [h0]
    go_wp2
    exact ⟨rfl, .inl (Below.refl _ _), rfl⟩
  · intro vals W hB ⟨h1, _⟩
    have hB : Below W2.heap.size W2 W := hB
    have h1 : vals 1 = _ := h1
    dsimp only [putsL, slotOf]
    rw [h1]
    go_wp2
    exact ⟨rfl, .inl (Below.refl _ _), rfl⟩
  · intro vals W hB ⟨h2, _⟩
    have hB : Below W2.heap.size W2 W := hB
    have h2 : vals 2 = _ := h2
    have b0 := (HC.out W hB).2.2
    dsimp only [putsL, slotOf]
    rw [h2]
    go_wp2
    exact ⟨rfl, .inl (Below.refl _ _), rfl⟩
  · intro vals W hB _
    have hB : Below W2.heap.size W2 W := hB
    dsimp only [putsL, slotOf]
    go_wp2
    exact ⟨rfl, .inl (Below.refl _ _), rfl⟩
  · intro vals W hB _
    have hB : Below W2.heap.size W2 W := hB
    have x1 := (HC.out W hB).2.1
    dsimp only [putsL, slotOf]
    go_wp2
    exact ⟨rfl, .inl (Below.refl _ _), rfl⟩
  · intro vals W hB ⟨h3, h4, h5, _⟩
    have hB : Below W2.heap.size W2 W := hB
    have h3 : vals 3 = _ := h3
    have h4 : vals 4 = _ := h4
    have h5 : vals 5 = _ := h5
    dsimp only [putsL, slotOf]
    rw [h3, h4, h5]
    go_wp2_with (go_at_call 48; refine (HNo.out _ hB).mono ?_; rintro e w4 ⟨a4, rfl, hat4, hb4⟩)
    exact ⟨rfl, .inl hb4, a4, rfl, hat4⟩
  · intro vals W hB ⟨h6, _⟩
    have hB : Below W2.heap.size W2 W := hB
    obtain ⟨a6, h6, hat6⟩ := h6
    have h6 : vals 6 = _ := h6
    dsimp only [putsL, slotOf]
    rw [h6]
    go_wp2
    exact ⟨rfl, .inl (Below.refl _ _), a6, rfl, hat6⟩
  · intro vals W hB ⟨h7, _⟩
    have hB : Below W2.heap.size W2 W := hB
    obtain ⟨a7, h7, hat7⟩ := h7
    have h7 : vals 7 = _ := h7
    dsimp only [putsL, slotOf]
    rw [h7]
    go_wp2
    exact ⟨rfl, .inl (Below.refl _ _), a7, rfl, hat7⟩
  · intro vals W hB ⟨h7, _⟩
    have hB : Below W2.heap.size W2 W := hB
    obtain ⟨a7, h7, hat7⟩ := h7
    have h7 : vals 7 = _ := h7
    dsimp only [putsL, slotOf]
    rw [h7]
    go_wp2
    exact ⟨rfl, .inl (Below.refl _ _), rfl⟩
  · intro vals W hB _
    have hB : Below W2.heap.size W2 W := hB
    dsimp only [putsL, slotOf]
    go_wp2
    exact ⟨rfl, .inl (below_al (Below.refl _ _) _), _, hB.size, rfl, _, _, _, _, _, _, _, _, _, heap_alloc_new _ _⟩
  · intro vals W hB _
    have hB : Below W2.heap.size W2 W := hB
    dsimp only [putsL, slotOf]
    go_wp2
    exact ⟨rfl, .inl (below_al (Below.refl _ _) _), _, hB.size, rfl, heap_alloc_new _ _⟩
  · intro vals W hB ⟨_, _, _, _, _, _, _, _, h8, h10, _, _⟩
    have hB : Below W2.heap.size W2 W := hB
    obtain ⟨a8, h8, hat8⟩ := h8
    have h8 : vals 8 = _ := h8
    obtain ⟨g10, hg10, h10, hbox⟩ := h10
    have h10 : vals 10 = _ := h10
    have hbox2 := hbox
    obtain ⟨_, _, _, _, _, _, _, _, _, hgx⟩ := hbox2
    obtain ⟨⟨b0, b1, b2⟩, k0, k1, k2⟩ := pack3 hgx
    dsimp only [putsL, slotOf]
    rw [h8, h10]
    go_wp2
    exact ⟨rfl, .inr ⟨g10, hg10, hbox, (ofull_set hat8 hbox).1, (ofull_set hat8 hbox).2⟩, g10, hg10, h10, (ofull_set hat8 hbox).1⟩
  intro vals V4 hB hF
  have hB : Below W2.heap.size W2 V4 := hB
  have h0 : vals 0 = _ := hF 0 (by decide)
  have h1 : vals 1 = _ := hF 1 (by decide)
  have h2 : vals 2 = _ := hF 2 (by decide)
  have h3 : vals 3 = _ := hF 3 (by decide)
  have h4 : vals 4 = _ := hF 4 (by decide)
  have h5 : vals 5 = _ := hF 5 (by decide)
  obtain ⟨a6, h6, -⟩ := hF 6 (by decide)
  have h6 : vals 6 = _ := h6
  obtain ⟨a7, h7, -⟩ := hF 7 (by decide)
  have h7 : vals 7 = _ := h7
  obtain ⟨a8, h8, -⟩ := hF 8 (by decide)
  have h8 : vals 8 = _ := h8
  have h9 : vals 9 = _ := hF 9 (by decide)
  obtain ⟨g11, hg11, h11, herr⟩ := hF 11 (by decide)
  have h11 : vals 11 = _ := h11
  obtain ⟨g10, hg10, h10, hfull⟩ := hF 12 (by decide)
  have h10 : vals 10 = _ := h10
  dsimp only [putsL]
  rw [h0, h1, h2, h3, h4, h5, h6, h7, h8, h9, h10, h11]
  clear hF h0 h1 h2 h3 h4 h5 h6 h7 h8 h9 h10 h11
  simp only [List.drop_succ_cons, List.drop_zero, List.setIfInBounds_toArray, List.set_cons_succ, List.set_cons_zero]
  obtain ⟨u1, u2, u3, hx10, hown⟩ := hfull
  obtain ⟨a, rfl, rfl, rfl, -, -⟩ := hown.parts
  obtain ⟨c11, f11⟩ := cells1 herr
  have hT5 : Turned (· = g11) V4 (V4.setCell ⟨g11, 0, none⟩ .nilIface) := (Turned.refl (· = g11) V4).setCell (p := ⟨g11, 0, none⟩) rfl _
  have he5 : EBox (V4.setCell ⟨g11, 0, none⟩ .nilIface) g11 := heap_setCell_at herr 0 _
  have hne : g10 ≠ g11 := fun e => by
    rw [e, herr] at hx10
    simp only [Option.some.injEq, Obj.cells.injEq] at hx10
    exact absurd hx10.2.1 (by decide)
  have hb45 : Below W2.heap.size W2 (V4.setCell ⟨g11, 0, none⟩ .nilIface) := hB.trans (hT5.toBelow hB.size (fun j hj e => by have e : j = g11 := e; omega))
  have ho5 : NdOwn (V4.setCell ⟨g11, 0, none⟩ .nilIface) W2.heap.size (.slice a.pp n.ps.length a.cp) (.slice a.pk n.ks.length a.ck) (.slice a.pd n.ds.length a.cd) n := hown.apart hT5 (own_other hown herr norow_err)
  have hx5 := hT5.heap hx10 hne
  have HE5 : Veil _ := ⟨he5⟩
  have HO5 : Veil _ := ⟨ho5⟩
  have HX5 : Veil _ := ⟨hx5⟩
  have HB5 : Veil _ := ⟨hb45⟩
  have HG : Veil (W2.heap.size ≤ g10 ∧ W2.heap.size ≤ g11 ∧ g10 ≠ g11) := ⟨hg10, hg11, hne⟩
  have HHe : Veil _ := ⟨herr⟩
  obtain ⟨⟨b0, b1, b2⟩, -⟩ := box3 hx10
  have hl10 := lt_of_heap hx10
  have hl11 := lt_of_heap herr
  clear hb45 ho5 he5 hT5 hown hx10 herr hx5 hB
  go_wp2
  have hz45 : (V4.setCell ⟨g11, 0, none⟩ .nilIface).heap.size = V4.heap.size := by simp
  have hl2 := lt_of_heap H0.out.x2
  have hz12 := HB12.out.size
  have hz25 := HB5.out.size
  have hn01 := H0.out.n
  have hbW2 : Below W.heap.size W W2 := H0.out.b.trans (HB12.out.mono H0.out.b.size)
  have hBsz : B0 ≤ W2.heap.size := Nat.le_trans hB0 hbW2.size
  rw [hz45] at hz25
  obtain ⟨g12, hg12⟩ : ∃ g12, V4.heap.size = g12 := ⟨_, rfl⟩
  have HI6 : Veil (SuI k pg B0 Mb H Wb root al p cp told W lev n (.slice a.pp n.ps.length a.cp) (.slice a.pk n.ks.length a.ck) (.slice a.pd n.ds.length a.cd) g0 g1 g2 g11 g12 1 ((n.ps.length : Int) == 0) m ((V4.setCell ⟨g11, 0, none⟩ .nilIface).alloc (.cells #[.slice a.pp n.ps.length a.cp, .slice a.pk n.ks.length a.ck, .slice a.pd n.ds.length a.cd, .int .i64 1, .bool ((n.ps.length : Int) == 0)] 103)) ∧ ((V4.setCell ⟨g11, 0, none⟩ .nilIface).alloc (.cells #[.slice a.pp n.ps.length a.cp, .slice a.pk n.ks.length a.ck, .slice a.pd n.ds.length a.cd, .int .i64 1, .bool ((n.ps.length : Int) == 0)] 103)).heap[g10]? = some (.cells #[.slice a.pp n.ps.length a.cp, .slice a.pk n.ks.length a.ck, .slice a.pd n.ds.length a.cd] 92 (0, 0)) ∧ g12 < ((V4.setCell ⟨g11, 0, none⟩ .nilIface).alloc (.cells #[.slice a.pp n.ps.length a.cp, .slice a.pk n.ks.length a.ck, .slice a.pd n.ds.length a.cd, .int .i64 1, .bool ((n.ps.length : Int) == 0)] 103)).heap.size) := ⟨by
    have hb6 := below_al (Below.refl (V4.setCell ⟨g11, 0, none⟩ .nilIface).heap.size (V4.setCell ⟨g11, 0, none⟩ .nilIface)) (.cells #[.slice a.pp n.ps.length a.cp, .slice a.pk n.ks.length a.ck, .slice a.pd n.ds.length a.cd, .int .i64 1, .bool ((n.ps.length : Int) == 0)] 103)
    have hnw := heap_alloc_new (V4.setCell ⟨g11, 0, none⟩ .nilIface) (.cells #[.slice a.pp n.ps.length a.cp, .slice a.pk n.ks.length a.ck, .slice a.pd n.ds.length a.cd, .int .i64 1, .bool ((n.ps.length : Int) == 0)] 103)
    rw [hz45, hg12] at hnw
    have hb26 := HB5.out.trans (hb6.mono HB5.out.size)
    have old : ∀ {g : Nat} {o : Obj}, W2.heap[g]? = some o → _ := fun {g o} hg => (hb26.block g (lt_of_heap hg)).trans hg
    refine ⟨⟨HS2.out.below hb26, old HY0.out, old HY1.out, old HY2.out, (hb6.block _ (lt_of_heap HE5.out)).trans HE5.out, hnw, (HO5.out.less hBsz).below hb6, Turned.new (hbW2.trans (hb26.mono hbW2.size)), ⟨by omega, by omega, by omega, by have := HG.out; omega, by omega⟩, hB0, ?_⟩, (hb6.block _ (lt_of_heap HX5.out)).trans HX5.out, lt_of_heap hnw⟩
    have := HG.out
    omega⟩
  rw [hg12]
  have HG12 : Veil (W2.heap.size ≤ g12 ∧ g10 < g12 ∧ g11 < g12) := ⟨by omega, by omega, by omega⟩
  clear HE5 HO5 HX5 HB5 HY0 HY1 HY2 HHe b0 b1 b2 hne hl10 hl11 HB0 HC HNo HS1 HM hz45
  generalize (V4.setCell ⟨g11, 0, none⟩ .nilIface).alloc (.cells #[.slice a.pp n.ps.length a.cp, .slice a.pk n.ks.length a.ck, .slice a.pd n.ds.length a.cd, .int .i64 1, .bool ((n.ps.length : Int) == 0)] 103) = V6 at HI6 ⊢
  obtain ⟨⟨b0, b1, b2⟩, -⟩ := box3 HI6.out.2.1
  go_step3
  go_wp2_with (go_at_call 55; refine (tkids_any _ _ _ _).mono ?_; rintro e W7 ⟨rfl, hW7⟩)
  have hb7 : Below V6.heap.size V6 W7 := by rw [← hW7]; exact below_al (Below.refl _ _) _
  have hz7 : W7.heap.size = V6.heap.size + 1 := by rw [← hW7]; simp
  have hk7 : W7.heap[V6.heap.size]? = some (.cells #[.slice a.pp n.ps.length a.cp, .slice a.pk n.ks.length a.ck, .slice a.pd n.ds.length a.cd] 92 (0, 0)) := by rw [← hW7]; exact heap_alloc_new _ _
  obtain ⟨bx, hbx⟩ : ∃ bx, V6.heap.size = bx := ⟨_, rfl⟩
  have HI7 : Veil _ := ⟨HI6.out.1.below hb7⟩
  rw [hbx] at hk7 hz7 ⊢
  have HK7 : Veil _ := ⟨hk7⟩
  have hl12 := HI6.out.2.2
  have hzW : W.heap.size < W7.heap.size := by have := hbW2.size; have := HG12.out; omega
  clear hW7 hk7 hb7 b0 b1 b2 HI6
  refine wp_range_seq (gf := 80) (lb := #[.pointer (some ⟨bx, 0, none⟩)]) rfl (enters_of Tryz.func80 (by kernel_rfl) rfl)
    (tkids_seq bx (.slice a.pp n.ps.length a.cp) (.slice a.pk n.ks.length a.ck) a.pd n.ds a.cd (by omega)) (fun k => rfl)
    (fun j A => ∃ mj, SuI k pg B0 Mb H Wb root al p cp told W lev n (.slice a.pp n.ps.length a.cp) (.slice a.pk n.ks.length a.ck) (.slice a.pd n.ds.length a.cd) g0 g1 g2 g11 g12 (if j = 0 then 1 else (h : Int) + 1) (n.ps ++ (KL.take j).flatten).isEmpty mj A ∧ A.heap[bx]? = some (.cells #[.slice a.pp n.ps.length a.cp, .slice a.pk n.ks.length a.ck, .slice a.pd n.ds.length a.cd] 92 (0, 0)) ∧ (∀ i, i < j → (mget mj (n.ds.getD i 0)).isSome = true) ∧ ∀ x, (mget m x).isSome = true → (mget mj x).isSome = true)
    (fun _ _ _ => False) ?hI (fun _ _ _ _ h _ => h) ?hF ?h0 ?hround ?hdone (fun _ _ _ _ _ _ h => h.elim)
  case hI =>
    rintro j A A' ⟨mj, h1, h2, h3, h4⟩ hb
    exact ⟨mj, h1.booked hb (Nat.le_of_lt hzW), hb.heap h2, h3, h4⟩
  case hF =>
    rintro j A ⟨mj, h1, h2, -⟩
    refine ⟨h2, ?_⟩
    obtain ⟨p9, c9, e9, he9, -⟩ := h1.o.d.form
    cases e9
    exact he9
  case h0 =>
    refine ⟨m, ?_, HK7.out, fun i hi => absurd hi (by omega), fun _ h => h⟩
    have e : (n.ps ++ (KL.take 0).flatten).isEmpty = ((n.ps.length : Int) == 0) := by
      cases n.ps with
      | nil => rfl
      | cons x y => simp; omega
    rw [e, if_pos rfl]
    exact HI7.out
  case hround =>
    rintro l mm j A hll hlt ⟨mj, h1, h2, h3, h4⟩
    obtain ⟨h', rfl⟩ : ∃ h', h = h' + 1 := ⟨h - 1, by have := hh1 (fun e => by rw [e] at hlt; simp at hlt); omega⟩
    have HKk : Veil (∀ A m', SuS k pg B0 Mb H Wb root al p cp told m' A → Calls Tryz.prog 37 #[.pointer (some ⟨H, 0, none⟩), .int .u32 (n.ds.getD j 0 : Nat), .int .i64 ((lev : Int) + 1)] A (SuQ k pg B0 Mb H Wb root al p cp told m' A (n.ds.getD j 0) h' (ms.getD j Nd.zero) (KL.getD j []))) := ⟨fun A m' hs => by
      have := HK.out j hlt A m' hs
      rw [Nat.add_sub_cancel, show ((lev + 1 : Nat) : Int) = (lev : Int) + 1 from by omega] at this
      exact this⟩
    have HAt : Veil _ := ⟨And.intro h1 (And.intro h2 (And.intro h3 h4))⟩
    clear h1 h2 h3 h4
    simp only [handsD, List.zip_cons_cons, List.zip_nil_right, List.foldl_cons, List.foldl_nil, List.setIfInBounds_toArray, List.set_cons_succ, List.set_cons_zero]
    obtain ⟨dk, hdk⟩ : ∃ dk, n.ds.getD j 0 = dk := ⟨_, rfl⟩
    rw [hdk] at HKk
    rw [hdk]
    gi_wp2
    refine ⟨KeepsFrom.refl _ _, fun A2 hbk hsz => ?_⟩
    have HI2 : Veil _ := ⟨HAt.out.1.booked hbk (Nat.le_of_lt hzW)⟩
    have HX2 : Veil _ := ⟨hbk.heap HAt.out.2.1⟩
    obtain ⟨x0, -⟩ := cells1 HI2.out.x0
    obtain ⟨x1, -⟩ := cells1 HI2.out.x1
    have hl0 := lt_of_heap HI2.out.x0
    have hl1 := lt_of_heap HI2.out.x1
    clear hbk hsz
    have hwl : IntKind.i64.wrap ((lev : Int) + 1) = (lev : Int) + 1 := by rw [IntKind.wrap_i64]; omega
    have hwh : IntKind.i64.wrap ((h' : Int) + 1 + 1) = (h' : Int) + 1 + 1 := by rw [IntKind.wrap_i64]; omega
    obtain ⟨lvj, hlvj⟩ : ∃ lvj : Int, (if j = 0 then 1 else ((h' + 1 : Nat) : Int) + 1) = lvj := ⟨_, rfl⟩
    have hle : (h' : Int) + 1 + 1 ≥ lvj := by rw [← hlvj]; split <;> omega
    obtain ⟨bj, hbj⟩ : ∃ bj, (n.ps ++ (KL.take j).flatten).isEmpty = bj := ⟨_, rfl⟩
    rw [hlvj, hbj] at HI2
    obtain ⟨ek, hek⟩ : ∃ ek, (KL.getD j []).isEmpty = ek := ⟨_, rfl⟩
    have HBE : Veil ((n.ps ++ (KL.take (j + 1)).flatten).isEmpty = (bj && ek)) := ⟨by
      rw [flatten_take_succ KL j (by omega), ← List.append_assoc, ← hbj, ← hek]
      cases (n.ps ++ (KL.take j).flatten) <;> simp⟩
    have HSA3 : Veil _ := ⟨HI2.out.s.below (below_al (Below.refl _ _) (.cells #[.slice none 0 0, .slice none 0 0, .slice none 0 0, .int .i64 0, .bool false] 103))⟩
    have HI3 : Veil _ := ⟨HI2.out.below (below_al (Below.refl _ _) (.cells #[.slice none 0 0, .slice none 0 0, .slice none 0 0, .int .i64 0, .bool false] 103))⟩
    have HX3 : Veil _ := ⟨((below_al (Below.refl A2.heap.size A2) (.cells #[.slice none 0 0, .slice none 0 0, .slice none 0 0, .int .i64 0, .bool false] 103)).block _ (lt_of_heap HX2.out)).trans HX2.out⟩
    have HN3 : Veil ((A2.alloc (.cells #[.slice none 0 0, .slice none 0 0, .slice none 0 0, .int .i64 0, .bool false] 103)).heap[A2.heap.size]? = some (.cells #[.slice none 0 0, .slice none 0 0, .slice none 0 0, .int .i64 0, .bool false] 103 (0, 0))) := ⟨heap_alloc_new _ _⟩
    have hMb : Mb < A2.heap.size := HI2.out.s.s.map.lt
    have HLt : Veil (g11 < A2.heap.size ∧ g12 < A2.heap.size ∧ g2 < A2.heap.size ∧ bx < A2.heap.size ∧ W.heap.size ≤ A2.heap.size) := ⟨lt_of_heap HI2.out.e, lt_of_heap HI2.out.x12, lt_of_heap HI2.out.x2, lt_of_heap HX2.out, HI2.out.t.size⟩
    gi_wp2_with (refine calls_round ?_; refine (HKk.out _ mj HSA3.out).mono ?_; rintro e w5 ⟨u1, u2, u3, m5, rfl, ho5, hs5, his5, hmo5, ht5⟩; obtain ⟨b, rfl, rfl, rfl, -, -⟩ := ho5.parts; rw [hek]; have HI5 : Veil _ := ⟨HI3.out.call hs5 ht5⟩; have HT5 : Veil _ := ⟨ht5⟩; have HN5 : Veil _ := ⟨ht5.heap HN3.out (by omega)⟩; have HX5 : Veil _ := ⟨ht5.heap HX3.out (by have := HI2.out.s.s.lo; have := hbW2.size; have := HG12.out; omega)⟩; have HM5 : Veil _ := ⟨And.intro his5 hmo5⟩; obtain ⟨⟨p0, p1, p2, p3, p4⟩, q0, q1, q2, q3, q4⟩ := pack5 HN5.out; obtain ⟨c11, f11⟩ := cells1 HI5.out.e; obtain ⟨⟨s0, s1, s2, s3, s4⟩, k0, k1, k2, k3, k4⟩ := pack5 HI5.out.x12; have hn1 : A2.heap.size ≠ g11 := (by have := HLt.out; omega); have hn2 : A2.heap.size ≠ g12 := (by have := HLt.out; omega); have hn3 : g12 ≠ g11 := (fun e => HI5.out.nb.2.2.2.1 e.symm); have hn4 := hn1.symm; have hn5 := hn2.symm; have hn6 := hn3.symm; clear ho5 hs5 his5 hmo5 ht5)
    all_goals
      have hmax : max lvj ((h' : Int) + 1 + 1) = ((h' + 1 : Nat) : Int) + 1 := by omega
      have hT14 := (set5 HN5.out (.slice b.pp (ms[j]?.getD Nd.zero).ps.length b.cp) (.slice b.pk (ms[j]?.getD Nd.zero).ks.length b.ck) (.slice b.pd (ms[j]?.getD Nd.zero).ds.length b.cd) (.int .i64 ((h' : Int) + 1)) (.bool ek)).2
      have hLt := HLt.out
      have hG := HG12.out
      have hI6 := HI5.out.other HN5.out norow_sight hLt.2.2.2.2 (by have := HI2.out.x0; have := lt_of_heap this; have := lt_of_heap HI2.out.x1; omega) hT14
      have hTT : ∀ (x y : Value), Turned (fun x => x = A2.heap.size ∨ x = g11 ∨ x = g12) w5 (((((((((w5.setCell ⟨A2.heap.size, 0, none⟩ (.slice b.pp (ms[j]?.getD Nd.zero).ps.length b.cp)).setCell ⟨A2.heap.size, 1, none⟩ (.slice b.pk (ms[j]?.getD Nd.zero).ks.length b.ck)).setCell ⟨A2.heap.size, 2, none⟩ (.slice b.pd (ms[j]?.getD Nd.zero).ds.length b.cd)).setCell ⟨A2.heap.size, 3, none⟩ (.int .i64 ((h' : Int) + 1))).setCell ⟨A2.heap.size, 4, none⟩ (.bool ek)).setCell ⟨g11, 0, none⟩ .nilIface).setCell ⟨g12, 3, none⟩ x).setCell ⟨g12, 4, none⟩ y)) := fun x y => (((hT14.wider fun j _ e => .inl e).setCell (p := ⟨g11, 0, none⟩) (.inr (.inl rfl)) _).setCell (p := ⟨g12, 3, none⟩) (.inr (.inr rfl)) _).setCell (p := ⟨g12, 4, none⟩) (.inr (.inr rfl)) _
      have hT25 : Turned (fun x => x = Mb ∨ x = g11 ∨ x = g12) A2 w5 := (Turned.new (below_al (Below.refl A2.heap.size A2) _)).trans (HT5.out.wider fun j _ e => .inl e)
      have hmb := HI2.out.s.s.lo
      have hw2 := hbW2.size
      refine ⟨keepsFrom_turned (hT25.then (hTT _ _) (fun x hx e => by rcases e with e | e | e; (exact absurd e (by omega)); exact .inr (.inl e); exact .inr (.inr e))) (fun x hx => .inl (by rcases hx with e | e | e <;> omega)), m5, ?_, (hTT _ _).heap HX5.out (by omega), fun i hi => ?_, fun x hx => HM5.out.2 x (HAt.out.2.2.2 x hx)⟩
      · rw [HBE.out]
        have h9 := (hI6.err.layLv (max lvj ((h' : Int) + 1 + 1))).layBe (bj && ek)
        rw [hmax] at h9 ⊢
        simp_all
      · rcases Nat.lt_or_eq_of_le (Nat.le_of_lt_succ hi) with h9 | rfl
        · exact HM5.out.2 _ (HAt.out.2.2.1 i h9)
        · rw [hdk]
          exact HM5.out.1
  case hdone =>
    rintro Dd A hDd ⟨mj, h1, h2, h3, h4⟩ hdd
    obtain ⟨bl, hbl⟩ : ∃ bl, L.isEmpty = bl := ⟨_, rfl⟩
    have elv : (if n.ds.length = 0 then 1 else (h : Int) + 1) = (h : Int) + 1 := by
      split
      · have := hh0 (List.eq_nil_of_length_eq_zero (by assumption))
        omega
      · rfl
    rw [elv, show KL.take n.ds.length = KL from by rw [← hKL]; exact List.take_length, hL, hbl] at h1
    have HI8 : Veil _ := ⟨h1⟩
    have HD : Veil _ := ⟨hdd⟩
    have HM8 : Veil _ := ⟨And.intro h3 h4⟩
    clear h1 h2 h3 h4 hdd elv
    go_wp2
    refine region_new [.is (.pointer (some ⟨H, 0, none⟩)), .is (.pointer (some ⟨H, 0, none⟩)), .is (.pointer (some ⟨H, 1, none⟩)), .is (.map (some Mb)), .is (.int .u32 id), .is (.agg #[.slice a.pp n.ps.length a.cp, .slice a.pk n.ks.length a.ck, .slice a.pd n.ds.length a.cd, .int .i64 ((h : Int) + 1), .bool bl])]
      [[], [(0, 81)], [(1, 82)], [(2, 83)], [], []]
      [[], [0], [1], [2], [], []]
      [(0, 81), (1, 82), (2, 83), (3, 84), (4, 85), (5, 86)] rfl (by kernel_rfl) ⟨?_, ?_, ?_, ?_, ?_, ?_, trivial⟩ ?_
    · intro vals V hB _
      obtain ⟨x0, -⟩ := cells1 ((hB.block _ (lt_of_heap HI8.out.x0)).trans HI8.out.x0)
      dsimp only [putsL, slotOf]
      go_wp2
      exact ⟨rfl, Below.refl _ _, rfl⟩
    · intro vals V hB ⟨h0, _⟩
      have h0 : vals 0 = _ := h0
      dsimp only [putsL, slotOf]
      rw [h0]
      go_wp2
      exact ⟨rfl, Below.refl _ _, rfl⟩
    · intro vals V hB ⟨h1, _⟩
      have h1 : vals 1 = _ := h1
      dsimp only [putsL, slotOf]
      rw [h1]
      go_wp2
      exact ⟨rfl, Below.refl _ _, rfl⟩
    · intro vals V hB ⟨h2, _⟩
      have h2 : vals 2 = _ := h2
      obtain ⟨⟨b0, b1, b2⟩, -⟩ := box3 ((hB.block _ (lt_of_heap HI8.out.s.b)).trans HI8.out.s.b)
      dsimp only [putsL, slotOf]
      rw [h2]
      go_wp2
      exact ⟨rfl, Below.refl _ _, rfl⟩
    · intro vals V hB _
      dsimp only [putsL, slotOf]
      go_wp2
      exact ⟨rfl, Below.refl _ _, rfl⟩
    · intro vals V hB _
      obtain ⟨⟨s0, s1, s2, s3, s4⟩, -⟩ := pack5 ((hB.block _ (lt_of_heap HI8.out.x12)).trans HI8.out.x12)
      dsimp only [putsL, slotOf]
      go_wp2
      exact ⟨rfl, Below.refl _ _, rfl⟩
    rintro vals V hB ⟨q0, q1, q2, q3, q4, q5, -⟩
    have h0 : vals 0 = _ := q0
    have h1 : vals 1 = _ := q1
    have h2 : vals 2 = _ := q2
    have h3 : vals 3 = _ := q3
    have h4 : vals 4 = _ := q4
    have h5 : vals 5 = _ := q5
    dsimp only [putsL]
    rw [h0, h1, h2, h3, h4, h5]
    clear h0 q0 h1 q1 h2 q2 h3 q3 h4 q4 h5 q5
    simp only [List.length_cons, List.length_nil, Nat.reduceAdd, List.drop_succ_cons, List.drop_zero, List.setIfInBounds_toArray, List.set_cons_succ, List.set_cons_zero]
    have HV : Veil _ := ⟨HI8.out.below hB⟩
    have HDv : Veil _ := ⟨(hB.block _ (lt_of_heap HD.out)).trans HD.out⟩
    have HMp : Veil _ := ⟨HV.out.s.s.map⟩
    clear hB
    go_wp2_with (at_mapUpdate; refine wpList_mput rfl _ _ _ 99 rfl _ _ Tryz.underlying99 Tryz.underlying23 rfl HMp.out id rfl (⟨.slice a.pp n.ps.length a.cp, .slice a.pk n.ks.length a.ck, .slice a.pd n.ds.length a.cd, n, h, L⟩ : Sg) (by simp only [Sg.v, hbl]; rfl) ?_; intro w9 hM9 hT9; have HM9 : Veil _ := ⟨hM9⟩; have HT9 : Veil _ := ⟨hT9⟩; clear hM9 hT9)
    obtain ⟨W9, hW9⟩ : ∃ W9, w9.drew = W9 := ⟨_, rfl⟩
    have hT9 : Turned (· = Mb) V W9 := by rw [← hW9]; exact HT9.out.drew
    have hM9 := HM9.out.below ((Below.refl w9.heap.size w9).drew)
    rw [hW9] at hM9
    have hmb := HV.out.s.s.lo
    have hgz := HV.out.z
    have hs9 := HV.out.s.put (s := ⟨.slice a.pp n.ps.length a.cp, .slice a.pk n.ks.length a.ck, .slice a.pd n.ds.length a.cd, n, h, L⟩) HT.out HV.out.o (fun d hdm => by
      obtain ⟨i, hi, rfl⟩ := List.getElem_of_mem hdm
      have := HM8.out.1 i hi
      simpa [List.getD, hi] using this) hM9 hT9
    have ho9 : NdOwn W9 B0 (.slice a.pp n.ps.length a.cp) (.slice a.pk n.ks.length a.ck) (.slice a.pd n.ds.length a.cd) n := HV.out.o.kept hT9 (fun j hj e => by have e : j = Mb := e; omega)
    have hx2 := hT9.heap HV.out.x2 (by omega)
    have hx12 := hT9.heap HV.out.x12 (by omega)
    have hxe := hT9.heap HV.out.e (by omega)
    have hxD := hT9.heap HDv.out (by have := HI8.out.t.size; omega)
    have HS9 : Veil _ := ⟨hs9⟩
    have HO9 : Veil _ := ⟨ho9⟩
    have HX2 : Veil _ := ⟨hx2⟩
    have HXD : Veil _ := ⟨hxD⟩
    have HT09 : Veil (Turned (· = Mb) W W9) := ⟨HV.out.t.trans hT9⟩
    obtain ⟨⟨s0, s1, s2, s3, s4⟩, -⟩ := pack5 hx12
    obtain ⟨c11, -⟩ := cells1 hxe
    have hS : W9.cell? ⟨g12, 0, none⟩ = some (.slice a.pp n.ps.length a.cp) ∧ W9.cell? ⟨g12, 1, none⟩ = some (.slice a.pk n.ks.length a.ck) ∧ W9.cell? ⟨g12, 2, none⟩ = some (.slice a.pd n.ds.length a.cd) ∧ W9.cell? ⟨g12, 3, none⟩ = some (.int .i64 ((h : Int) + 1)) ∧ W9.cell? ⟨g12, 4, none⟩ = some (.bool bl) ∧ W9.cell? ⟨g11, 0, none⟩ = some .nilIface := ⟨s0, s1, s2, s3, s4, c11⟩
    have HSS : Veil _ := ⟨hS⟩
    clear s0 s1 s2 s3 s4 c11 hx12 hxe hx2 hxD hs9 ho9 hT9 hM9
    refine region_plan 3 [(true, 0), (true, 1), (false, 2)] (by kernel_rfl) (by kernel_rfl) (fun w' => w'.cell? ⟨g12, 0, none⟩ = some (.slice a.pp n.ps.length a.cp) ∧ w'.cell? ⟨g12, 1, none⟩ = some (.slice a.pk n.ks.length a.ck) ∧ w'.cell? ⟨g12, 2, none⟩ = some (.slice a.pd n.ds.length a.cd) ∧ w'.cell? ⟨g12, 3, none⟩ = some (.int .i64 ((h : Int) + 1)) ∧ w'.cell? ⟨g12, 4, none⟩ = some (.bool bl) ∧ w'.cell? ⟨g11, 0, none⟩ = some .nilIface) W9 hW9 hS ?_
    clear hW9 hS
    simp only [planOps, List.filterMap_cons, List.filterMap_nil, List.getElem?_toArray, List.getElem?_cons_zero, List.getElem?_cons_succ, Option.map_some]
    iterate 2 (refine plan_quiet rfl ?_ ?_ (fun K hK => ?_); rotate_left; (rintro w' ⟨s0, s1, s2, s3, s4, s5⟩; go_simp; rfl); (go_simp; refine hK _ ?_; clear hK K))
    refine plan_change (fun K hK => ?_)
    obtain ⟨⟨y0, y1, y2, y3, y4⟩, z0, z1, z2, z3, z4⟩ := pack5 HX2.out
    go_wp2
    obtain ⟨hx2, hT2⟩ := set5 HX2.out (.slice a.pp n.ps.length a.cp) (.slice a.pk n.ks.length a.ck) (.slice a.pd n.ds.length a.cd) (.int .i64 ((h : Int) + 1)) (.bool bl)
    have HQ : Veil _ := ⟨And.intro hx2 hT2⟩
    have hnb := HV.out.nb
    obtain ⟨t0, t1, t2, t3, t4, t5⟩ := HSS.out
    refine hK _ _ ⟨hT2.cell t0 (fun e => hnb.2.2.1 e.symm), hT2.cell t1 (fun e => hnb.2.2.1 e.symm), hT2.cell t2 (fun e => hnb.2.2.1 e.symm), hT2.cell t3 (fun e => hnb.2.2.1 e.symm), hT2.cell t4 (fun e => hnb.2.2.1 e.symm), hT2.cell t5 (fun e => hnb.2.2.2.2.2.2 e.symm)⟩ ?_
    clear hK K t0 t1 t2 t3 t4 t5 hx2 hT2 y0 y1 y2 y3 y4 z0 z1 z2 z3 z4
    generalize ((((W9.setCell ⟨g2, 0, none⟩ (.slice a.pp n.ps.length a.cp)).setCell ⟨g2, 1, none⟩ (.slice a.pk n.ks.length a.ck)).setCell ⟨g2, 2, none⟩ (.slice a.pd n.ds.length a.cd)).setCell ⟨g2, 3, none⟩ (.int .i64 ((h : Int) + 1))).setCell ⟨g2, 4, none⟩ (.bool bl) = WX at HQ ⊢
    refine wpPlan_nil ?_
    simp only [List.drop_succ_cons, List.drop_zero]
    go_wp2
    refine only_normal ?_
    go_wp2
    rw [Exit.noGoto_ret]
    obtain ⟨hx2, hT2⟩ := HQ.out
    have hDg : g2 ≠ Dd := fun e => by
      have h1 := HXD.out
      have h2 := HX2.out
      rw [← e, h2] at h1
      cases h1
    refine leaves_mark (D := Dd) (B := W7.heap.size) (hT2.heap HXD.out (fun e => hDg e.symm)) hDd ?_
    intro w' hb _
    refine leaves_none (results_sight (g := g2) rfl rfl rfl (hb.heap hx2)) ?_
    have hsX := (HS9.out.box HX2.out norow_sight (by omega) hT2).booked hb (by omega)
    have hoX := (HO9.out.apart hT2 (own_other HO9.out HX2.out norow_sight)).booked hb
    have hTX : Turned (· = Mb) W w' := hb.turned (HT09.out.then hT2 (fun j hj e => by omega)) (Nat.le_of_lt hzW)
    exact ⟨_, _, _, _, by rw [hbl]; rfl, hoX, hsX, by rw [mget_put, if_pos rfl]; rfl, fun x hx => by rw [mget_put]; split; rfl; exact HM8.out.2 x hx, hTX⟩
end
end Go.Proofs.YtokbmimbbeedcaaGreatDoor

/- Trees, by the program: survey whole. -/
namespace Go.Proofs.YtokbmimbbeedcaaGreatDoor
open Go Go.RowKit Sm

theorem NodeIs.few {k : Wk} {id : Nat} {n : Nd} (h : NodeIs k id n) : n.ds.length ≤ 1000 := by
  rcases h with ⟨-, rfl⟩ | ⟨-, hr, -⟩
  · simp [Nd.zero]
  · rcases Bool.or_eq_true_iff.1 hr with h | h
    · have := (n.leaf_iff.1 h).1; omega
    · have := (n.branch_iff.1 h).1; omega
/-- SURVEY: of a page and those below it. -/
theorem survey_any {k : Wk} {pg : Nat → Option Nd} (hpg : ∀ id n, pg id = some n → NodeIs k id n) {B0 Mb H Wb root : Nat} {al : Al} {p : Option Addr} {cp : Nat} {told : Int} : ∀ (h : Nat) {id : Nat} {n : Nd} {L : List Pr}, Tr pg h id n L → ∀ {m : List (Nat × Sg)} {W : World}, SuS k pg B0 Mb H Wb root al p cp told m W → ∀ (lev : Nat), lev + h ≤ 64 →
    Calls Tryz.prog 37 #[.pointer (some ⟨H, 0, none⟩), .int .u32 id, .int .i64 lev] W (SuQ k pg B0 Mb H Wb root al p cp told m W id h n L) := by
  intro h
  induction h with
  | zero =>
    intro id n L hT m W hS lev hlv
    cases hs : mget m id with
    | some s => exact survey_seen hS hT (by rw [hs]; rfl) lev hlv
    | none =>
      have hN := hpg _ _ hT.page
      have hT0 := hT
      obtain ⟨-, e2, e3⟩ := hT0
      refine survey_new hS hS.s.hi hT hs hN lev hlv [] (by rw [e2]; rfl) (by rw [e3]; simp) hN.few (fun _ => rfl) (fun e => absurd e2 e) [] (fun j hj => ?_)
      rw [e2] at hj
      simp at hj
  | succ h ih =>
    intro id n L hT m W hS lev hlv
    cases hs : mget m id with
    | some s => exact survey_seen hS hT (by rw [hs]; rfl) lev hlv
    | none =>
      have hN := hpg _ _ hT.page
      have hT' := hT
      obtain ⟨-, e2, e3, ms, Ls, l1, l2, hsub, e4⟩ := hT'
      refine survey_new hS hS.s.hi hT hs hN lev hlv Ls l2 (by rw [e2, e4]; rfl) hN.few (fun e => absurd e e3) (fun _ => by omega) ms (fun j hj A m' hA => ?_)
      exact ih (hsub j hj) hA (lev + 1) (by omega)
end Go.Proofs.YtokbmimbbeedcaaGreatDoor

/- Trees, by the program: All. -/
namespace Go.Proofs.YtokbmimbbeedcaaGreatDoor
open Go Go.RowKit Sm
attribute [local go_sem] Oper.semAt_some

set_option maxRecDepth 20000 in
set_option maxHeartbeats 4000000 in
/-- ALL: the pairs of the tree below the root. -/
theorem wall_of {w : World} {Wb : Nat} {k : Wk} {root : Nat} {al : Al} {p : Option Addr} {cp : Nat} (hwb : w.heap[Wb]? = some (.cells (wkCells k root al p cp 0) 78 (0, 0))) (ho : MapAt w k.bo Pg.v k.own) {pg : Nat → Option Nd} (hpg : ∀ id n, pg id = some n → NodeIs k id n) {h : Nat} {n : Nd} {L : List Pr} (hT : Tr pg h root n L) (hh : 1 + h ≤ 64) (hL : L.length ≤ 1000000) :
    Calls Tryz.prog 15 #[.pointer (some ⟨Wb, 0, none⟩)] w fun e w' => ∃ v, e = .returned (.tuple #[v, .int .i64 0]) ∧ OwnE elP w' w.heap.size v L ∧ Below w.heap.size w w' := by
  have hlw := lt_of_heap hwb
  have hol := ho.lt
  have hw1 := (wk_cells hwb).1 1
  simp only [List.getElem?_cons_zero, List.getElem?_cons_succ] at hw1
  have HE : Veil _ := ⟨ended_any hwb⟩
  have HT : Veil _ := ⟨hT⟩
  obtain ⟨W1, hW1⟩ : ∃ W1, (w.alloc (.map #[] 0)).alloc (.cells #[.pointer (some ⟨Wb, 0, none⟩), .map (some w.heap.size), .slice none 0 0] 101) = W1 := ⟨_, rfl⟩
  have hz1 : W1.heap.size = w.heap.size + 2 := by rw [← hW1]; simp
  have hb1 : Below w.heap.size w W1 := by rw [← hW1]; exact below_al (below_al (Below.refl _ _) _) _
  have HS1 : Veil (SuS k pg (w.heap.size + 2) w.heap.size (w.heap.size + 1) Wb root al p cp 0 [] W1) := ⟨by
    have hm : MapAt W1 w.heap.size Sg.v [] := by rw [← hW1]; exact (MapAt.made w Sg.v).below (below_al (Below.refl _ _) _)
    have hx : W1.heap[w.heap.size + 1]? = some (.cells #[.pointer (some ⟨Wb, 0, none⟩), .map (some w.heap.size), .slice none 0 0] 101 (0, 0)) := by
      rw [← hW1]
      have := heap_alloc_new (w.alloc (.map #[] 0)) (.cells #[.pointer (some ⟨Wb, 0, none⟩), .map (some w.heap.size), .slice none 0 0] 101)
      rwa [World.size_alloc] at this
    exact ⟨⟨hm, fun x s hs => (by simp [mget] at hs), (by omega), (by omega)⟩, hx, (hb1.block _ hlw).trans hwb, ho.below hb1, by omega, by omega, by omega, by omega, by omega, by omega⟩⟩
  have HW1 : Veil _ := ⟨hW1⟩
  have HB1 : Veil _ := ⟨hb1⟩
  have hmk : (Instr.makeMap 99 none).run Tryz.prog w = .ok (.map (some w.heap.size)) (w.alloc (.map #[] 0)) := rfl
  clear hwb ho hT hW1 hb1
  go_enter Tryz.func15, Tryz.ntmps15
  go_wp2_with (first
    | (go_at_call 38; obtain ⟨W5, hW5⟩ : ∃ W5, w4.alloc (.cells #[.slice a.pp n.ps.length a.cp, .slice a.pk n.ks.length a.ck, .slice a.pd n.ds.length a.cd, .int .i64 ((h : Int) + 1), .bool L.isEmpty] 103) = W5 := ⟨_, rfl⟩; have hb5 : Below w4.heap.size w4 W5 := (by rw [← hW5]; exact below_al (Below.refl _ _) _); rw [hW5]; have hs5 := HS4.out.1.s.below hb5; have hg5 : GaS pg (w2.heap.size + 2) w2.heap.size m4 (w2.heap.size + 1) Wb W5.heap.size W5 (.slice none 0 0) [] := ⟨hs5, (hb5.block _ (lt_of_heap HS4.out.1.b)).trans HS4.out.1.b, OwnE.nil _ _ _, (by omega), (by omega), hs5.hi, Nat.le_refl _, fun x s hx j hj => (hs5.old hx hj).2⟩; refine (gather_any (fun id n hn => (hpg id n hn).few) h HT.out HS4.out.2.1 hg5 (by simpa using hL)).mono ?_; rintro e w6 ⟨rfl, v6, hg6, hf6⟩; obtain ⟨⟨d0, d1, d2⟩, -⟩ := box3 hg6.b; have HG6 : Veil _ := ⟨And.intro hg6 (And.intro hf6 hb5)⟩; clear hg6 hf6 hb5 hs5 hg5)
    | (go_at_call 37; rw [HW1.out]; refine (survey_any hpg h HT.out HS1.out 1 hh).mono ?_; rintro e w4 ⟨v1, v2, v3, m4, rfl, ho4, hs4, his4, -, ht4⟩; obtain ⟨a, rfl, rfl, rfl, -, -⟩ := ho4.parts; have h41 := (wk_cells hs4.wk).1 1; simp only [List.getElem?_cons_zero, List.getElem?_cons_succ] at h41; have hl41 := lt_of_heap hs4.wk; have HS4 : Veil _ := ⟨And.intro hs4 (And.intro his4 ht4)⟩; clear ho4 hs4 his4 ht4)
    | (go_at_call 36; refine HE.out.mono ?_; rintro e w2 ⟨rfl, rfl⟩))
  refine bodyPost_ret (results_two rfl rfl rfl) rfl ?_
  obtain ⟨hg6, hf6, hb5⟩ := HG6.out
  have hz5 := hb5.size
  have hz4 := HS4.out.2.2.size
  have hb4 : Below w2.heap.size w2 w4 := HB1.out.trans (HS4.out.2.2.toBelow HB1.out.size (fun j hj e => by have e : j = w2.heap.size := e; omega))
  have hb25 := hb4.trans (hb5.mono hb4.size)
  exact ⟨_, rfl, (hg6.o.less (by omega)), hb25.trans (hf6.t.toBelow hb25.size (fun j hj e => by
    rcases e with e | e
    · omega
    · cases e))⟩
end Go.Proofs.YtokbmimbbeedcaaGreatDoor

/- Trees, by the program: join of a node that stays as it is; shrink that does nothing, or drops a leaf without pairs. -/
namespace Go.Proofs.YtokbmimbbeedcaaGreatDoor
open Go Go.RowKit Sm
attribute [local go_sem] Oper.semAt_some

set_option maxRecDepth 20000 in
set_option maxHeartbeats 2000000 in
/-- JOIN of a node that is not small, or has no neighbour. -/
theorem join_alone {w : World} {sa sb : Nat} {x1 x2 : Value} {pd : Option Addr} {N cd i i' : Nat} {m : Nd} {a : NdP} (c : Value) (level : Value) (ha : w.heap[sa]? = some (.cells #[x1, x2, .slice pd N cd, .int .i64 i] 94 (0, 0))) (hb : w.heap[sb]? = some (.cells #[.slice a.pp m.ps.length a.cp, .slice a.pk m.ks.length a.ck, .slice a.pd m.ds.length a.cd, .int .i64 i'] 94 (0, 0)))
    (hm : NdAt w m a) (hf : NdFit m a) (hok : Veil m.Ok) (hN : 1 ≤ N ∧ N ≤ 1000000) (hs : 60 ≤ m.size ∨ N = 1) :
    Calls Tryz.prog 53 #[c, .pointer (some ⟨sa, 0, none⟩), .pointer (some ⟨sb, 0, none⟩), level] w fun e w' => e = .returned (.tuple #[.int .i64 1, .nilIface]) ∧ Below w.heap.size w w' := by
  have HS : Veil _ := ⟨size_of hm hf.k hok⟩
  have p2 : w.cell? ⟨sa, 2, none⟩ = some (.slice pd N cd) := cell_whole (cur := [_, _, _, _]) ha 2
  have q0 : w.cell? ⟨sb, 0, none⟩ = _ := cell_whole (cur := [_, _, _, _]) hb 0
  have q1 : w.cell? ⟨sb, 1, none⟩ = _ := cell_whole (cur := [_, _, _, _]) hb 1
  have q2 : w.cell? ⟨sb, 2, none⟩ = _ := cell_whole (cur := [_, _, _, _]) hb 2
  have hw : IntKind.i64.wrap ((N : Int) - 1) = (N : Int) - 1 := by rw [IntKind.wrap_i64]; omega
  obtain ⟨sz, hsz⟩ : ∃ sz, m.size = sz := ⟨_, rfl⟩
  unfold Nd.v at HS
  rw [hsz] at HS hs
  clear ha hb hm hf hok hsz
  by_cases h60 : 60 ≤ sz
  · have h6 : (sz : Int) ≥ 60 := by omega
    clear hs
    go_enter Tryz.func53, Tryz.ntmps53
    go_wp2_with (go_at_call 78; refine HS.out.mono ?_; rintro e w2 ⟨rfl, hb2⟩)
    exact bodyPost_ret (results_two rfl rfl rfl) rfl ⟨rfl, hb2⟩
  · have h6 : ¬ (sz : Int) ≥ 60 := by omega
    obtain rfl : N = 1 := by omega
    clear hs
    go_enter Tryz.func53, Tryz.ntmps53
    go_wp2_with (go_at_call 78; refine HS.out.mono ?_; rintro e w2 ⟨rfl, hb2⟩)
    exact bodyPost_ret (results_two rfl rfl rfl) rfl ⟨rfl, hb2⟩
end Go.Proofs.YtokbmimbbeedcaaGreatDoor

/- Trees, by the program: shrink. -/
namespace Go.Proofs.YtokbmimbbeedcaaGreatDoor
open Go Go.RowKit Sm
attribute [local go_sem] Oper.semAt_some

set_option maxRecDepth 20000 in
set_option maxHeartbeats 2000000 in
/-- SHRINK under a root that has more than one kid, or a pair: nothing. -/
theorem shrink_rest {w : World} {C Wb : Nat} {k : Wk} {c : Ch} (h : ChAt w C Wb k c) {A t ca s1 i : Nat} {m : Nd} {a : NdP} (ht : 2 ≤ t ∧ t ≤ 1000 ∧ t ≤ ca ∧ ca ≤ 9223372036854775807) (hA : w.cell? ⟨A, 1, none⟩ = some (.pointer (some ⟨s1, 0, none⟩))) (hs : w.heap[s1]? = some (.cells #[.slice a.pp m.ps.length a.cp, .slice a.pk m.ks.length a.ck, .slice a.pd m.ds.length a.cd, .int .i64 i] 94 (0, 0)))
    (h1 : m.ds.length ≠ 1) (h0 : m.ds.length + m.ps.length ≠ 0) (hsm : m.ds.length + m.ps.length ≤ 1000000) :
    Calls Tryz.prog 54 #[.pointer (some ⟨C, 0, none⟩), .slice (some ⟨A, 0, none⟩) t ca] w fun e w' => e = .returned (.tuple #[]) ∧ Below w.heap.size w w' := by
  obtain ⟨hc, -⟩ := ch_cells h.cb
  have c1 : w.cell? ⟨C, 1, none⟩ = some (.int .u32 c.root) := hc 1
  have q0 : w.cell? ⟨s1, 0, none⟩ = some (.slice a.pp m.ps.length a.cp) := cell_whole (cur := [_, _, _, _]) hs 0
  have q2 : w.cell? ⟨s1, 2, none⟩ = some (.slice a.pd m.ds.length a.cd) := cell_whole (cur := [_, _, _, _]) hs 2
  obtain ⟨P, hP⟩ : ∃ P, m.ps.length = P := ⟨_, rfl⟩
  obtain ⟨D, hD⟩ : ∃ D, m.ds.length = D := ⟨_, rfl⟩
  obtain ⟨R, hR⟩ : ∃ R, c.root = R := ⟨_, rfl⟩
  rw [hP, hD] at hsm h0
  rw [hP] at q0
  rw [hD] at q2 h1
  rw [hR] at c1
  have hw : IntKind.i64.wrap ((D : Int) + P) = (D : Int) + P := by rw [IntKind.wrap_i64]; omega
  have e1 : ((D : Int) == 1) = false := by rw [beq_eq_false_iff_ne]; omega
  have e0 : ((D : Int) + P == 0) = false := by rw [beq_eq_false_iff_ne]; omega
  have ht1 : (1 : Int) ≤ t := by omega
  have ht2 : (t : Int) ≤ ca := by omega
  have ht3 : (0 : Int) < (t : Int) - 1 := by omega
  clear h hs hc h1 h0 hP hD hR
  go_enter Tryz.func54, Tryz.ntmps54
  go_step3
  go_wp2
  go_step3
  go_wp2
  refine wp_loop_rounds 2 ?_
  rw [rounds_succ]
  go_wp2
  obtain ⟨W3, hW3⟩ : ∃ W3, w.drew = W3 := ⟨_, rfl⟩
  have hb3 : Below w.heap.size w W3 := by rw [← hW3]; exact (Below.refl _ _).drew
  have r0 : W3.cell? ⟨s1, 0, none⟩ = some (.slice a.pp P a.cp) := by rw [← hW3]; exact q0
  have r2 : W3.cell? ⟨s1, 2, none⟩ = some (.slice a.pd D a.cd) := by rw [← hW3]; exact q2
  refine region_tail 14 (by kernel_rfl) (by kernel_rfl) W3 hW3 ?_
  clear hW3
  simp only [List.take_succ_cons, List.take_zero, List.drop_succ_cons, List.drop_zero]
  iterate 14 still_step
  refine wpStill_nil ?_
  go_wp2
  refine only_normal ?_
  go_wp2
  rw [Exit.noGoto_normal]
  go_end0
  exact ⟨rfl, hb3⟩

set_option maxRecDepth 20000 in
set_option maxHeartbeats 2000000 in
/-- SHRINK under a leaf without pairs, that is the root: no tree. -/
theorem shrink_drop {w : World} {C Wb : Nat} {k : Wk} {c : Ch} (h : ChAt w C Wb k c) {A ca s1 i : Nat} {m : Nd} {a : NdP} (ht : 2 ≤ ca ∧ ca ≤ 9223372036854775807) (hA : w.cell? ⟨A, 1, none⟩ = some (.pointer (some ⟨s1, 0, none⟩))) (hs : w.heap[s1]? = some (.cells #[.slice a.pp m.ps.length a.cp, .slice a.pk m.ks.length a.ck, .slice a.pd m.ds.length a.cd, .int .i64 i] 94 (0, 0)))
    (h1 : m.ds.length = 0) (h0 : m.ps.length = 0) (hm : mineC k c c.root = true) (hid : c.root < 4294967296) (htx : k.tx < 18446744073709551616) (hfew : c.al.l.length < 100000) :
    Calls Tryz.prog 54 #[.pointer (some ⟨C, 0, none⟩), .slice (some ⟨A, 0, none⟩) 2 ca] w fun e w' => ∃ p cp, e = .returned (.tuple #[]) ∧ ChAt w' C Wb k (({ c with root := 0 } : Ch).dropped k c.root p cp) ∧ Turned (fun x => x = C ∨ x = c.bp) w w' := by
  have HE : Veil (∀ W, Below w.heap.size w W → ChAt (W.setCell ⟨C, 1, none⟩ (.int .u32 0)) C Wb k { c with root := 0 } ∧ Turned (· = C) w (W.setCell ⟨C, 1, none⟩ (.int .u32 0))) := ⟨fun W hW => h.root' W hW 0⟩
  have HDr : Veil (∀ W, ChAt W C Wb k { c with root := 0 } → Calls Tryz.prog 67 #[.pointer (some ⟨C, 0, none⟩), .int .u32 c.root] W fun e w' => ∃ p cp, e = .returned (.tuple #[]) ∧ ChAt w' C Wb k (({ c with root := 0 } : Ch).dropped k c.root p cp) ∧ Turned (fun x => x = C ∨ x = c.bp) W w') := ⟨fun W hW => cdrop_any hW c.root hm hid htx hfew⟩
  have hlc := lt_of_heap h.cb
  obtain ⟨hc, hcf⟩ := ch_cells h.cb
  have c1 : w.cell? ⟨C, 1, none⟩ = some (.int .u32 c.root) := hc 1
  have cf1 : w.frozen? ⟨C, 1, none⟩ = false := hcf 1
  have q0 : w.cell? ⟨s1, 0, none⟩ = some (.slice a.pp m.ps.length a.cp) := cell_whole (cur := [_, _, _, _]) hs 0
  have q2 : w.cell? ⟨s1, 2, none⟩ = some (.slice a.pd m.ds.length a.cd) := cell_whole (cur := [_, _, _, _]) hs 2
  rw [h0] at q0
  rw [h1] at q2
  have ht2 : (2 : Int) ≤ ca := by omega
  clear h hs hc hcf h1 h0 hm hid hfew
  go_enter Tryz.func54, Tryz.ntmps54
  go_step3
  go_wp2
  go_step3
  go_wp2
  refine wp_loop_rounds 3 ?_
  rw [rounds_succ]
  go_wp2
  obtain ⟨W3, hW3⟩ : ∃ W3, w.drew = W3 := ⟨_, rfl⟩
  have hb3 : Below w.heap.size w W3 := by rw [← hW3]; exact (Below.refl _ _).drew
  have r0 : W3.cell? ⟨s1, 0, none⟩ = some (.slice a.pp 0 a.cp) := by rw [← hW3]; exact q0
  have r2 : W3.cell? ⟨s1, 2, none⟩ = some (.slice a.pd 0 a.cd) := by rw [← hW3]; exact q2
  have r1 : W3.cell? ⟨C, 1, none⟩ = some (.int .u32 c.root) := by rw [← hW3]; exact c1
  have rf : W3.frozen? ⟨C, 1, none⟩ = false := by rw [← hW3]; exact cf1
  refine region_tail 14 (by kernel_rfl) (by kernel_rfl) W3 hW3 ?_
  clear hW3
  simp only [List.take_succ_cons, List.take_zero, List.drop_succ_cons, List.drop_zero]
  iterate 14 still_step
  refine wpStill_nil ?_
  go_wp2
  refine only_normal ?_
  obtain ⟨e1, e2⟩ := HE.out W3 hb3
  have HX : Veil _ := ⟨And.intro e1 e2⟩
  clear e1 e2
  go_wp2_with (go_at_call 67; refine (HDr.out _ HX.out.1).mono ?_; rintro e w9 ⟨p9, cp9, rfl, hc9, ht9⟩; have H9 : Veil _ := ⟨And.intro hc9 ht9⟩; clear hc9 ht9)
  rw [rounds_succ]
  go_wp2
  rw [Exit.noGoto_normal]
  go_end0
  exact ⟨p9, cp9, rfl, H9.out.1, (HX.out.2.wider fun _ _ e => .inl e).trans H9.out.2⟩
end Go.Proofs.YtokbmimbbeedcaaGreatDoor
