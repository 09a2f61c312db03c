/- The walk of Split. -/
import Derived.Test.YtokbmimbbeedcaaGreatDoorKOT
import Derived.Test.YtokbmimbbeedcaaGreatDoorKOG
import Derived.Test.YtokbmimbbeedcaaGreatDoorKOB
import Derived.Test.YtokbmimbbeedcaaGreatDoorKD0
namespace Go.Proofs.YtokbmimbbeedcaaGreatDoor
open Go Go.RowKit Sm
attribute [local go_sem] Oper.semAt_some

/-- Two nodes, a text between them, told beside an errno. -/
def SplPost (w : World) (x y : Nd) (key : List UInt8) (er : Int) (e : Ending) (w' : World) : Prop := ∃ a b : NdP, e = .returned (.tuple #[.agg #[.slice a.pp x.ps.length a.cp, .slice a.pk x.ks.length a.ck, .slice a.pd x.ds.length a.cd], .string ⟨key.toArray⟩, .agg #[.slice b.pp y.ps.length b.cp, .slice b.pk y.ks.length b.ck, .slice b.pd y.ds.length b.cd], .int .i64 er]) ∧ NdAt w' x a ∧ NdAt w' y b ∧ NdFit x a ∧ NdFit y b ∧ Below w.heap.size w w'
/-- Where it lies is new. -/
structure SlNew (w : World) (p : Option Addr) (n c : Nat) : Prop where
  ok : SlOk p n c
  new : ∀ a, p = some a → w.heap.size ≤ a.block
structure NdNew (w : World) (n : Nd) (a : NdP) : Prop where
  fit : NdFit n a
  p : ∀ b, a.pp = some b → w.heap.size ≤ b.block
  k : ∀ b, a.pk = some b → w.heap.size ≤ b.block
  d : ∀ b, a.pd = some b → w.heap.size ≤ b.block
/-- Likewise, both halves in new blocks. -/
def SplPostF (w : World) (x y : Nd) (key : List UInt8) (er : Int) (e : Ending) (w' : World) : Prop := ∃ a b : NdP, e = .returned (.tuple #[.agg #[.slice a.pp x.ps.length a.cp, .slice a.pk x.ks.length a.ck, .slice a.pd x.ds.length a.cd], .string ⟨key.toArray⟩, .agg #[.slice b.pp y.ps.length b.cp, .slice b.pk y.ks.length b.ck, .slice b.pd y.ds.length b.cd], .int .i64 er]) ∧ NdAt w' x a ∧ NdAt w' y b ∧ NdNew w x a ∧ NdNew w y b ∧ Below w.heap.size w w'
theorem SplPostF.post {w w' : World} {x y : Nd} {key : List UInt8} {er : Int} {e : Ending} (h : SplPostF w x y key er e w') : SplPost w x y key er e w' := by
  obtain ⟨a, b, h1, h2, h3, h4, h5, h6⟩ := h
  exact ⟨a, b, h1, h2, h3, h4.fit, h5.fit, h6⟩
theorem results_split {fn : Func} {p q r t : Tmp} {tmps : Array Value} {w : World} {g1 g2 : Nat} {x0 x1 x2 y0 y1 y2 k e : Value} (h : fn.results = #[.cell p 92, .tmp q, .cell r 92, .tmp t]) (hp : tmps.getD p undef = .pointer (some ⟨g1, 0, none⟩)) (hq : tmps.getD q undef = k) (hr : tmps.getD r undef = .pointer (some ⟨g2, 0, none⟩)) (ht : tmps.getD t undef = e) (hg1 : w.heap[g1]? = some (.cells #[x0, x1, x2] 92 (0, 0))) (hg2 : w.heap[g2]? = some (.cells #[y0, y1, y2] 92 (0, 0))) :
    (results fn tmps).run Tryz.prog w = .ok (.tuple #[.agg #[x0, x1, x2], k, .agg #[y0, y1, y2], e]) w := by
  have hp' : tmps[p]?.getD undef = .pointer (some ⟨g1, 0, none⟩) := by simpa using hp
  have hq' : tmps[q]?.getD undef = k := by simpa using hq
  have hr' : tmps[r]?.getD undef = .pointer (some ⟨g2, 0, none⟩) := by simpa using hr
  have ht' : tmps[t]?.getD undef = e := by simpa using ht
  obtain ⟨⟨c0, c1, c2⟩, -⟩ := box3 hg1
  obtain ⟨⟨d0, d1, d2⟩, -⟩ := box3 hg2
  simp [results, h, go_sem, hp', hq', hr', ht', c0, c1, c2, d0, d1, d2]
theorem OwnE.fitN {α : Type} {E : El α} {w : World} {B : Nat} (h : OwnE E w B (.slice none 0 0) []) : SlOk none ([] : List α).length 0 := by
  obtain ⟨p, c, e, -, hf, -⟩ := h.fit
  cases e
  exact hf
theorem pair_cell {W : World} {n : Nd} {a : NdP} {b o : Nat} (h : NdAt W n a) (e : a.pp = some ⟨b, o, none⟩) {i : Nat} (hi : i < n.ps.length) : W.cell? ⟨b, o + i * 2, none⟩ = some (.string ⟨(n.ps.getD i Pr.zero).k.toArray⟩) := by
  obtain ⟨b', o', e', hc⟩ := h.pair (by rintro he; simp [he] at hi)
  rw [e] at e'
  cases e'
  exact (hc i hi).1
theorem key_cell {W : World} {n : Nd} {a : NdP} {b o : Nat} (h : NdAt W n a) (e : a.pk = some ⟨b, o, none⟩) {i : Nat} (hi : i < n.ks.length) : W.cell? ⟨b, o + i, none⟩ = some (.string ⟨(n.ks.getD i []).toArray⟩) := by
  obtain ⟨b', o', e', hc⟩ := h.key (by rintro he; simp [he] at hi)
  rw [e] at e'
  cases e'
  exact hc i hi
/-- While the halves are told: the node's box, the halves' boxes, the answers' boxes, filled one after the other. -/
structure SpJ (w : World) (n : Nd) (a : NdP) (R1 R2 G1 G2 : Nat) (x : Nd) (ax : NdP) (y : Nd) (ay : NdP) (s : Nat) (W : World) : Prop where
  hn : NdBox w n a W
  hx : NBox W G1 x ax
  hy : NBox W G2 y ay
  r1 : Box3 W R1
  r2 : Box3 W R2
  d1 : 1 ≤ s → NBox W R1 x ax
  d2 : 2 ≤ s → NBox W R2 y ay
  o : w.heap.size < R1 ∧ R1 < R2 ∧ R2 < G1 ∧ G1 < G2
section
variable {w W W' : World} {n : Nd} {a : NdP} {R1 R2 G1 G2 g : Nat} {x : Nd} {ax : NdP} {y : Nd} {ay : NdP} {s : Nat}
theorem SpJ.below (h : SpJ w n a R1 R2 G1 G2 x ax y ay s W) (hb : Below W.heap.size W W') : SpJ w n a R1 R2 G1 G2 x ax y ay s W' :=
  ⟨h.hn.below hb, h.hx.below hb, h.hy.below hb, h.r1.below hb, h.r2.below hb, fun e => (h.d1 e).below hb, fun e => (h.d2 e).below hb, h.o⟩
theorem Box3.turned (h : Box3 W g) {k : Nat} (ht : Turned (· = k) W W') (hk : g ≠ k) : Box3 W' g := by
  obtain ⟨p1, n1, c1, p2, n2, c2, p3, n3, c3, hg⟩ := h
  exact ⟨p1, n1, c1, p2, n2, c2, p3, n3, c3, ht.heap hg hk⟩
theorem NBox.turned (h : NBox W g x ax) {k : Nat} (hk3 : Box3 W k) (ht : Turned (· = k) W W') (hk : g ≠ k) : NBox W' g x ax := ⟨ht.heap h.b hk, ndat_box h.s hk3 ht⟩
theorem NdBox.turned (h : NdBox w n a W) {k : Nat} (hk3 : Box3 W k) (ht : Turned (· = k) W W') (hk : w.heap.size < k) : NdBox w n a W' := ⟨ht.heap h.b (by omega), h.x.trans (ht.toBelow h.x.size (fun j _ e => by omega)), ndat_box h.s hk3 ht⟩
theorem SpJ.put1 (h : SpJ w n a R1 R2 G1 G2 x ax y ay s W) (_hs : s ≤ 0) : SpJ w n a R1 R2 G1 G2 x ax y ay 1 (((W.setCell ⟨R1, 0, none⟩ (.slice ax.pp x.ps.length ax.cp)).setCell ⟨R1, 1, none⟩ (.slice ax.pk x.ks.length ax.ck)).setCell ⟨R1, 2, none⟩ (.slice ax.pd x.ds.length ax.cd)) := by
  obtain ⟨h1, h2⟩ := nbox_set h.hx.s h.r1
  have ho := h.o
  exact ⟨h.hn.turned h.r1 h2 (by omega), h.hx.turned h.r1 h2 (by omega), h.hy.turned h.r1 h2 (by omega), h1.box3, h.r2.turned h2 (by omega), fun _ => h1, fun e => absurd e (by omega), h.o⟩
theorem SpJ.put2 (h : SpJ w n a R1 R2 G1 G2 x ax y ay s W) (h1s : 1 ≤ s) (_hs : s ≤ 1) : SpJ w n a R1 R2 G1 G2 x ax y ay 2 (((W.setCell ⟨R2, 0, none⟩ (.slice ay.pp y.ps.length ay.cp)).setCell ⟨R2, 1, none⟩ (.slice ay.pk y.ks.length ay.ck)).setCell ⟨R2, 2, none⟩ (.slice ay.pd y.ds.length ay.cd)) := by
  obtain ⟨h1, h2⟩ := nbox_set h.hy.s h.r2
  have ho := h.o
  exact ⟨h.hn.turned h.r2 h2 (by omega), h.hx.turned h.r2 h2 (by omega), h.hy.turned h.r2 h2 (by omega), h.r1.turned h2 (by omega), h1.box3, fun _ => (h.d1 h1s).turned h.r2 h2 (by omega), fun _ => h1, h.o⟩
end
/-- A new box, its first value stored, then the two of nothing. -/
theorem box_zero (W : World) (v : Value) : ∃ A B C, W.alloc (.cells #[v, .slice none 0 0, .slice none 0 0] 92) = A ∧ A.setCell ⟨W.heap.size, 1, none⟩ (.slice none 0 0) = B ∧ B.setCell ⟨W.heap.size, 2, none⟩ (.slice none 0 0) = C ∧ (A.cell? ⟨W.heap.size, 1, none⟩ = some (.slice none 0 0) ∧ A.frozen? ⟨W.heap.size, 1, none⟩ = false) ∧ (B.cell? ⟨W.heap.size, 2, none⟩ = some (.slice none 0 0) ∧ B.frozen? ⟨W.heap.size, 2, none⟩ = false) ∧
    Veil (C.heap[W.heap.size]? = some (.cells #[v, .slice none 0 0, .slice none 0 0] 92 (0, 0)) ∧ Below W.heap.size W C) := by
  refine ⟨_, _, _, rfl, rfl, rfl, ?_⟩
  obtain ⟨A, hA⟩ : ∃ A, W.alloc (.cells #[v, .slice none 0 0, .slice none 0 0] 92) = A := ⟨_, rfl⟩
  rw [hA]
  have a1 : A.heap[W.heap.size]? = some (.cells #[v, .slice none 0 0, .slice none 0 0] 92 (0, 0)) := by rw [← hA]; exact heap_alloc_new _ _
  have k1 : Below W.heap.size W A := by rw [← hA]; exact below_al (Below.refl _ _) _
  obtain ⟨⟨-, c1, -⟩, -, f1, -⟩ := box3 a1
  have t2 := (Turned.refl (· = W.heap.size) A).setCell (p := ⟨W.heap.size, 1, none⟩) rfl (.slice none 0 0)
  have b1 : (A.setCell ⟨W.heap.size, 1, none⟩ (.slice none 0 0)).heap[W.heap.size]? = some (.cells #[v, .slice none 0 0, .slice none 0 0] 92 (0, 0)) := heap_setCell_at a1 1 _
  generalize A.setCell ⟨W.heap.size, 1, none⟩ (.slice none 0 0) = B at *
  obtain ⟨⟨-, -, c2⟩, -, -, f2⟩ := box3 b1
  have t3 := (Turned.refl (· = W.heap.size) B).setCell (p := ⟨W.heap.size, 2, none⟩) rfl (.slice none 0 0)
  have d1 : (B.setCell ⟨W.heap.size, 2, none⟩ (.slice none 0 0)).heap[W.heap.size]? = some (.cells #[v, .slice none 0 0, .slice none 0 0] 92 (0, 0)) := heap_setCell_at b1 2 _
  have k2 := k1.trans (t2.toBelow k1.size (fun k _ e => by omega))
  exact ⟨⟨c1, f1⟩, ⟨c2, f2⟩, ⟨d1, k2.trans (t3.toBelow k2.size (fun k _ e => by omega))⟩⟩

set_option maxRecDepth 20000 in
set_option maxHeartbeats 4000000 in
theorem split_leaf {w : World} {n : Nd} {a : NdP} (h : NdAt w n a) (hf : NdFit n a) (c : Nat) (hc0 : 0 < c) (hcl : c < n.ps.length) (hd : n.ds.length = 0) (hP : n.ps.length ≤ 100000)
    (HCP : Veil (∀ W, NdAt W n a → Calls Tryz.prog 124 #[n.v a] W fun e w' => e = .returned (.int .i64 c) ∧ Below W.heap.size W w')) :
    Calls Tryz.prog 89 #[n.v a] w (SplPostF w ⟨n.ps.take c, [], []⟩ ⟨n.ps.drop c, [], []⟩ (n.ps.getD c Pr.zero).k 0) := by
  obtain ⟨r, hr⟩ : ∃ r, n.ps.length - c = r := ⟨_, rfl⟩
  have HC1 : Veil (∀ W, Calls Tryz.prog 88 #[.slice a.pp n.ps.length a.cp, .int .i64 0, .int .i64 c] W fun e w' => e = .returned (.slice (cutE elP a.pp 0 c) c c) ∧ W = w') := ⟨fun W => by
    have := ncutP_any hf.p 0 c (by omega) W
    rwa [Nat.zero_add] at this⟩
  have HC2 : Veil (∀ W, Calls Tryz.prog 88 #[.slice a.pp n.ps.length a.cp, .int .i64 c, .int .i64 n.ps.length] W fun e w' => e = .returned (.slice (cutE elP a.pp c r) r r) ∧ W = w') := ⟨fun W => by
    have := ncutP_any hf.p c r (by omega) W
    rwa [show c + r = n.ps.length by omega] at this⟩
  have e1 : (n.ps.take c).length = c := by rw [List.length_take]; omega
  have e2 : (n.ps.drop c).length = r := by rw [List.length_drop]; exact hr
  have HX1 : Veil (∀ W, NdAt W n a → Els elP W (cutE elP a.pp 0 c) (n.ps.take c)) := ⟨fun W hs => by have := hs.p.cut 0 c; simpa using this⟩
  have HX2 : Veil (∀ W, NdAt W n a → Els elP W (cutE elP a.pp c r) (n.ps.drop c)) := ⟨fun W hs => by have := hs.p.cut c r; rwa [List.take_of_length_le (by omega)] at this⟩
  have HCC : Veil (∀ W g q m (L : List Pr), W.heap[g]? = some (.cells #[.slice q m m] 22 (0, 0)) → L.length = m → m ≤ 1000000 → Els elP W q L → Calls Tryz.prog 87 #[.slice (some ⟨g, 0, none⟩) (1 : Nat) (1 : Nat)] W fun e w' => ∃ v, e = .returned v ∧ OwnE elP w' W.heap.size v L ∧ Below W.heap.size W w') := ⟨fun W g q m L hg hm hl hE => by
    refine (concatP_of (P := [⟨q, m, L⟩]) (g := g) (t := 22) (by simpa [Pt.v, hm] using hg) 1 ?_ ?_ (by simp)).mono ?_
    · intro x hx
      simp only [List.mem_cons, List.not_mem_nil, or_false] at hx
      rcases hx with rfl
      exact hE
    · simp only [sumL, List.map_cons, List.map_nil, List.sum_cons, List.sum_nil, hm]; omega
    · rintro e w' ⟨v, rfl, ho, hb'⟩
      exact ⟨v, rfl, by simpa [allL] using ho, hb'⟩⟩
  obtain ⟨b, o, hpe, -⟩ := h.pair (by rintro he; simp [he] at hcl)
  have HPE : Veil _ := ⟨hpe⟩
  obtain ⟨key, hkey⟩ : ∃ key, (n.ps.getD c Pr.zero).k = key := ⟨_, rfl⟩
  rw [hkey]
  have HKE : Veil _ := ⟨hkey⟩
  clear hkey
  revert e2; revert e1; revert HX2; revert HX1
  generalize n.ps.take c = X
  generalize n.ps.drop c = Y
  intro HX1 HX2 e1 e2
  obtain ⟨x, hx⟩ : ∃ x : Nd, (⟨X, [], []⟩ : Nd) = x := ⟨_, rfl⟩
  obtain ⟨y, hy⟩ : ∃ y : Nd, (⟨Y, [], []⟩ : Nd) = y := ⟨_, rfl⟩
  rw [hx, hy]
  have HXx : Veil _ := ⟨hx⟩
  have HYy : Veil _ := ⟨hy⟩
  clear hx hy
  have hr2 : r ≤ 100000 := by omega
  have E1 : Veil _ := ⟨e1⟩
  have E2 : Veil _ := ⟨e2⟩
  clear e1 e2
  have HW : Veil (NdBox w n a (w.alloc (.cells #[.slice a.pp n.ps.length a.cp, .slice a.pk n.ks.length a.ck, .slice a.pd n.ds.length a.cd] 92))) := ⟨NdBox.new h⟩
  obtain ⟨W1, hW1⟩ : ∃ W1, w.alloc (.cells #[.slice a.pp n.ps.length a.cp, .slice a.pk n.ks.length a.ck, .slice a.pd n.ds.length a.cd] 92) = W1 := ⟨_, rfl⟩
  obtain ⟨W2, hW2⟩ : ∃ W2, W1.alloc (.cells #[.slice none 0 0, .slice none 0 0, .slice none 0 0] 92) = W2 := ⟨_, rfl⟩
  obtain ⟨W3, hW3⟩ : ∃ W3, W2.alloc (.cells #[.slice none 0 0, .slice none 0 0, .slice none 0 0] 92) = W3 := ⟨_, rfl⟩
  have hb2 : Below W1.heap.size W1 W2 := by rw [← hW2]; exact below_al (Below.refl _ _) _
  have hb3 : Below W2.heap.size W2 W3 := by rw [← hW3]; exact below_al (Below.refl _ _) _
  have HB : Veil (NdBox w n a W3) := ⟨by have := HW.out; rw [hW1] at this; exact this.below (bn_then hb2 hb3)⟩
  have hr1 : Box3 W2 W1.heap.size := ⟨_, _, _, _, _, _, _, _, _, by rw [← hW2]; exact heap_alloc_new _ _⟩
  have HR1 : Veil (Box3 W3 W1.heap.size) := ⟨hr1.below hb3⟩
  have HR2 : Veil (Box3 W3 W2.heap.size) := ⟨⟨_, _, _, _, _, _, _, _, _, by rw [← hW3]; exact heap_alloc_new _ _⟩⟩
  have HZ : Veil (w.heap.size < W1.heap.size ∧ W1.heap.size < W2.heap.size ∧ W2.heap.size < W3.heap.size) := ⟨by
    have h1 : W1.heap.size = w.heap.size + 1 := by rw [← hW1]; simp
    have h2 : W2.heap.size = W1.heap.size + 1 := by rw [← hW2]; simp
    have h3 : W3.heap.size = W2.heap.size + 1 := by rw [← hW3]; simp
    omega⟩
  obtain ⟨a0, a1, a2⟩ := HB.out.cells
  clear h hb2 hb3 hr1 HW hf hpe
  have hd' : ((n.ds.length : Int) == 0) = true := by rw [beq_iff_eq]; omega
  have hc' : ((c : Int) == 0) = false := by rw [beq_eq_false_iff_ne]; omega
  clear hr hd
  unfold Nd.v at *
  go_enter Tryz.func89, Tryz.ntmps89
  go_wp2_with (first
    | (go_at_call 87; (with_reducible refine (HCC.out w8 _ _ _ Y HS8.out E2.out (by omega) (HX2.out _ HB8.out.s)).mono ?_); rintro e w9 ⟨v, rfl, ho, hb9⟩; obtain ⟨p9, c9, rfl, hel, hfi, hnw⟩ := ho.fit; have HY9 : Veil _ := ⟨hel⟩; have HF9 : Veil (SlNew w p9 Y.length c9) := ⟨⟨hfi, fun b hb => Nat.le_trans HB8.out.x.size (hnw b hb).1⟩⟩; have HN7' : Veil _ := ⟨HN7.out.below (bn_then hb8 hb9)⟩; have HB9 : Veil _ := ⟨HB8.out.below hb9⟩; have HZ9 : Veil (w6.heap.size < w9.heap.size) := ⟨by have := lt_of_heap HX7.out.1; have := hb8.size; have := hb9.size; omega⟩; have HR19 : Veil _ := ⟨(HR17.out.below hb8).below hb9⟩; have HR29 : Veil _ := ⟨(HR27.out.below hb8).below hb9⟩; obtain ⟨u10, v10, w10, hu10, hv10, hw10, ⟨i3, j3⟩, ⟨i4, j4⟩, HX10⟩ := box_zero w9 (.slice p9 Y.length c9); clear ho hel hfi hnw a0 a1 a2)
    | (go_at_call 88; (with_reducible refine (HC2.out w7).mono ?_); rintro e w7' ⟨rfl, rfl⟩; obtain ⟨w8, hw8⟩ : ∃ w8, w7.alloc (.cells #[.slice (cutE elP a.pp c r) r r] 22) = w8 := ⟨_, rfl⟩; have hb8 : Below w7.heap.size w7 w8 := (by rw [← hw8]; exact below_al (Below.refl _ _) _); have HS8 : Veil (w8.heap[w7.heap.size]? = some (.cells #[.slice (cutE elP a.pp c r) r r] 22 (0, 0))) := ⟨by rw [← hw8]; exact heap_alloc_new _ _⟩; have HB8 : Veil _ := ⟨HB7.out.below hb8⟩)
    | (go_at_call 87; (with_reducible refine (HCC.out w5 _ _ _ X HS5.out E1.out (by omega) (HX1.out _ HB5.out.s)).mono ?_); rintro e w6 ⟨v, rfl, ho, hb6⟩; obtain ⟨p6, c6, rfl, hel, hfi, hnw⟩ := ho.fit; have HF6 : Veil (SlNew w p6 X.length c6) := ⟨⟨hfi, fun b hb => Nat.le_trans HB5.out.x.size (hnw b hb).1⟩⟩; obtain ⟨u7, v7, w7, hu7, hv7, hw7, ⟨i1, j1⟩, ⟨i2, j2⟩, HX7⟩ := box_zero w6 (.slice p6 X.length c6); have hb7 : Below w6.heap.size w6 w7 := HX7.out.2; have HN7 : Veil (NBox w7 w6.heap.size ⟨X, [], []⟩ ⟨p6, c6, none, 0, none, 0⟩) := ⟨⟨HX7.out.1, ⟨hel.below hb7, Els.nil _ _, Els.nil _ _⟩⟩⟩; have HB7 : Veil _ := ⟨(HB5.out.below hb6).below hb7⟩; have HR17 : Veil _ := ⟨((HR15.out.below hb5).below hb6).below hb7⟩; have HR27 : Veil _ := ⟨((HR25.out.below hb5).below hb6).below hb7⟩; have HZ6 : Veil (W2.heap.size < w6.heap.size) := ⟨by have := HZ5.out; have := hb5.size; have := hb6.size; omega⟩; clear ho hel hfi hnw a0 a1 a2; obtain ⟨a0, a1, a2⟩ := HB7.out.cells)
    | (go_at_call 88; (with_reducible refine (HC1.out w4).mono ?_); rintro e w4' ⟨rfl, rfl⟩; obtain ⟨w5, hw5⟩ : ∃ w5, w4.alloc (.cells #[.slice (cutE elP a.pp 0 c) c c] 22) = w5 := ⟨_, rfl⟩; have hb5 : Below w4.heap.size w4 w5 := (by rw [← hw5]; exact below_al (Below.refl _ _) _); have HS5 : Veil (w5.heap[w4.heap.size]? = some (.cells #[.slice (cutE elP a.pp 0 c) c c] 22 (0, 0))) := ⟨by rw [← hw5]; exact heap_alloc_new _ _⟩; have HB5 : Veil _ := ⟨HB4.out.below hb5⟩)
    | (go_at_call 124; (with_reducible refine (HCP.out W3 HB.out.s).mono ?_); rintro e w4 ⟨rfl, hb4⟩; have HB4 : Veil _ := ⟨HB.out.below hb4⟩; have HR15 : Veil _ := ⟨HR1.out.below hb4⟩; have HR25 : Veil _ := ⟨HR2.out.below hb4⟩; have HZ5 : Veil (W2.heap.size < w4.heap.size) := ⟨by have := HZ.out; have := hb4.size; omega⟩; clear a0 a1 a2; obtain ⟨a0, a1, a2⟩ := HB4.out.cells))
  obtain ⟨G1, hG1⟩ : ∃ G1, w6.heap.size = G1 := ⟨_, rfl⟩
  obtain ⟨G2, hG2⟩ : ∃ G2, w9.heap.size = G2 := ⟨_, rfl⟩
  obtain ⟨R1, hR1⟩ : ∃ R1, W1.heap.size = R1 := ⟨_, rfl⟩
  obtain ⟨R2, hR2⟩ : ∃ R2, W2.heap.size = R2 := ⟨_, rfl⟩
  have HI0 : Veil (SpJ w n a R1 R2 G1 G2 ⟨X, [], []⟩ ⟨p6, c6, none, 0, none, 0⟩ ⟨Y, [], []⟩ ⟨p9, c9, none, 0, none, 0⟩ 0 w10.drew) := ⟨by
    rw [← hG1, ← hG2, ← hR1, ← hR2]
    have hb10 := HX10.out.2
    have ho : w.heap.size < W1.heap.size ∧ W1.heap.size < W2.heap.size ∧ W2.heap.size < w6.heap.size ∧ w6.heap.size < w9.heap.size := ⟨HZ.out.1, HZ.out.2.1, HZ6.out, HZ9.out⟩
    have hj : SpJ w n a W1.heap.size W2.heap.size w6.heap.size w9.heap.size ⟨X, [], []⟩ ⟨p6, c6, none, 0, none, 0⟩ ⟨Y, [], []⟩ ⟨p9, c9, none, 0, none, 0⟩ 0 w10 := ⟨HB9.out.below hb10, HN7'.out.below hb10, ⟨HX10.out.1, ⟨HY9.out.below hb10, Els.nil _ _, Els.nil _ _⟩⟩, HR19.out.below hb10, HR29.out.below hb10, fun e => absurd e (by omega), fun e => absurd e (by omega), ho⟩
    exact hj.below (Below.refl _ _).drew⟩
  have HFx : Veil (NdNew w ⟨X, [], []⟩ ⟨p6, c6, none, 0, none, 0⟩) := ⟨⟨⟨HF6.out.ok, (OwnE.nil elK w 0).fitN, (OwnE.nil elD w 0).fitN⟩, HF6.out.new, fun b h => (by cases h), fun b h => (by cases h)⟩⟩
  have HFy : Veil (NdNew w ⟨Y, [], []⟩ ⟨p9, c9, none, 0, none, 0⟩) := ⟨⟨⟨HF9.out.ok, (OwnE.nil elK w 0).fitN, (OwnE.nil elD w 0).fitN⟩, HF9.out.new, fun b h => (by cases h), fun b h => (by cases h)⟩⟩
  rw [hG1, hG2, hR1, hR2]
  revert HFy; revert HFx; revert HI0
  rw [HXx.out, HYy.out]
  generalize (⟨p6, c6, none, 0, none, 0⟩ : NdP) = ax
  generalize (⟨p9, c9, none, 0, none, 0⟩ : NdP) = ay
  intro HI0 HFx HFy
  clear hG1 hG2 hR1 hR2 hw10 hv10 hu10 hw8 hw7 hv7 hu7 hw5 hW1 hW2 hW3 HC1 HC2 HCC HX1 HX2 i1 i2 i3 i4 j1 j2 j3 j4 hb8 hb9 hb6 hb7 hb5 hb4 HS8 HS5 HB5 HB7 HB8 HB9 HB4 HB HCP
  refine region_stage 12 [[], [], [(1, 39)], [], [(2, 40), (3, 41)], [(4, 42)], [(5, 43)], [], [(0, 38)], [(6, 44)], [(7, 45)], []]
    [[], [], [1], [], [2, 3], [4], [5], [], [0], [0, 1, 2, 3, 4, 5, 6, 8], [0, 1, 2, 3, 4, 5, 6, 7, 8, 9], [0, 1, 2, 3, 4, 5, 6, 7, 8, 9, 10]]
    [(0, 38), (1, 39), (2, 40), (3, 41), (4, 42), (5, 43), (6, 44), (7, 45), (9, 3), (11, 5)]
    (fun s W => SpJ w n a R1 R2 G1 G2 x ax y ay s W)
    (fun i => ([fun v => v = .agg #[.slice ax.pp x.ps.length ax.cp, .slice ax.pk x.ks.length ax.ck, .slice ax.pd x.ds.length ax.cd], fun v => v = .pointer (some ⟨w.heap.size, 0, none⟩), fun v => v = .slice (some ⟨b, o, none⟩) n.ps.length a.cp, fun v => v = .int .i64 c, fun v => v = .pointer (some ⟨b, o + c * 2, none⟩), fun v => v = .pointer (some ⟨b, o + c * 2, none⟩), fun v => v = .string ⟨key.toArray⟩, fun v => v = .agg #[.slice ay.pp y.ps.length ay.cp, .slice ay.pk y.ks.length ay.ck, .slice ay.pd y.ds.length ay.cd], fun _ => True, fun v => v = .string ⟨key.toArray⟩, fun _ => True, fun v => v = .int .i64 0] : List (Value → Prop)).getD i fun _ => True)
    (fun i => [0, 0, 0, 0, 0, 0, 0, 0, 1, 1, 2, 2].getD i 0) (fun i => [2, 2, 2, 2, 2, 2, 2, 2, 0, 2, 1, 2].getD i 2) rfl (by kernel_rfl) ?_ ⟨?_, ?_, ?_, ?_, ?_, ?_, ?_, ?_, ?_, ?_, ?_, ?_, trivial⟩ ?_
  · exact HI0.out
  · intro vals s W hI hs _
    have hs : s ≤ 2 := hs
    obtain ⟨⟨b0, b1, b2⟩, -⟩ := box3 hI.hx.b
    dsimp only [putsL, slotOf]
    go_wp2
    exact ⟨rfl, s, hI, Nat.le_refl _, (by first | exact ⟨rfl, (show 0 ≤ s by omega)⟩ | exact rfl), (by intros; assumption)⟩
  · intro vals s W hI hs _
    have hs : s ≤ 2 := hs
    dsimp only [putsL, slotOf]
    go_wp2
    exact ⟨rfl, s, hI, Nat.le_refl _, (by first | exact ⟨rfl, (show 0 ≤ s by omega)⟩ | exact rfl), (by intros; assumption)⟩
  · intro vals s W hI hs ⟨⟨h1, l1⟩, _⟩
    have hs : s ≤ 2 := hs
    have l1 : 0 ≤ s := l1
    have h1 : vals 1 = .pointer (some ⟨w.heap.size, 0, none⟩) := h1
    obtain ⟨b0, b1, b2⟩ := hI.hn.cells; rw [HPE.out] at b0
    dsimp only [putsL, slotOf]
    rw [h1]
    go_wp2
    exact ⟨rfl, s, hI, Nat.le_refl _, (by first | exact ⟨rfl, (show 0 ≤ s by omega)⟩ | exact rfl), (by intros; assumption)⟩
  · intro vals s W hI hs _
    have hs : s ≤ 2 := hs
    dsimp only [putsL, slotOf]
    go_wp2
    exact ⟨rfl, s, hI, Nat.le_refl _, (by first | exact ⟨rfl, (show 0 ≤ s by omega)⟩ | exact rfl), (by intros; assumption)⟩
  · intro vals s W hI hs ⟨⟨h2, l2⟩, ⟨h3, l3⟩, _⟩
    have hs : s ≤ 2 := hs
    have l2 : 0 ≤ s := l2
    have l3 : 0 ≤ s := l3
    have h2 : vals 2 = .slice (some ⟨b, o, none⟩) n.ps.length a.cp := h2
    have h3 : vals 3 = .int .i64 c := h3
    dsimp only [putsL, slotOf]
    rw [h2, h3]
    go_wp2
    exact ⟨rfl, s, hI, Nat.le_refl _, (by first | exact ⟨rfl, (show 0 ≤ s by omega)⟩ | exact rfl), (by intros; assumption)⟩
  · intro vals s W hI hs ⟨⟨h4, l4⟩, _⟩
    have hs : s ≤ 2 := hs
    have l4 : 0 ≤ s := l4
    have h4 : vals 4 = .pointer (some ⟨b, o + c * 2, none⟩) := h4
    dsimp only [putsL, slotOf]
    rw [h4]
    go_wp2
    exact ⟨rfl, s, hI, Nat.le_refl _, (by first | exact ⟨rfl, (show 0 ≤ s by omega)⟩ | exact rfl), (by intros; assumption)⟩
  · intro vals s W hI hs ⟨⟨h5, l5⟩, _⟩
    have hs : s ≤ 2 := hs
    have l5 : 0 ≤ s := l5
    have h5 : vals 5 = .pointer (some ⟨b, o + c * 2, none⟩) := h5
    have b0 := pair_cell hI.hn.s HPE.out hcl; rw [HKE.out] at b0
    dsimp only [putsL, slotOf]
    rw [h5]
    go_wp2
    exact ⟨rfl, s, hI, Nat.le_refl _, (by first | exact ⟨rfl, (show 0 ≤ s by omega)⟩ | exact rfl), (by intros; assumption)⟩
  · intro vals s W hI hs _
    have hs : s ≤ 2 := hs
    obtain ⟨⟨b0, b1, b2⟩, -⟩ := box3 hI.hy.b
    dsimp only [putsL, slotOf]
    go_wp2
    exact ⟨rfl, s, hI, Nat.le_refl _, (by first | exact ⟨rfl, (show 0 ≤ s by omega)⟩ | exact rfl), (by intros; assumption)⟩
  · intro vals s W hI hs ⟨⟨h0, l0⟩, _⟩
    have hs : s ≤ 0 := hs
    have l0 : 0 ≤ s := l0
    have h0 : vals 0 = .agg #[.slice ax.pp x.ps.length ax.cp, .slice ax.pk x.ks.length ax.ck, .slice ax.pd x.ds.length ax.cd] := h0
    have hI4 := hI.put1 (by omega); have hr := hI.r1; obtain ⟨p1, n1, c1, p2, n2, c2, p3, n3, c3, hg⟩ := hr; obtain ⟨⟨b0, b1, b2⟩, k0, k1, k2⟩ := box3 hg
    dsimp only [putsL, slotOf]
    rw [h0]
    go_wp2
    refine ⟨rfl, 1, hI4, by omega, (by first | exact ⟨trivial, (show 1 ≤ 1 by omega)⟩ | exact trivial | exact Nat.le_refl _), ?_⟩
    first | exact ub_all ([2, 2, 2, 2, 2, 2, 2, 2, 0, 2, 1, 2] : List Nat) 1 2 8 [0] (by decide) (by decide) s | simpa using ub_all ([2, 2, 2, 2, 2, 2, 2, 2, 0, 2, 1, 2] : List Nat) 1 2 8 [0] (by decide) (by decide) s
  · intro vals s W hI hs ⟨⟨h0, l0⟩, ⟨h1, l1⟩, ⟨h2, l2⟩, ⟨h3, l3⟩, ⟨h4, l4⟩, ⟨h5, l5⟩, ⟨h6, l6⟩, ⟨h8, l8⟩, _⟩
    have hs : s ≤ 2 := hs
    have l0 : 0 ≤ s := l0
    have l1 : 0 ≤ s := l1
    have l2 : 0 ≤ s := l2
    have l3 : 0 ≤ s := l3
    have l4 : 0 ≤ s := l4
    have l5 : 0 ≤ s := l5
    have l6 : 0 ≤ s := l6
    have l8 : 1 ≤ s := l8
    have h6 : vals 6 = .string ⟨key.toArray⟩ := h6
    dsimp only [putsL, slotOf]
    rw [h6]
    go_wp2
    exact ⟨rfl, s, hI, Nat.le_refl _, (by first | exact ⟨rfl, (show 1 ≤ s by omega)⟩ | exact rfl), (by intros; assumption)⟩
  · intro vals s W hI hs ⟨⟨h0, l0⟩, ⟨h1, l1⟩, ⟨h2, l2⟩, ⟨h3, l3⟩, ⟨h4, l4⟩, ⟨h5, l5⟩, ⟨h6, l6⟩, ⟨h7, l7⟩, ⟨h8, l8⟩, ⟨h9, l9⟩, _⟩
    have hs : s ≤ 1 := hs
    have l0 : 0 ≤ s := l0
    have l1 : 0 ≤ s := l1
    have l2 : 0 ≤ s := l2
    have l3 : 0 ≤ s := l3
    have l4 : 0 ≤ s := l4
    have l5 : 0 ≤ s := l5
    have l6 : 0 ≤ s := l6
    have l7 : 0 ≤ s := l7
    have l8 : 1 ≤ s := l8
    have l9 : 1 ≤ s := l9
    have h7 : vals 7 = .agg #[.slice ay.pp y.ps.length ay.cp, .slice ay.pk y.ks.length ay.ck, .slice ay.pd y.ds.length ay.cd] := h7
    have hI4 := hI.put2 (by omega) (by omega); have hr := hI.r2; obtain ⟨p1, n1, c1, p2, n2, c2, p3, n3, c3, hg⟩ := hr; obtain ⟨⟨b0, b1, b2⟩, k0, k1, k2⟩ := box3 hg
    dsimp only [putsL, slotOf]
    rw [h7]
    go_wp2
    refine ⟨rfl, 2, hI4, by omega, (by first | exact ⟨trivial, (show 2 ≤ 2 by omega)⟩ | exact trivial | exact Nat.le_refl _), ?_⟩
    first | exact ub_all ([2, 2, 2, 2, 2, 2, 2, 2, 0, 2, 1, 2] : List Nat) 2 2 10 [0, 1, 2, 3, 4, 5, 6, 7, 8, 9] (by decide) (by decide) s | simpa using ub_all ([2, 2, 2, 2, 2, 2, 2, 2, 0, 2, 1, 2] : List Nat) 2 2 10 [0, 1, 2, 3, 4, 5, 6, 7, 8, 9] (by decide) (by decide) s
  · intro vals s W hI hs ⟨⟨h0, l0⟩, ⟨h1, l1⟩, ⟨h2, l2⟩, ⟨h3, l3⟩, ⟨h4, l4⟩, ⟨h5, l5⟩, ⟨h6, l6⟩, ⟨h7, l7⟩, ⟨h8, l8⟩, ⟨h9, l9⟩, ⟨h10, l10⟩, _⟩
    have hs : s ≤ 2 := hs
    have l0 : 0 ≤ s := l0
    have l1 : 0 ≤ s := l1
    have l2 : 0 ≤ s := l2
    have l3 : 0 ≤ s := l3
    have l4 : 0 ≤ s := l4
    have l5 : 0 ≤ s := l5
    have l6 : 0 ≤ s := l6
    have l7 : 0 ≤ s := l7
    have l8 : 1 ≤ s := l8
    have l9 : 1 ≤ s := l9
    have l10 : 2 ≤ s := l10
    dsimp only [putsL, slotOf]
    go_wp2
    exact ⟨rfl, s, hI, Nat.le_refl _, (by first | exact ⟨rfl, (show 2 ≤ s by omega)⟩ | exact rfl), (by intros; assumption)⟩
  rintro vals s W hI hq
  have q0 : vals 0 = .agg #[.slice ax.pp x.ps.length ax.cp, .slice ax.pk x.ks.length ax.ck, .slice ax.pd x.ds.length ax.cd] := (hq 0 (by decide)).1
  have q1 : vals 1 = .pointer (some ⟨w.heap.size, 0, none⟩) := (hq 1 (by decide)).1
  have q2 : vals 2 = .slice (some ⟨b, o, none⟩) n.ps.length a.cp := (hq 2 (by decide)).1
  have q3 : vals 3 = .int .i64 c := (hq 3 (by decide)).1
  have q4 : vals 4 = .pointer (some ⟨b, o + c * 2, none⟩) := (hq 4 (by decide)).1
  have q5 : vals 5 = .pointer (some ⟨b, o + c * 2, none⟩) := (hq 5 (by decide)).1
  have q6 : vals 6 = .string ⟨key.toArray⟩ := (hq 6 (by decide)).1
  have q7 : vals 7 = .agg #[.slice ay.pp y.ps.length ay.cp, .slice ay.pk y.ks.length ay.ck, .slice ay.pd y.ds.length ay.cd] := (hq 7 (by decide)).1
  have q9 : vals 9 = .string ⟨key.toArray⟩ := (hq 9 (by decide)).1
  have q11 : vals 11 = .int .i64 0 := (hq 11 (by decide)).1
  have hs : 2 ≤ s := (hq 10 (by decide)).2
  dsimp only [putsL]
  rw [q0, q1, q2, q3, q4, q5, q6, q7, q9, q11]
  clear hq q0 q1 q2 q3 q4 q5 q6 q7 q9 q11
  simp only [List.drop_succ_cons, List.drop_zero, List.setIfInBounds_toArray, List.set_cons_succ, List.set_cons_zero]
  go_wp2
  exact bodyPost_ret (results_split (g1 := R1) (g2 := R2) rfl rfl rfl rfl rfl (hI.d1 (by omega)).b (hI.d2 hs).b) rfl ⟨ax, ay, rfl, (hI.d1 (by omega)).s, (hI.d2 hs).s, HFx.out, HFy.out, hI.hn.x⟩
end Go.Proofs.YtokbmimbbeedcaaGreatDoor

/- The walk of Split, of a branch. -/
namespace Go.Proofs.YtokbmimbbeedcaaGreatDoor
open Go Go.RowKit Sm
attribute [local go_sem] Oper.semAt_some

set_option maxRecDepth 20000 in
set_option maxHeartbeats 4000000 in
theorem split_branch {w : World} {n : Nd} {a : NdP} (h : NdAt w n a) (hf : NdFit n a) (c c1 : Nat) (hc1 : c1 + 1 = c) (hcl : c1 < n.ks.length) (hcd : c ≤ n.ds.length) (hd : 0 < n.ds.length) (hK : n.ks.length ≤ 100000) (hD : n.ds.length ≤ 100000)
    (HCP : Veil (∀ W, NdAt W n a → Calls Tryz.prog 124 #[n.v a] W fun e w' => e = .returned (.int .i64 c) ∧ Below W.heap.size W w')) :
    Calls Tryz.prog 89 #[n.v a] w (SplPostF w ⟨[], n.ks.take c1, n.ds.take c⟩ ⟨[], n.ks.drop c, n.ds.drop c⟩ (n.ks.getD c1 []) 0) := by
  obtain ⟨r1, hr1⟩ : ∃ r1, n.ks.length - c = r1 := ⟨_, rfl⟩
  obtain ⟨r2, hr2⟩ : ∃ r2, n.ds.length - c = r2 := ⟨_, rfl⟩
  have HK1 : Veil (∀ W, Calls Tryz.prog 125 #[.slice a.pk n.ks.length a.ck, .int .i64 0, .int .i64 c1] W fun e w' => e = .returned (.slice (cutE elK a.pk 0 c1) c1 c1) ∧ W = w') := ⟨fun W => by
    have := ncutK_any hf.k 0 c1 (by omega) W
    rwa [Nat.zero_add] at this⟩
  have HK2 : Veil (∀ W, Calls Tryz.prog 125 #[.slice a.pk n.ks.length a.ck, .int .i64 c, .int .i64 n.ks.length] W fun e w' => e = .returned (.slice (cutE elK a.pk c r1) r1 r1) ∧ W = w') := ⟨fun W => by
    have := ncutK_any hf.k c r1 (by omega) W
    rwa [show c + r1 = n.ks.length by omega] at this⟩
  have HD1 : Veil (∀ W, Calls Tryz.prog 126 #[.slice a.pd n.ds.length a.cd, .int .i64 0, .int .i64 c] W fun e w' => e = .returned (.slice (cutE elD a.pd 0 c) c c) ∧ W = w') := ⟨fun W => by
    have := ncutD_any hf.d 0 c (by omega) W
    rwa [Nat.zero_add] at this⟩
  have HD2 : Veil (∀ W, Calls Tryz.prog 126 #[.slice a.pd n.ds.length a.cd, .int .i64 c, .int .i64 n.ds.length] W fun e w' => e = .returned (.slice (cutE elD a.pd c r2) r2 r2) ∧ W = w') := ⟨fun W => by
    have := ncutD_any hf.d c r2 (by omega) W
    rwa [show c + r2 = n.ds.length by omega] at this⟩
  have e1 : (n.ks.take c1).length = c1 := by rw [List.length_take]; omega
  have e2 : (n.ks.drop c).length = r1 := by rw [List.length_drop]; exact hr1
  have f1 : (n.ds.take c).length = c := by rw [List.length_take]; omega
  have f2 : (n.ds.drop c).length = r2 := by rw [List.length_drop]; exact hr2
  have E1 : Veil _ := ⟨e1⟩
  have E2 : Veil _ := ⟨e2⟩
  have F1 : Veil _ := ⟨f1⟩
  have F2 : Veil _ := ⟨f2⟩
  clear e1 e2 f1 f2
  have HX1 : Veil (∀ W, NdAt W n a → Els elK W (cutE elK a.pk 0 c1) (n.ks.take c1)) := ⟨fun W hs => by have := hs.k.cut 0 c1; simpa using this⟩
  have HX2 : Veil (∀ W, NdAt W n a → Els elK W (cutE elK a.pk c r1) (n.ks.drop c)) := ⟨fun W hs => by have := hs.k.cut c r1; rwa [List.take_of_length_le (by rw [List.length_drop]; omega)] at this⟩
  have HZ1 : Veil (∀ W, NdAt W n a → Els elD W (cutE elD a.pd 0 c) (n.ds.take c)) := ⟨fun W hs => by have := hs.d.cut 0 c; simpa using this⟩
  have HZ2 : Veil (∀ W, NdAt W n a → Els elD W (cutE elD a.pd c r2) (n.ds.drop c)) := ⟨fun W hs => by have := hs.d.cut c r2; rwa [List.take_of_length_le (by rw [List.length_drop]; omega)] at this⟩
  have HCK : Veil (∀ W g q m (L : List (List UInt8)), W.heap[g]? = some (.cells #[.slice q m m] 90 (0, 0)) → L.length = m → m ≤ 1000000 → Els elK W q L → Calls Tryz.prog 111 #[.slice (some ⟨g, 0, none⟩) (1 : Nat) (1 : Nat)] W fun e w' => ∃ v, e = .returned v ∧ OwnE elK w' W.heap.size v L ∧ Below W.heap.size W w') := ⟨fun W g q m L hg hm hl hE => by
    refine (concatK_of (P := [⟨q, m, L⟩]) (g := g) (t := 90) (by simpa [Pt.v, hm] using hg) 1 ?_ ?_ (by simp)).mono ?_
    · intro x hx
      simp only [List.mem_cons, List.not_mem_nil, or_false] at hx
      rcases hx with rfl
      exact hE
    · simp only [sumL, List.map_cons, List.map_nil, List.sum_cons, List.sum_nil, hm]; omega
    · rintro e w' ⟨v, rfl, ho, hb'⟩
      exact ⟨v, rfl, by simpa [allL] using ho, hb'⟩⟩
  have HCD : Veil (∀ W g q m (L : List Nat), W.heap[g]? = some (.cells #[.slice q m m] 51 (0, 0)) → L.length = m → m ≤ 1000000 → Els elD W q L → Calls Tryz.prog 110 #[.slice (some ⟨g, 0, none⟩) (1 : Nat) (1 : Nat)] W fun e w' => ∃ v, e = .returned v ∧ OwnE elD w' W.heap.size v L ∧ Below W.heap.size W w') := ⟨fun W g q m L hg hm hl hE => by
    refine (concatD_of (P := [⟨q, m, L⟩]) (g := g) (t := 51) (by simpa [Pt.v, hm] using hg) 1 ?_ ?_ (by simp)).mono ?_
    · intro x hx
      simp only [List.mem_cons, List.not_mem_nil, or_false] at hx
      rcases hx with rfl
      exact hE
    · simp only [sumL, List.map_cons, List.map_nil, List.sum_cons, List.sum_nil, hm]; omega
    · rintro e w' ⟨v, rfl, ho, hb'⟩
      exact ⟨v, rfl, by simpa [allL] using ho, hb'⟩⟩
  obtain ⟨b, o, hpe, -⟩ := h.key (by rintro he; simp [he] at hcl)
  have HPE : Veil _ := ⟨hpe⟩
  obtain ⟨key, hkey⟩ : ∃ key, n.ks.getD c1 [] = key := ⟨_, rfl⟩
  rw [hkey]
  have HKE : Veil _ := ⟨hkey⟩
  clear hkey
  revert F2; revert F1; revert E2; revert E1; revert HZ2; revert HZ1; revert HX2; revert HX1
  generalize n.ks.take c1 = X1
  generalize n.ks.drop c = X2
  generalize n.ds.take c = Z1
  generalize n.ds.drop c = Z2
  intro HX1 HX2 HZ1 HZ2 E1 E2 F1 F2
  obtain ⟨x, hx⟩ : ∃ x : Nd, (⟨[], X1, Z1⟩ : Nd) = x := ⟨_, rfl⟩
  obtain ⟨y, hy⟩ : ∃ y : Nd, (⟨[], X2, Z2⟩ : Nd) = y := ⟨_, rfl⟩
  rw [hx, hy]
  have HXx : Veil _ := ⟨hx⟩
  have HYy : Veil _ := ⟨hy⟩
  clear hx hy
  have hl1 : r1 ≤ 100000 := by omega
  have hl2 : r2 ≤ 100000 := by omega
  have hl3 : c ≤ 100000 := by omega
  have HE1 : Veil ((c : Int) - 1 = c1) := ⟨by omega⟩
  have HW : Veil (NdBox w n a (w.alloc (.cells #[.slice a.pp n.ps.length a.cp, .slice a.pk n.ks.length a.ck, .slice a.pd n.ds.length a.cd] 92))) := ⟨NdBox.new h⟩
  obtain ⟨W1, hW1⟩ : ∃ W1, w.alloc (.cells #[.slice a.pp n.ps.length a.cp, .slice a.pk n.ks.length a.ck, .slice a.pd n.ds.length a.cd] 92) = W1 := ⟨_, rfl⟩
  obtain ⟨W2, hW2⟩ : ∃ W2, W1.alloc (.cells #[.slice none 0 0, .slice none 0 0, .slice none 0 0] 92) = W2 := ⟨_, rfl⟩
  obtain ⟨W3, hW3⟩ : ∃ W3, W2.alloc (.cells #[.slice none 0 0, .slice none 0 0, .slice none 0 0] 92) = W3 := ⟨_, rfl⟩
  have hb2 : Below W1.heap.size W1 W2 := by rw [← hW2]; exact below_al (Below.refl _ _) _
  have hb3 : Below W2.heap.size W2 W3 := by rw [← hW3]; exact below_al (Below.refl _ _) _
  have HB : Veil (NdBox w n a W3) := ⟨by have := HW.out; rw [hW1] at this; exact this.below (bn_then hb2 hb3)⟩
  have hr1' : Box3 W2 W1.heap.size := ⟨_, _, _, _, _, _, _, _, _, by rw [← hW2]; exact heap_alloc_new _ _⟩
  have HR1 : Veil (Box3 W3 W1.heap.size) := ⟨hr1'.below hb3⟩
  have HR2 : Veil (Box3 W3 W2.heap.size) := ⟨⟨_, _, _, _, _, _, _, _, _, by rw [← hW3]; exact heap_alloc_new _ _⟩⟩
  have HZ : Veil (w.heap.size < W1.heap.size ∧ W1.heap.size < W2.heap.size ∧ W2.heap.size < W3.heap.size) := ⟨by
    have h1 : W1.heap.size = w.heap.size + 1 := by rw [← hW1]; simp
    have h2 : W2.heap.size = W1.heap.size + 1 := by rw [← hW2]; simp
    have h3 : W3.heap.size = W2.heap.size + 1 := by rw [← hW3]; simp
    omega⟩
  obtain ⟨a0, a1, a2⟩ := HB.out.cells
  clear h hb2 hb3 hr1' HW hf hpe
  have hd' : ((n.ds.length : Int) == 0) = false := by rw [beq_eq_false_iff_ne]; omega
  have hc' : ((c : Int) == 0) = false := by rw [beq_eq_false_iff_ne]; omega
  clear hr1 hr2 hd hc1
  unfold Nd.v at *
  go_enter Tryz.func89, Tryz.ntmps89
  go_wp2_with (go_at_call 124; (with_reducible refine (HCP.out W3 HB.out.s).mono ?_); rintro e w4 ⟨rfl, hb4⟩; have HB4 : Veil _ := ⟨HB.out.below hb4⟩; have HR14 : Veil _ := ⟨HR1.out.below hb4⟩; have HR24 : Veil _ := ⟨HR2.out.below hb4⟩; have HZ5 : Veil (W2.heap.size < w4.heap.size) := ⟨by have := HZ.out; have := hb4.size; omega⟩; clear a0 a1 a2; obtain ⟨a0, a1, a2⟩ := HB4.out.cells)
  clear hW1 hW2 hW3 a0 a1 a2 HB HR1 HR2 hb4 HCP
  refine region_new [.is (.pointer (some ⟨w.heap.size, 1, none⟩)), .is (.slice a.pk n.ks.length a.ck), .is (.int .i64 c), .is (.int .i64 c1), .is (.slice (cutE elK a.pk 0 c1) c1 c1), .row 0 (fun g => .slice (some ⟨g, 0, none⟩) 1 1) #[.slice (cutE elK a.pk 0 c1) c1 c1] 90, .gen (fun v W => ∃ p c, v = .slice p X1.length c ∧ Els elK W p X1 ∧ SlNew w p X1.length c) (fun v W W' hb ⟨p, c, h1, h2, h3⟩ => ⟨p, c, h1, h2.below hb, h3⟩), .is (.pointer (some ⟨w.heap.size, 2, none⟩)), .is (.slice a.pd n.ds.length a.cd), .is (.int .i64 c), .is (.slice (cutE elD a.pd 0 c) c c), .row 0 (fun g => .slice (some ⟨g, 0, none⟩) 1 1) #[.slice (cutE elD a.pd 0 c) c c] 51, .gen (fun v W => ∃ p c, v = .slice p Z1.length c ∧ Els elD W p Z1 ∧ SlNew w p Z1.length c) (fun v W W' hb ⟨p, c, h1, h2, h3⟩ => ⟨p, c, h1, h2.below hb, h3⟩), .gen (fun v W => ∃ ax : NdP, v = .agg #[.slice ax.pp x.ps.length ax.cp, .slice ax.pk x.ks.length ax.ck, .slice ax.pd x.ds.length ax.cd] ∧ NdAt W x ax ∧ NdNew w x ax) (fun v W W' hb ⟨a, h1, h2, h3⟩ => ⟨a, h1, h2.below hb, h3⟩), .row w4.heap.size (fun g => .pointer (some ⟨g, 0, none⟩)) #[.slice none 0 0, .slice none 0 0, .slice none 0 0] 92]
    [[], [(0, 46)], [], [(2, 48)], [(1, 47), (3, 49)], [(4, 50)], [(5, 51)], [], [(7, 53)], [], [(8, 54), (9, 55)], [(10, 56)], [(11, 57)], [(6, 52), (12, 58)], []]
    [[], [0], [], [2], [1, 3], [4], [4, 5], [], [7], [], [6, 8, 9], [10], [10, 11], [6, 12], []]
    [(0, 46), (1, 47), (2, 48), (3, 49), (4, 50), (5, 51), (6, 52), (7, 53), (8, 54), (9, 55), (10, 56), (11, 57), (12, 58), (13, 59), (14, 9)] rfl (by kernel_rfl) ⟨?_, ?_, ?_, ?_, ?_, ?_, ?_, ?_, ?_, ?_, ?_, ?_, ?_, ?_, ?_, trivial⟩ ?_
  · intro vals W hB _
    dsimp only [putsL, slotOf]
    go_wp2
    exact ⟨rfl, Below.refl _ _, rfl⟩
  · intro vals W hB ⟨h0, _⟩
    have h0 : vals 0 = _ := h0
    obtain ⟨a0, a1, a2⟩ := (HB4.out.below hB).cells
    dsimp only [putsL, slotOf]
    rw [h0]
    go_wp2
    exact ⟨rfl, Below.refl _ _, rfl⟩
  · intro vals W hB _
    dsimp only [putsL, slotOf]
    go_wp2
    exact ⟨rfl, Below.refl _ _, rfl⟩
  · intro vals W hB ⟨h2, _⟩
    have h2 : vals 2 = _ := h2
    dsimp only [putsL, slotOf]
    rw [h2]
    go_wp2
    exact ⟨rfl, Below.refl _ _, congrArg (Value.int IntKind.i64) HE1.out⟩
  · intro vals W hB ⟨h1, h3, _⟩
    have h1 : vals 1 = _ := h1
    have h3 : vals 3 = _ := h3
    dsimp only [putsL, slotOf]
    rw [h1, h3]
    go_wp2_with ((go_at_call 125; refine (HK1.out _).mono ?_; rintro e w5 ⟨rfl, rfl⟩; have hb4 := Below.refl W.heap.size W))
    exact ⟨rfl, hb4, rfl⟩
  · intro vals W hB ⟨h4, _⟩
    have h4 : vals 4 = _ := h4
    dsimp only [putsL, slotOf]
    rw [h4]
    go_wp2
    exact ⟨rfl, below_al (Below.refl _ _) _, _, Nat.zero_le _, rfl, heap_alloc_new _ _⟩
  · intro vals W hB ⟨h4, ⟨g5, _, h5, hg5⟩, _⟩
    have h5 : vals 5 = _ := h5
    dsimp only [putsL, slotOf]
    rw [h5]
    go_wp2_with ((go_at_call 111; refine (HCK.out W _ _ _ X1 hg5 E1.out (by omega) (HX1.out _ (HB4.out.below hB).s)).mono ?_; rintro e w5 ⟨v, rfl, ho, hb4⟩; obtain ⟨p5, c5, rfl, hel, hfi, hnw⟩ := ho.fit))
    exact ⟨rfl, hb4, ⟨p5, c5, rfl, hel, ⟨hfi, fun b hb => Nat.le_trans (HB4.out.below hB).x.size (hnw b hb).1⟩⟩⟩
  · intro vals W hB _
    dsimp only [putsL, slotOf]
    go_wp2
    exact ⟨rfl, Below.refl _ _, rfl⟩
  · intro vals W hB ⟨h7, _⟩
    have h7 : vals 7 = _ := h7
    obtain ⟨a0, a1, a2⟩ := (HB4.out.below hB).cells
    dsimp only [putsL, slotOf]
    rw [h7]
    go_wp2
    exact ⟨rfl, Below.refl _ _, rfl⟩
  · intro vals W hB _
    dsimp only [putsL, slotOf]
    go_wp2
    exact ⟨rfl, Below.refl _ _, rfl⟩
  · intro vals W hB ⟨⟨pu6, cu6, h6, hz6⟩, h8, h9, _⟩
    have h8 : vals 8 = _ := h8
    have h9 : vals 9 = _ := h9
    dsimp only [putsL, slotOf]
    rw [h8, h9]
    go_wp2_with ((go_at_call 126; refine (HD1.out _).mono ?_; rintro e w5 ⟨rfl, rfl⟩; have hb4 := Below.refl W.heap.size W))
    exact ⟨rfl, hb4, rfl⟩
  · intro vals W hB ⟨h10, _⟩
    have h10 : vals 10 = _ := h10
    dsimp only [putsL, slotOf]
    rw [h10]
    go_wp2
    exact ⟨rfl, below_al (Below.refl _ _) _, _, Nat.zero_le _, rfl, heap_alloc_new _ _⟩
  · intro vals W hB ⟨h10, ⟨g11, _, h11, hg11⟩, _⟩
    have h11 : vals 11 = _ := h11
    dsimp only [putsL, slotOf]
    rw [h11]
    go_wp2_with ((go_at_call 110; refine (HCD.out W _ _ _ Z1 hg11 F1.out (by omega) (HZ1.out _ (HB4.out.below hB).s)).mono ?_; rintro e w5 ⟨v, rfl, ho, hb4⟩; obtain ⟨p5, c5, rfl, hel, hfi, hnw⟩ := ho.fit))
    exact ⟨rfl, hb4, ⟨p5, c5, rfl, hel, ⟨hfi, fun b hb => Nat.le_trans (HB4.out.below hB).x.size (hnw b hb).1⟩⟩⟩
  · intro vals W hB ⟨⟨pu6, cu6, h6, hz6⟩, ⟨pu12, cu12, h12, hz12⟩, _⟩
    have h6 : vals 6 = _ := h6
    have h12 : vals 12 = _ := h12
    dsimp only [putsL, slotOf]
    rw [h6, h12]
    go_wp2
    exact ⟨rfl, Below.refl _ _, ⟨⟨none, 0, pu6, cu6, pu12, cu12⟩, by rw [← HXx.out]; rfl, by rw [← HXx.out]; exact ⟨Els.nil _ _, hz6.1, hz12.1⟩, by rw [← HXx.out]; exact ⟨⟨(OwnE.nil elP w 0).fitN, hz6.2.ok, hz12.2.ok⟩, fun b h => (by cases h), hz6.2.new, hz12.2.new⟩⟩⟩
  · intro vals W hB _
    dsimp only [putsL, slotOf]
    go_wp2
    exact ⟨rfl, below_al (Below.refl _ _) _, _, hB.size, rfl, heap_alloc_new _ _⟩
  rintro vals W5 hB ⟨q0, q1, q2, q3, q4, ⟨g5, hw5, q5, hg5⟩, ⟨pu6, cu6, q6, hz6⟩, q7, q8, q9, q10, ⟨g11, hw11, q11, hg11⟩, ⟨pu12, cu12, q12, hz12⟩, ⟨ax, q13, hat, hfit⟩, ⟨G1, hw14, q14, hg⟩, -⟩
  have h0 : vals 0 = _ := q0
  have h1 : vals 1 = _ := q1
  have h2 : vals 2 = _ := q2
  have h3 : vals 3 = _ := q3
  have h4 : vals 4 = _ := q4
  have h5 : vals 5 = _ := q5
  have h6 : vals 6 = _ := q6
  have h7 : vals 7 = _ := q7
  have h8 : vals 8 = _ := q8
  have h9 : vals 9 = _ := q9
  have h10 : vals 10 = _ := q10
  have h11 : vals 11 = _ := q11
  have h12 : vals 12 = _ := q12
  have h13 : vals 13 = _ := q13
  have h14 : vals 14 = _ := q14
  dsimp only [putsL]
  rw [h0, h1, h2, h3, h4, h5, h6, h7, h8, h9, h10, h11, h12, h13, h14]
  clear h0 q0 h1 q1 h2 q2 h3 q3 h4 q4 h5 q5 h6 q6 h7 q7 h8 q8 h9 q9 h10 q10 h11 q11 h12 q12 h13 q13 h14 q14
  simp only [List.length_cons, List.length_nil, Nat.reduceAdd, List.drop_succ_cons, List.drop_zero, List.setIfInBounds_toArray, List.set_cons_succ, List.set_cons_zero]
  obtain ⟨hN, hT⟩ := nbox_set hat ⟨_, _, _, _, _, _, _, _, _, hg⟩
  obtain ⟨W6, hW6⟩ : ∃ W6, ((W5.setCell ⟨G1, 0, none⟩ (.slice ax.pp x.ps.length ax.cp)).setCell ⟨G1, 1, none⟩ (.slice ax.pk x.ks.length ax.ck)).setCell ⟨G1, 2, none⟩ (.slice ax.pd x.ds.length ax.cd) = W6 := ⟨_, rfl⟩
  rw [hW6] at hN hT
  have HZ8 : Veil (W2.heap.size < G1 ∧ G1 < W6.heap.size) := ⟨by have := HZ5.out; have := lt_of_heap hN.b; omega⟩
  have h3 : Box3 W5 G1 := ⟨_, _, _, _, _, _, _, _, _, hg⟩
  have HB6 : Veil _ := ⟨(HB4.out.below hB).turned h3 hT (by have := HZ.out; have := HZ8.out; omega)⟩
  have HR16 : Veil _ := ⟨(HR14.out.below hB).turned hT (by have := HZ.out; have := HZ8.out; omega)⟩
  have HR26 : Veil _ := ⟨(HR24.out.below hB).turned hT (by have := HZ.out; have := HZ8.out; omega)⟩
  have HN6 : Veil _ := ⟨hN⟩
  have HFx : Veil _ := ⟨hfit⟩
  obtain ⟨⟨z0, z1, z2⟩, k0, k1, k2⟩ := box3 hg
  clear hB hN hT h3 hat hfit hg HB4 HR14 HR24 hw14
  go_wp2
  clear hW6 z0 z1 z2 k0 k1 k2
  refine region_new [.is (.pointer (some ⟨w.heap.size, 1, none⟩)), .is (.slice a.pk n.ks.length a.ck), .is (.int .i64 c), .is (.pointer (some ⟨w.heap.size, 1, none⟩)), .is (.slice a.pk n.ks.length a.ck), .is (.int .i64 n.ks.length), .is (.slice (cutE elK a.pk c r1) r1 r1), .row 0 (fun g => .slice (some ⟨g, 0, none⟩) 1 1) #[.slice (cutE elK a.pk c r1) r1 r1] 90, .gen (fun v W => ∃ p c, v = .slice p X2.length c ∧ Els elK W p X2 ∧ SlNew w p X2.length c) (fun v W W' hb ⟨p, c, h1, h2, h3⟩ => ⟨p, c, h1, h2.below hb, h3⟩), .is (.pointer (some ⟨w.heap.size, 2, none⟩)), .is (.slice a.pd n.ds.length a.cd), .is (.int .i64 c), .is (.pointer (some ⟨w.heap.size, 2, none⟩)), .is (.slice a.pd n.ds.length a.cd), .is (.int .i64 n.ds.length), .is (.slice (cutE elD a.pd c r2) r2 r2), .row 0 (fun g => .slice (some ⟨g, 0, none⟩) 1 1) #[.slice (cutE elD a.pd c r2) r2 r2] 51, .gen (fun v W => ∃ p c, v = .slice p Z2.length c ∧ Els elD W p Z2 ∧ SlNew w p Z2.length c) (fun v W W' hb ⟨p, c, h1, h2, h3⟩ => ⟨p, c, h1, h2.below hb, h3⟩), .gen (fun v W => ∃ ax : NdP, v = .agg #[.slice ax.pp y.ps.length ax.cp, .slice ax.pk y.ks.length ax.ck, .slice ax.pd y.ds.length ax.cd] ∧ NdAt W y ax ∧ NdNew w y ax) (fun v W W' hb ⟨a, h1, h2, h3⟩ => ⟨a, h1, h2.below hb, h3⟩), .row W6.heap.size (fun g => .pointer (some ⟨g, 0, none⟩)) #[.slice none 0 0, .slice none 0 0, .slice none 0 0] 92]
    [[], [(0, 60)], [], [], [(3, 63)], [(4, 64)], [(1, 61), (2, 62), (5, 65)], [(6, 66)], [(7, 67)], [], [(9, 69)], [], [], [(12, 72)], [(13, 73)], [(10, 70), (11, 71), (14, 74)], [(15, 75)], [(16, 76)], [(8, 68), (17, 77)], []]
    [[], [0], [], [], [3], [4], [1, 2, 5], [6], [6, 7], [], [9], [], [], [12], [13], [8, 10, 11, 14], [15], [15, 16], [8, 17], []]
    [(0, 60), (1, 61), (2, 62), (3, 63), (4, 64), (5, 65), (6, 66), (7, 67), (8, 68), (9, 69), (10, 70), (11, 71), (12, 72), (13, 73), (14, 74), (15, 75), (16, 76), (17, 77), (18, 78), (19, 10)] rfl (by kernel_rfl) ⟨?_, ?_, ?_, ?_, ?_, ?_, ?_, ?_, ?_, ?_, ?_, ?_, ?_, ?_, ?_, ?_, ?_, ?_, ?_, ?_, trivial⟩ ?_
  · intro vals W hB _
    dsimp only [putsL, slotOf]
    go_wp2
    exact ⟨rfl, Below.refl _ _, rfl⟩
  · intro vals W hB ⟨h0, _⟩
    have h0 : vals 0 = _ := h0
    obtain ⟨a0, a1, a2⟩ := (HB6.out.below hB).cells
    dsimp only [putsL, slotOf]
    rw [h0]
    go_wp2
    exact ⟨rfl, Below.refl _ _, rfl⟩
  · intro vals W hB _
    dsimp only [putsL, slotOf]
    go_wp2
    exact ⟨rfl, Below.refl _ _, rfl⟩
  · intro vals W hB _
    dsimp only [putsL, slotOf]
    go_wp2
    exact ⟨rfl, Below.refl _ _, rfl⟩
  · intro vals W hB ⟨h3, _⟩
    have h3 : vals 3 = _ := h3
    obtain ⟨a0, a1, a2⟩ := (HB6.out.below hB).cells
    dsimp only [putsL, slotOf]
    rw [h3]
    go_wp2
    exact ⟨rfl, Below.refl _ _, rfl⟩
  · intro vals W hB ⟨h4, _⟩
    have h4 : vals 4 = _ := h4
    dsimp only [putsL, slotOf]
    rw [h4]
    go_wp2
    exact ⟨rfl, Below.refl _ _, rfl⟩
  · intro vals W hB ⟨h1, h2, h5, _⟩
    have h1 : vals 1 = _ := h1
    have h2 : vals 2 = _ := h2
    have h5 : vals 5 = _ := h5
    dsimp only [putsL, slotOf]
    rw [h1, h2, h5]
    go_wp2_with ((go_at_call 125; refine (HK2.out _).mono ?_; rintro e w5 ⟨rfl, rfl⟩; have hb4 := Below.refl W.heap.size W))
    exact ⟨rfl, hb4, rfl⟩
  · intro vals W hB ⟨h6, _⟩
    have h6 : vals 6 = _ := h6
    dsimp only [putsL, slotOf]
    rw [h6]
    go_wp2
    exact ⟨rfl, below_al (Below.refl _ _) _, _, Nat.zero_le _, rfl, heap_alloc_new _ _⟩
  · intro vals W hB ⟨h6, ⟨g7, _, h7, hg7⟩, _⟩
    have h7 : vals 7 = _ := h7
    dsimp only [putsL, slotOf]
    rw [h7]
    go_wp2_with ((go_at_call 111; refine (HCK.out W _ _ _ X2 hg7 E2.out (by omega) (HX2.out _ (HB6.out.below hB).s)).mono ?_; rintro e w5 ⟨v, rfl, ho, hb4⟩; obtain ⟨p5, c5, rfl, hel, hfi, hnw⟩ := ho.fit))
    exact ⟨rfl, hb4, ⟨p5, c5, rfl, hel, ⟨hfi, fun b hb => Nat.le_trans (HB6.out.below hB).x.size (hnw b hb).1⟩⟩⟩
  · intro vals W hB _
    dsimp only [putsL, slotOf]
    go_wp2
    exact ⟨rfl, Below.refl _ _, rfl⟩
  · intro vals W hB ⟨h9, _⟩
    have h9 : vals 9 = _ := h9
    obtain ⟨a0, a1, a2⟩ := (HB6.out.below hB).cells
    dsimp only [putsL, slotOf]
    rw [h9]
    go_wp2
    exact ⟨rfl, Below.refl _ _, rfl⟩
  · intro vals W hB _
    dsimp only [putsL, slotOf]
    go_wp2
    exact ⟨rfl, Below.refl _ _, rfl⟩
  · intro vals W hB _
    dsimp only [putsL, slotOf]
    go_wp2
    exact ⟨rfl, Below.refl _ _, rfl⟩
  · intro vals W hB ⟨h12, _⟩
    have h12 : vals 12 = _ := h12
    obtain ⟨a0, a1, a2⟩ := (HB6.out.below hB).cells
    dsimp only [putsL, slotOf]
    rw [h12]
    go_wp2
    exact ⟨rfl, Below.refl _ _, rfl⟩
  · intro vals W hB ⟨h13, _⟩
    have h13 : vals 13 = _ := h13
    dsimp only [putsL, slotOf]
    rw [h13]
    go_wp2
    exact ⟨rfl, Below.refl _ _, rfl⟩
  · intro vals W hB ⟨⟨pu8, cu8, h8, hz8⟩, h10, h11, h14, _⟩
    have h10 : vals 10 = _ := h10
    have h11 : vals 11 = _ := h11
    have h14 : vals 14 = _ := h14
    dsimp only [putsL, slotOf]
    rw [h10, h11, h14]
    go_wp2_with ((go_at_call 126; refine (HD2.out _).mono ?_; rintro e w5 ⟨rfl, rfl⟩; have hb4 := Below.refl W.heap.size W))
    exact ⟨rfl, hb4, rfl⟩
  · intro vals W hB ⟨h15, _⟩
    have h15 : vals 15 = _ := h15
    dsimp only [putsL, slotOf]
    rw [h15]
    go_wp2
    exact ⟨rfl, below_al (Below.refl _ _) _, _, Nat.zero_le _, rfl, heap_alloc_new _ _⟩
  · intro vals W hB ⟨h15, ⟨g16, _, h16, hg16⟩, _⟩
    have h16 : vals 16 = _ := h16
    dsimp only [putsL, slotOf]
    rw [h16]
    go_wp2_with ((go_at_call 110; refine (HCD.out W _ _ _ Z2 hg16 F2.out (by omega) (HZ2.out _ (HB6.out.below hB).s)).mono ?_; rintro e w5 ⟨v, rfl, ho, hb4⟩; obtain ⟨p5, c5, rfl, hel, hfi, hnw⟩ := ho.fit))
    exact ⟨rfl, hb4, ⟨p5, c5, rfl, hel, ⟨hfi, fun b hb => Nat.le_trans (HB6.out.below hB).x.size (hnw b hb).1⟩⟩⟩
  · intro vals W hB ⟨⟨pu8, cu8, h8, hz8⟩, ⟨pu17, cu17, h17, hz17⟩, _⟩
    have h8 : vals 8 = _ := h8
    have h17 : vals 17 = _ := h17
    dsimp only [putsL, slotOf]
    rw [h8, h17]
    go_wp2
    exact ⟨rfl, Below.refl _ _, ⟨⟨none, 0, pu8, cu8, pu17, cu17⟩, by rw [← HYy.out]; rfl, by rw [← HYy.out]; exact ⟨Els.nil _ _, hz8.1, hz17.1⟩, by rw [← HYy.out]; exact ⟨⟨(OwnE.nil elP w 0).fitN, hz8.2.ok, hz17.2.ok⟩, fun b h => (by cases h), hz8.2.new, hz17.2.new⟩⟩⟩
  · intro vals W hB _
    dsimp only [putsL, slotOf]
    go_wp2
    exact ⟨rfl, below_al (Below.refl _ _) _, _, hB.size, rfl, heap_alloc_new _ _⟩
  rintro vals W7 hB ⟨q0, q1, q2, q3, q4, q5, q6, ⟨g7, hw7, q7, hg7⟩, ⟨pu8, cu8, q8, hz8⟩, q9, q10, q11, q12, q13, q14, q15, ⟨g16, hw16, q16, hg16⟩, ⟨pu17, cu17, q17, hz17⟩, ⟨ay, q18, hat, hfit⟩, ⟨G2, hw19, q19, hg⟩, -⟩
  have h0 : vals 0 = _ := q0
  have h1 : vals 1 = _ := q1
  have h2 : vals 2 = _ := q2
  have h3 : vals 3 = _ := q3
  have h4 : vals 4 = _ := q4
  have h5 : vals 5 = _ := q5
  have h6 : vals 6 = _ := q6
  have h7 : vals 7 = _ := q7
  have h8 : vals 8 = _ := q8
  have h9 : vals 9 = _ := q9
  have h10 : vals 10 = _ := q10
  have h11 : vals 11 = _ := q11
  have h12 : vals 12 = _ := q12
  have h13 : vals 13 = _ := q13
  have h14 : vals 14 = _ := q14
  have h15 : vals 15 = _ := q15
  have h16 : vals 16 = _ := q16
  have h17 : vals 17 = _ := q17
  have h18 : vals 18 = _ := q18
  have h19 : vals 19 = _ := q19
  dsimp only [putsL]
  rw [h0, h1, h2, h3, h4, h5, h6, h7, h8, h9, h10, h11, h12, h13, h14, h15, h16, h17, h18, h19]
  clear h0 q0 h1 q1 h2 q2 h3 q3 h4 q4 h5 q5 h6 q6 h7 q7 h8 q8 h9 q9 h10 q10 h11 q11 h12 q12 h13 q13 h14 q14 h15 q15 h16 q16 h17 q17 h18 q18 h19 q19
  simp only [List.length_cons, List.length_nil, Nat.reduceAdd, List.drop_succ_cons, List.drop_zero, List.setIfInBounds_toArray, List.set_cons_succ, List.set_cons_zero]
  obtain ⟨hN, hT⟩ := nbox_set hat ⟨_, _, _, _, _, _, _, _, _, hg⟩
  obtain ⟨W8, hW8⟩ : ∃ W8, ((W7.setCell ⟨G2, 0, none⟩ (.slice ay.pp y.ps.length ay.cp)).setCell ⟨G2, 1, none⟩ (.slice ay.pk y.ks.length ay.ck)).setCell ⟨G2, 2, none⟩ (.slice ay.pd y.ds.length ay.cd) = W8 := ⟨_, rfl⟩
  rw [hW8] at hN hT
  have HZ9 : Veil (G1 < G2) := ⟨by have := HZ8.out; omega⟩
  have h3 : Box3 W7 G2 := ⟨_, _, _, _, _, _, _, _, _, hg⟩
  have HJ : Veil (SpJ w n a W1.heap.size W2.heap.size G1 G2 x ax y ay 0 W8) := ⟨by
    have h1 := HZ.out
    have h2 := HZ8.out
    have h4 := HZ9.out
    exact ⟨(HB6.out.below hB).turned h3 hT (by omega), (HN6.out.below hB).turned h3 hT (by omega), hN, (HR16.out.below hB).turned hT (by omega), (HR26.out.below hB).turned hT (by omega), fun e => absurd e (by omega), fun e => absurd e (by omega), by omega⟩⟩
  have HFy : Veil _ := ⟨hfit⟩
  obtain ⟨⟨z0, z1, z2⟩, k0, k1, k2⟩ := box3 hg
  clear hB hN hT h3 hat hfit hg HB6 HR16 HR26 HN6 hw19 HK1 HK2 HD1 HD2 HX1 HX2 HZ1 HZ2 HCK HCD HXx HYy E1 E2 F1 F2
  go_wp2
  clear hW8 z0 z1 z2 k0 k1 k2
  obtain ⟨R1, hR1⟩ : ∃ R1, W1.heap.size = R1 := ⟨_, rfl⟩
  obtain ⟨R2, hR2⟩ : ∃ R2, W2.heap.size = R2 := ⟨_, rfl⟩
  have HI0 : Veil (SpJ w n a R1 R2 G1 G2 x ax y ay 0 W8.drew) := ⟨by rw [← hR1, ← hR2]; exact HJ.out.below (Below.refl _ _).drew⟩
  rw [hR1, hR2]
  clear hR1 hR2 HJ HZ HZ5 HZ8 HZ9
  refine region_stage 12 [[], [], [(1, 80)], [], [(3, 82)], [(2, 81), (4, 83)], [(5, 84)], [], [(0, 79)], [(6, 85)], [(7, 86)], []]
    [[], [], [1], [], [3], [2, 4], [5], [], [0], [0, 1, 2, 3, 4, 5, 6, 8], [0, 1, 2, 3, 4, 5, 6, 7, 8, 9], [0, 1, 2, 3, 4, 5, 6, 7, 8, 9, 10]]
    [(0, 79), (1, 80), (2, 81), (3, 82), (4, 83), (5, 84), (6, 85), (7, 86), (9, 3), (11, 5)]
    (fun s W => SpJ w n a R1 R2 G1 G2 x ax y ay s W)
    (fun i => ([fun v => v = .agg #[.slice ax.pp x.ps.length ax.cp, .slice ax.pk x.ks.length ax.ck, .slice ax.pd x.ds.length ax.cd], fun v => v = .pointer (some ⟨w.heap.size, 1, none⟩), fun v => v = .slice (some ⟨b, o, none⟩) n.ks.length a.ck, fun v => v = .int .i64 c, fun v => v = .int .i64 ((c : Int) - 1), fun v => v = .pointer (some ⟨b, o + c1, none⟩), fun v => v = .string ⟨key.toArray⟩, fun v => v = .agg #[.slice ay.pp y.ps.length ay.cp, .slice ay.pk y.ks.length ay.ck, .slice ay.pd y.ds.length ay.cd], fun _ => True, fun v => v = .string ⟨key.toArray⟩, fun _ => True, fun v => v = .int .i64 0] : List (Value → Prop)).getD i fun _ => True)
    (fun i => [0, 0, 0, 0, 0, 0, 0, 0, 1, 1, 2, 2].getD i 0) (fun i => [2, 2, 2, 2, 2, 2, 2, 2, 0, 2, 1, 2].getD i 2) rfl (by kernel_rfl) ?_ ⟨?_, ?_, ?_, ?_, ?_, ?_, ?_, ?_, ?_, ?_, ?_, ?_, trivial⟩ ?_
  · exact HI0.out
  · intro vals s W hI hs _
    have hs : s ≤ 2 := hs
    obtain ⟨⟨b0, b1, b2⟩, -⟩ := box3 hI.hx.b
    dsimp only [putsL, slotOf]
    go_wp2
    exact ⟨rfl, s, hI, Nat.le_refl _, (by first | exact ⟨rfl, (show 0 ≤ s by omega)⟩ | exact rfl), (by intros; assumption)⟩
  · intro vals s W hI hs _
    have hs : s ≤ 2 := hs
    dsimp only [putsL, slotOf]
    go_wp2
    exact ⟨rfl, s, hI, Nat.le_refl _, (by first | exact ⟨rfl, (show 0 ≤ s by omega)⟩ | exact rfl), (by intros; assumption)⟩
  · intro vals s W hI hs ⟨⟨h1, l1⟩, _⟩
    have hs : s ≤ 2 := hs
    have l1 : 0 ≤ s := l1
    have h1 : vals 1 = .pointer (some ⟨w.heap.size, 1, none⟩) := h1
    obtain ⟨b0, b1, b2⟩ := hI.hn.cells; rw [HPE.out] at b1
    dsimp only [putsL, slotOf]
    rw [h1]
    go_wp2
    exact ⟨rfl, s, hI, Nat.le_refl _, (by first | exact ⟨rfl, (show 0 ≤ s by omega)⟩ | exact rfl), (by intros; assumption)⟩
  · intro vals s W hI hs _
    have hs : s ≤ 2 := hs
    dsimp only [putsL, slotOf]
    go_wp2
    exact ⟨rfl, s, hI, Nat.le_refl _, (by first | exact ⟨rfl, (show 0 ≤ s by omega)⟩ | exact rfl), (by intros; assumption)⟩
  · intro vals s W hI hs ⟨⟨h3, l3⟩, _⟩
    have hs : s ≤ 2 := hs
    have l3 : 0 ≤ s := l3
    have h3 : vals 3 = .int .i64 c := h3
    dsimp only [putsL, slotOf]
    rw [h3]
    go_wp2
    exact ⟨rfl, s, hI, Nat.le_refl _, (by first | exact ⟨rfl, (show 0 ≤ s by omega)⟩ | exact rfl), (by intros; assumption)⟩
  · intro vals s W hI hs ⟨⟨h2, l2⟩, ⟨h4, l4⟩, _⟩
    have hs : s ≤ 2 := hs
    have l2 : 0 ≤ s := l2
    have l4 : 0 ≤ s := l4
    have h2 : vals 2 = .slice (some ⟨b, o, none⟩) n.ks.length a.ck := h2
    have h4 : vals 4 = .int .i64 ((c : Int) - 1) := h4
    rw [HE1.out] at h4
    dsimp only [putsL, slotOf]
    rw [h2, h4]
    go_wp2
    exact ⟨rfl, s, hI, Nat.le_refl _, (by first | exact ⟨rfl, (show 0 ≤ s by omega)⟩ | exact rfl), (by intros; assumption)⟩
  · intro vals s W hI hs ⟨⟨h5, l5⟩, _⟩
    have hs : s ≤ 2 := hs
    have l5 : 0 ≤ s := l5
    have h5 : vals 5 = .pointer (some ⟨b, o + c1, none⟩) := h5
    have b0 := key_cell hI.hn.s HPE.out hcl; rw [HKE.out] at b0
    dsimp only [putsL, slotOf]
    rw [h5]
    go_wp2
    exact ⟨rfl, s, hI, Nat.le_refl _, (by first | exact ⟨rfl, (show 0 ≤ s by omega)⟩ | exact rfl), (by intros; assumption)⟩
  · intro vals s W hI hs _
    have hs : s ≤ 2 := hs
    obtain ⟨⟨b0, b1, b2⟩, -⟩ := box3 hI.hy.b
    dsimp only [putsL, slotOf]
    go_wp2
    exact ⟨rfl, s, hI, Nat.le_refl _, (by first | exact ⟨rfl, (show 0 ≤ s by omega)⟩ | exact rfl), (by intros; assumption)⟩
  · intro vals s W hI hs ⟨⟨h0, l0⟩, _⟩
    have hs : s ≤ 0 := hs
    have l0 : 0 ≤ s := l0
    have h0 : vals 0 = .agg #[.slice ax.pp x.ps.length ax.cp, .slice ax.pk x.ks.length ax.ck, .slice ax.pd x.ds.length ax.cd] := h0
    have hI4 := hI.put1 (by omega); have hr := hI.r1; obtain ⟨p1, n1, c1', p2, n2, c2, p3, n3, c3, hg⟩ := hr; obtain ⟨⟨b0, b1, b2⟩, k0, k1, k2⟩ := box3 hg
    dsimp only [putsL, slotOf]
    rw [h0]
    go_wp2
    refine ⟨rfl, 1, hI4, by omega, (by first | exact ⟨trivial, (show 1 ≤ 1 by omega)⟩ | exact trivial | exact Nat.le_refl _), ?_⟩
    first | exact ub_all ([2, 2, 2, 2, 2, 2, 2, 2, 0, 2, 1, 2] : List Nat) 1 2 8 [0] (by decide) (by decide) s | simpa using ub_all ([2, 2, 2, 2, 2, 2, 2, 2, 0, 2, 1, 2] : List Nat) 1 2 8 [0] (by decide) (by decide) s
  · intro vals s W hI hs ⟨⟨h0, l0⟩, ⟨h1, l1⟩, ⟨h2, l2⟩, ⟨h3, l3⟩, ⟨h4, l4⟩, ⟨h5, l5⟩, ⟨h6, l6⟩, ⟨h8, l8⟩, _⟩
    have hs : s ≤ 2 := hs
    have l0 : 0 ≤ s := l0
    have l1 : 0 ≤ s := l1
    have l2 : 0 ≤ s := l2
    have l3 : 0 ≤ s := l3
    have l4 : 0 ≤ s := l4
    have l5 : 0 ≤ s := l5
    have l6 : 0 ≤ s := l6
    have l8 : 1 ≤ s := l8
    have h6 : vals 6 = .string ⟨key.toArray⟩ := h6
    dsimp only [putsL, slotOf]
    rw [h6]
    go_wp2
    exact ⟨rfl, s, hI, Nat.le_refl _, (by first | exact ⟨rfl, (show 1 ≤ s by omega)⟩ | exact rfl), (by intros; assumption)⟩
  · intro vals s W hI hs ⟨⟨h0, l0⟩, ⟨h1, l1⟩, ⟨h2, l2⟩, ⟨h3, l3⟩, ⟨h4, l4⟩, ⟨h5, l5⟩, ⟨h6, l6⟩, ⟨h7, l7⟩, ⟨h8, l8⟩, ⟨h9, l9⟩, _⟩
    have hs : s ≤ 1 := hs
    have l0 : 0 ≤ s := l0
    have l1 : 0 ≤ s := l1
    have l2 : 0 ≤ s := l2
    have l3 : 0 ≤ s := l3
    have l4 : 0 ≤ s := l4
    have l5 : 0 ≤ s := l5
    have l6 : 0 ≤ s := l6
    have l7 : 0 ≤ s := l7
    have l8 : 1 ≤ s := l8
    have l9 : 1 ≤ s := l9
    have h7 : vals 7 = .agg #[.slice ay.pp y.ps.length ay.cp, .slice ay.pk y.ks.length ay.ck, .slice ay.pd y.ds.length ay.cd] := h7
    have hI4 := hI.put2 (by omega) (by omega); have hr := hI.r2; obtain ⟨p1, n1, c1', p2, n2, c2, p3, n3, c3, hg⟩ := hr; obtain ⟨⟨b0, b1, b2⟩, k0, k1, k2⟩ := box3 hg
    dsimp only [putsL, slotOf]
    rw [h7]
    go_wp2
    refine ⟨rfl, 2, hI4, by omega, (by first | exact ⟨trivial, (show 2 ≤ 2 by omega)⟩ | exact trivial | exact Nat.le_refl _), ?_⟩
    first | exact ub_all ([2, 2, 2, 2, 2, 2, 2, 2, 0, 2, 1, 2] : List Nat) 2 2 10 [0, 1, 2, 3, 4, 5, 6, 7, 8, 9] (by decide) (by decide) s | simpa using ub_all ([2, 2, 2, 2, 2, 2, 2, 2, 0, 2, 1, 2] : List Nat) 2 2 10 [0, 1, 2, 3, 4, 5, 6, 7, 8, 9] (by decide) (by decide) s
  · intro vals s W hI hs ⟨⟨h0, l0⟩, ⟨h1, l1⟩, ⟨h2, l2⟩, ⟨h3, l3⟩, ⟨h4, l4⟩, ⟨h5, l5⟩, ⟨h6, l6⟩, ⟨h7, l7⟩, ⟨h8, l8⟩, ⟨h9, l9⟩, ⟨h10, l10⟩, _⟩
    have hs : s ≤ 2 := hs
    have l0 : 0 ≤ s := l0
    have l1 : 0 ≤ s := l1
    have l2 : 0 ≤ s := l2
    have l3 : 0 ≤ s := l3
    have l4 : 0 ≤ s := l4
    have l5 : 0 ≤ s := l5
    have l6 : 0 ≤ s := l6
    have l7 : 0 ≤ s := l7
    have l8 : 1 ≤ s := l8
    have l9 : 1 ≤ s := l9
    have l10 : 2 ≤ s := l10
    dsimp only [putsL, slotOf]
    go_wp2
    exact ⟨rfl, s, hI, Nat.le_refl _, (by first | exact ⟨rfl, (show 2 ≤ s by omega)⟩ | exact rfl), (by intros; assumption)⟩
  rintro vals s W hI hq
  have q0 : vals 0 = .agg #[.slice ax.pp x.ps.length ax.cp, .slice ax.pk x.ks.length ax.ck, .slice ax.pd x.ds.length ax.cd] := (hq 0 (by decide)).1
  have q1 : vals 1 = .pointer (some ⟨w.heap.size, 1, none⟩) := (hq 1 (by decide)).1
  have q2 : vals 2 = .slice (some ⟨b, o, none⟩) n.ks.length a.ck := (hq 2 (by decide)).1
  have q3 : vals 3 = .int .i64 c := (hq 3 (by decide)).1
  have q4 : vals 4 = .int .i64 ((c : Int) - 1) := (hq 4 (by decide)).1
  have q5 : vals 5 = .pointer (some ⟨b, o + c1, none⟩) := (hq 5 (by decide)).1
  have q6 : vals 6 = .string ⟨key.toArray⟩ := (hq 6 (by decide)).1
  have q7 : vals 7 = .agg #[.slice ay.pp y.ps.length ay.cp, .slice ay.pk y.ks.length ay.ck, .slice ay.pd y.ds.length ay.cd] := (hq 7 (by decide)).1
  have q9 : vals 9 = .string ⟨key.toArray⟩ := (hq 9 (by decide)).1
  have q11 : vals 11 = .int .i64 0 := (hq 11 (by decide)).1
  have hs : 2 ≤ s := (hq 10 (by decide)).2
  dsimp only [putsL]
  rw [q0, q1, q2, q3, q4, q5, q6, q7, q9, q11]
  clear hq q0 q1 q2 q3 q4 q5 q6 q7 q9 q11
  simp only [List.drop_succ_cons, List.drop_zero, List.setIfInBounds_toArray, List.set_cons_succ, List.set_cons_zero]
  go_wp2
  exact bodyPost_ret (results_split (g1 := R1) (g2 := R2) rfl rfl rfl rfl rfl (hI.d1 (by omega)).b (hI.d2 hs).b) rfl ⟨ax, ay, rfl, (hI.d1 (by omega)).s, (hI.d2 hs).s, HFx.out, HFy.out, hI.hn.x⟩
end Go.Proofs.YtokbmimbbeedcaaGreatDoor

/- The walk of Split. -/
namespace Go.Proofs.YtokbmimbbeedcaaGreatDoor
open Go Go.RowKit Sm
attribute [local go_sem] Oper.semAt_some

set_option maxRecDepth 20000 in
set_option maxHeartbeats 4000000 in
theorem split_none {w : World} {n : Nd} {a : NdP} (h : NdAt w n a)
    (HCP : Veil (∀ W, NdAt W n a → Calls Tryz.prog 124 #[n.v a] W fun e w' => e = .returned (.int .i64 0) ∧ Below W.heap.size W w')) :
    Calls Tryz.prog 89 #[n.v a] w (SplPostF w Nd.zero Nd.zero [] 60) := by
  have HB0 := NdBox.new h
  obtain ⟨W1, hW1⟩ : ∃ W1, w.alloc (.cells #[.slice a.pp n.ps.length a.cp, .slice a.pk n.ks.length a.ck, .slice a.pd n.ds.length a.cd] 92) = W1 := ⟨_, rfl⟩
  obtain ⟨W2, hW2⟩ : ∃ W2, W1.alloc (.cells #[.slice none 0 0, .slice none 0 0, .slice none 0 0] 92) = W2 := ⟨_, rfl⟩
  obtain ⟨W3, hW3⟩ : ∃ W3, W2.alloc (.cells #[.slice none 0 0, .slice none 0 0, .slice none 0 0] 92) = W3 := ⟨_, rfl⟩
  have hb2 : Below W1.heap.size W1 W2 := by rw [← hW2]; exact below_al (Below.refl _ _) _
  have hb3 : Below W2.heap.size W2 W3 := by rw [← hW3]; exact below_al (Below.refl _ _) _
  rw [hW1] at HB0
  have HB : Veil (NdBox w n a W3) := ⟨HB0.below (bn_then hb2 hb3)⟩
  have g1 : W2.heap[W1.heap.size]? = some (.cells #[.slice none 0 0, .slice none 0 0, .slice none 0 0] 92 (0, 0)) := by rw [← hW2]; exact heap_alloc_new _ _
  have HG1 : Veil (W3.heap[W1.heap.size]? = some (.cells #[.slice none 0 0, .slice none 0 0, .slice none 0 0] 92 (0, 0))) := ⟨(hb3.block _ (lt_of_heap g1)).trans g1⟩
  have HG2 : Veil (W3.heap[W2.heap.size]? = some (.cells #[.slice none 0 0, .slice none 0 0, .slice none 0 0] 92 (0, 0))) := ⟨by rw [← hW3]; exact heap_alloc_new _ _⟩
  have HZ : Veil (w.heap.size < W1.heap.size ∧ W1.heap.size < W2.heap.size) := ⟨by
    have h1 : W1.heap.size = w.heap.size + 1 := by rw [← hW1]; simp
    have h2 : W2.heap.size = W1.heap.size + 1 := by rw [← hW2]; simp
    omega⟩
  obtain ⟨a0, a1, a2⟩ := HB.out.cells
  clear h hb2 hb3 g1 HB0
  unfold Nd.v at *
  go_enter Tryz.func89, Tryz.ntmps89
  go_wp2_with (go_at_call 124; (with_reducible refine (HCP.out W3 HB.out.s).mono ?_); rintro e w4 ⟨rfl, hb4⟩; have HB4 : Veil _ := ⟨HB.out.below hb4⟩; have HG14 : Veil _ := ⟨(hb4.block _ (lt_of_heap HG1.out)).trans HG1.out⟩; have HG24 : Veil _ := ⟨(hb4.block _ (lt_of_heap HG2.out)).trans HG2.out⟩; clear a0 a1 a2 hb4; obtain ⟨⟨x0, x1, x2⟩, k0, k1, k2⟩ := box3 HG14.out; have hT5 := (((Turned.refl (· = W1.heap.size) w4).setCell (p := ⟨W1.heap.size, 0, none⟩) rfl (.slice none 0 0)).setCell (p := ⟨W1.heap.size, 1, none⟩) rfl (.slice none 0 0)).setCell (p := ⟨W1.heap.size, 2, none⟩) rfl (.slice none 0 0); have hg5 := heap_setCell_at (heap_setCell_at (heap_setCell_at HG14.out 0 (.slice none 0 0)) 1 (.slice none 0 0)) 2 (.slice none 0 0); obtain ⟨W5, hW5⟩ : ∃ W5, ((w4.setCell ⟨W1.heap.size, 0, none⟩ (.slice none 0 0)).setCell ⟨W1.heap.size, 1, none⟩ (.slice none 0 0)).setCell ⟨W1.heap.size, 2, none⟩ (.slice none 0 0) = W5 := ⟨_, rfl⟩; have HE5 : Veil _ := ⟨hW5⟩; rw [hW5] at hT5; replace hg5 : W5.heap[W1.heap.size]? = some (.cells #[.slice none 0 0, .slice none 0 0, .slice none 0 0] 92 (0, 0)) := (by rw [← hW5]; exact hg5); have HG5 : Veil _ := ⟨hg5⟩; have HT5 : Veil _ := ⟨hT5⟩; have HH5 : Veil (W5.heap[W2.heap.size]? = some (.cells #[.slice none 0 0, .slice none 0 0, .slice none 0 0] 92 (0, 0))) := ⟨hT5.heap HG24.out (by have := HZ.out; omega)⟩; clear hg5 hT5; obtain ⟨⟨y0, y1, y2⟩, l0, l1, l2⟩ := box3 HH5.out)
  have hU := (((Turned.refl (· = W2.heap.size) W5).setCell (p := ⟨W2.heap.size, 0, none⟩) rfl (.slice none 0 0)).setCell (p := ⟨W2.heap.size, 1, none⟩) rfl (.slice none 0 0)).setCell (p := ⟨W2.heap.size, 2, none⟩) rfl (.slice none 0 0)
  have hz := HZ.out
  have hx5 := HB4.out.x.trans (HT5.out.toBelow HB4.out.x.size (fun k _ e => by omega))
  exact bodyPost_ret (results_split (g1 := W1.heap.size) (g2 := W2.heap.size) rfl rfl rfl rfl rfl (hU.heap HG5.out (by omega)) (heap_setCell_at (heap_setCell_at (heap_setCell_at HH5.out 0 _) 1 _) 2 _)) rfl ⟨⟨none, 0, none, 0, none, 0⟩, ⟨none, 0, none, 0, none, 0⟩, rfl, ⟨Els.nil _ _, Els.nil _ _, Els.nil _ _⟩, ⟨Els.nil _ _, Els.nil _ _, Els.nil _ _⟩, ⟨⟨(OwnE.nil elP w 0).fitN, (OwnE.nil elK w 0).fitN, (OwnE.nil elD w 0).fitN⟩, fun b h => (by cases h), fun b h => (by cases h), fun b h => (by cases h)⟩, ⟨⟨(OwnE.nil elP w 0).fitN, (OwnE.nil elK w 0).fitN, (OwnE.nil elD w 0).fitN⟩, fun b h => (by cases h), fun b h => (by cases h), fun b h => (by cases h)⟩, hx5.trans (hU.toBelow hx5.size (fun k _ e => by omega))⟩
theorem cutSt_in (ls : Nat) (g : Nat → Nat) : ∀ k, (cutSt ls g k).1 = 0 ∨ (ls ≤ (cutSt ls g k).1 ∧ (cutSt ls g k).1 < k)
  | 0 => .inl rfl
  | k + 1 => by
    rw [cutSt]
    split
    · rename_i h
      exact .inr ⟨h.1, Nat.lt_succ_self _⟩
    · rcases cutSt_in ls g k with h | h
      · exact .inl h
      · exact .inr ⟨h.1, by omega⟩
def Nd.splA (n : Nd) : Nd := if n.cutAt = 0 then Nd.zero else if n.ds.length = 0 then ⟨n.ps.take n.cutAt, [], []⟩ else ⟨[], n.ks.take (n.cutAt - 1), n.ds.take n.cutAt⟩
def Nd.splB (n : Nd) : Nd := if n.cutAt = 0 then Nd.zero else if n.ds.length = 0 then ⟨n.ps.drop n.cutAt, [], []⟩ else ⟨[], n.ks.drop n.cutAt, n.ds.drop n.cutAt⟩
def Nd.splK (n : Nd) : List UInt8 := if n.cutAt = 0 then [] else if n.ds.length = 0 then (n.ps.getD n.cutAt Pr.zero).k else n.ks.getD (n.cutAt - 1) []
def Nd.splE (n : Nd) : Int := if n.cutAt = 0 then 60 else 0
theorem cutAt_in {n : Nd} (h : n.cutAt ≠ 0) : n.right = true ∧ n.least ≤ n.cutAt ∧ n.cutAt + n.least ≤ n.ps.length + n.ds.length := by
  have h1 := cutSt_in n.least n.lgr (n.ps.length + n.ds.length + 1 - n.least)
  unfold Nd.cutAt at h ⊢
  split at h
  · rename_i hr
    rw [if_pos hr]
    exact ⟨hr, by rcases h1 with h1 | h1 <;> omega⟩
  · exact absurd rfl h
theorem split_new {w : World} {n : Nd} {a : NdP} (h : NdAt w n a) (hf : NdFit n a) (hok : Veil n.Ok) : Calls Tryz.prog 89 #[n.v a] w (SplPostF w n.splA n.splB n.splK n.splE) := by
  have HCP : Veil (∀ W, NdAt W n a → Calls Tryz.prog 124 #[n.v a] W fun e w' => e = .returned (.int .i64 n.cutAt) ∧ Below W.heap.size W w') := ⟨fun W h => cutplace_of h hf.k hok⟩
  unfold Nd.splA Nd.splB Nd.splK Nd.splE
  by_cases h0 : n.cutAt = 0
  · simp only [if_pos h0]
    rw [h0] at HCP
    exact split_none h HCP
  · simp only [if_neg h0]
    obtain ⟨hr, h1, h2⟩ := cutAt_in h0
    have hlk := Nd.right_lk hr
    have hx := Nd.right_xd hr
    unfold Nd.least at h1 h2
    by_cases hd : n.ds.length = 0
    · simp only [if_pos hd] at h1 h2 ⊢
      exact split_leaf h hf n.cutAt (by omega) (by omega) hd hok.out.p HCP
    · simp only [if_neg hd] at h1 h2 ⊢
      exact split_branch h hf n.cutAt (n.cutAt - 1) (by omega) (by omega) (by omega) (by omega) hok.out.k hok.out.d HCP
end Go.Proofs.YtokbmimbbeedcaaGreatDoor

/- Trees: reckoning: kids between keys, split at a key and joined again; what a node reaches, its pairs in order, between bounds. -/
namespace Go.Proofs.YtokbmimbbeedcaaGreatDoor
open Go Go.RowKit Sm

abbrev Ky := List UInt8
/-- A key is below a bound, is at least a bound, is above a bound. -/
def upB (hi : Option Ky) (k : Ky) : Prop := ∀ b, hi = some b → lessB k b = true
def loS (lo : Option Ky) (k : Ky) : Prop := ∀ a, lo = some a → lessB a k = true
theorem upB.trans {hi : Option Ky} {k b : Ky} (h : lessB k b = true) (h2 : upB hi b) : upB hi k := fun c e => lessB_trans _ _ _ h (h2 c e)
theorem loS.trans {lo : Option Ky} {k b : Ky} (h : loS lo b) (h2 : lessB b k = true) : loS lo k := fun a e => lessB_trans _ _ _ (h a e) h2
/-! ### Kids between keys -/
section
variable {R R' : Option Ky → Option Ky → Nat → List Nat → List Pr → Prop}
end
end Go.Proofs.YtokbmimbbeedcaaGreatDoor

/- Trees: reckoning: a branch's keys and kids; pairs in order, between bounds; put, deleted and found among pairs; what a node reaches. -/
namespace Go.Proofs.YtokbmimbbeedcaaGreatDoor
open Go Go.RowKit Sm

theorem pw_of_next {α : Type} (r : α → α → Bool) (htr : ∀ a b c, r a b = true → r b c = true → r a c = true) (L : List α) (d : α) : (∀ i, i + 1 < L.length → r (L.getD i d) (L.getD (i + 1) d) = true) → L.Pairwise (fun a b => r a b = true) := by
  intro h
  rw [List.pairwise_iff_getElem]
  intro i j hi hj hij
  induction j with
  | zero => omega
  | succ j ih =>
    have hs := h j hj
    rw [getD_of (by omega), getD_of hj] at hs
    rcases Nat.lt_or_eq_of_le (Nat.le_of_lt_succ hij) with h1 | rfl
    · exact htr _ _ _ (ih (by omega) h1) hs
    · exact hs
theorem branch_pw (n : Nd) : n.branch = true ↔ (n.ps = [] ∧ 1 ≤ n.ds.length ∧ n.ds.length ≤ 255 ∧ n.ks.length + 1 = n.ds.length) ∧ (∀ d ∈ n.ds, 2 ≤ d ∧ d < 16384) ∧ (∀ k ∈ n.ks, 1 ≤ k.length ∧ k.length ≤ 24) ∧ n.ks.Pairwise (fun a b => lessB a b = true) := by
  rw [n.branch_iff]
  have hg : ∀ i, i < n.ks.length → (goodK n.ks i = true ↔ (1 ≤ (n.ks.getD i []).length ∧ (n.ks.getD i []).length ≤ 24) ∧ (i = 0 ∨ lessB (n.ks.getD (i - 1) []) (n.ks.getD i []) = true)) := fun i _ => by
    unfold goodK
    rw [Bool.and_eq_true, decide_eq_true_iff, Bool.or_eq_true, decide_eq_true_iff]
  constructor
  · rintro ⟨⟨h1, h2, h3, h4⟩, hd, hk⟩
    refine ⟨⟨List.eq_nil_of_length_eq_zero h1, h2, h3, h4⟩, fun d hd' => ?_, fun k hk' => ?_, ?_⟩
    · obtain ⟨i, hi, rfl⟩ := List.getElem_of_mem hd'
      have := hd i hi
      unfold goodD at this
      rw [decide_eq_true_iff, getD_of hi] at this
      exact this
    · obtain ⟨i, hi, rfl⟩ := List.getElem_of_mem hk'
      have := ((hg i hi).1 (hk i hi)).1
      rwa [getD_of hi] at this
    · refine pw_of_next lessB (fun a b c => lessB_trans a b c) n.ks [] fun i hi => ?_
      rcases ((hg (i + 1) hi).1 (hk (i + 1) hi)).2 with h | h
      · omega
      · exact h
  · rintro ⟨⟨h1, h2, h3, h4⟩, hd, hk, hp⟩
    refine ⟨⟨by rw [h1]; rfl, h2, h3, h4⟩, fun i hi => ?_, fun i hi => ?_⟩
    · unfold goodD
      rw [decide_eq_true_iff, getD_of hi]
      exact hd _ (List.getElem_mem hi)
    · rw [hg i hi, getD_of hi]
      refine ⟨hk _ (List.getElem_mem hi), ?_⟩
      by_cases h0 : i = 0
      · exact .inl h0
      · refine .inr ?_
        rw [getD_of (by omega)]
        exact (List.pairwise_iff_getElem.1 hp) (i - 1) i (by omega) hi (by omega)

/-! ### Among pairs -/
def putP (L : List Pr) (p : Pr) : List Pr := (L.filter fun x => lessB x.k p.k) ++ p :: L.filter fun x => lessB p.k x.k
def delP (L : List Pr) (key : Ky) : List Pr := L.filter (others key)
/-! ### What a node reaches -/
end Go.Proofs.YtokbmimbbeedcaaGreatDoor

/- Trees: reckoning: what a change holds; a page taken, a node written; the sizes of nodes. -/
namespace Go.Proofs.YtokbmimbbeedcaaGreatDoor
open Go Go.RowKit Sm

/-! ### Sizes -/
/-! ### What a change holds -/
structure Ts where
  pg : Nat → Option Nd
  my : Nat → Bool
  al : Al
  gone : List Nat
  full : Bool
/-- Which pages live: each once, none of them free. -/
structure Live (s : Ts) (is : List Nat) : Prop where
  nd : is.Nodup
  rg : ∀ x ∈ is, 2 ≤ x ∧ x < s.al.high
  sp : ∀ x ∈ is, ∀ y ∈ s.al.l, y.page ≠ x
  al : s.al.right = true
theorem Live.same {s s' : Ts} {is : List Nat} (h : Live s is) (ha : s'.al = s.al) : Live s' is := by
  constructor
  · exact h.nd
  · rw [ha]; exact h.rg
  · rw [ha]; exact h.sp
  · rw [ha]; exact h.al
end Go.Proofs.YtokbmimbbeedcaaGreatDoor

/- Trees: reckoning: a node written; a node laid where another one was; a pair put. -/
namespace Go.Proofs.YtokbmimbbeedcaaGreatDoor
open Go Go.RowKit Sm

/-- What a step upwards keeps. -/
structure Rose (s s' : Ts) (rest : List Nat) (k : Nat) : Prop where
  oth : ∀ x ∈ rest, s'.pg x = s.pg x ∧ s'.my x = s.my x
  most : s'.al.most = s.al.most
  high : s'.al.high ≤ s.al.high + k
  full : s'.full = s.full
  zero : s'.my 0 = s.my 0
theorem Rose.trans {s s' s'' : Ts} {rest rest' : List Nat} {k j : Nat} (h : Rose s s' rest k) (h2 : Rose s' s'' rest' j) (hs : ∀ x ∈ rest', x ∈ rest) : Rose s s'' rest' (k + j) :=
  ⟨fun x hx => ⟨(h2.oth x hx).1.trans (h.oth x (hs x hx)).1, (h2.oth x hx).2.trans (h.oth x (hs x hx)).2⟩, h2.most.trans h.most, by have := h.high; have := h2.high; omega, h2.full.trans h.full, h2.zero.trans h.zero⟩

end Go.Proofs.YtokbmimbbeedcaaGreatDoor

/- The law NodeHalves. -/
namespace Go.Proofs.YtokbmimbbeedcaaGreatDoor
open Go Go.RowKit Sm
attribute [local go_sem] Oper.semAt_some

theorem two_box (W : World) (x0 x1 x2 y0 y1 y2 : Value) : ∃ u1 u2 u3 u4, W.alloc (.cells #[.slice none 0 0, .slice none 0 0, .slice none 0 0] 92) = u1 ∧ u1.alloc (.cells #[.slice none 0 0, .slice none 0 0, .slice none 0 0] 92) = u2 ∧ ((u2.setCell ⟨W.heap.size, 0, none⟩ x0).setCell ⟨W.heap.size, 1, none⟩ x1).setCell ⟨W.heap.size, 2, none⟩ x2 = u3 ∧ ((u3.setCell ⟨u1.heap.size, 0, none⟩ y0).setCell ⟨u1.heap.size, 1, none⟩ y1).setCell ⟨u1.heap.size, 2, none⟩ y2 = u4 ∧
    u2.heap[W.heap.size]? = some (.cells #[.slice none 0 0, .slice none 0 0, .slice none 0 0] 92 (0, 0)) ∧ u3.heap[u1.heap.size]? = some (.cells #[.slice none 0 0, .slice none 0 0, .slice none 0 0] 92 (0, 0)) ∧
    Veil (u4.heap[W.heap.size]? = some (.cells #[x0, x1, x2] 92 (0, 0)) ∧ u4.heap[u1.heap.size]? = some (.cells #[y0, y1, y2] 92 (0, 0)) ∧ Below W.heap.size W u4 ∧ u1.heap.size = W.heap.size + 1) := by
  refine ⟨_, _, _, _, rfl, rfl, rfl, rfl, ?_⟩
  obtain ⟨u1, h1⟩ : ∃ u1, W.alloc (.cells #[.slice none 0 0, .slice none 0 0, .slice none 0 0] 92) = u1 := ⟨_, rfl⟩
  rw [h1]
  obtain ⟨u2, h2⟩ : ∃ u2, u1.alloc (.cells #[.slice none 0 0, .slice none 0 0, .slice none 0 0] 92) = u2 := ⟨_, rfl⟩
  rw [h2]
  have b1 : u1.heap[W.heap.size]? = some (.cells #[.slice none 0 0, .slice none 0 0, .slice none 0 0] 92 (0, 0)) := by rw [← h1]; exact heap_alloc_new _ _
  have b2 : u2.heap[u1.heap.size]? = some (.cells #[.slice none 0 0, .slice none 0 0, .slice none 0 0] 92 (0, 0)) := by rw [← h2]; exact heap_alloc_new _ _
  have k1 : Below W.heap.size W u1 := by rw [← h1]; exact below_al (Below.refl _ _) _
  have k2 : Below u1.heap.size u1 u2 := by rw [← h2]; exact below_al (Below.refl _ _) _
  have z1 : u1.heap.size = W.heap.size + 1 := by rw [← h1]; simp
  have c1 := (k2.block _ (lt_of_heap b1)).trans b1
  have t3 := (((Turned.refl (· = W.heap.size) u2).setCell (p := ⟨W.heap.size, 0, none⟩) rfl x0).setCell (p := ⟨W.heap.size, 1, none⟩) rfl x1).setCell (p := ⟨W.heap.size, 2, none⟩) rfl x2
  have d1 : (((u2.setCell ⟨W.heap.size, 0, none⟩ x0).setCell ⟨W.heap.size, 1, none⟩ x1).setCell ⟨W.heap.size, 2, none⟩ x2).heap[W.heap.size]? = some (.cells #[x0, x1, x2] 92 (0, 0)) := heap_setCell_at (heap_setCell_at (heap_setCell_at c1 0 _) 1 _) 2 _
  generalize ((u2.setCell ⟨W.heap.size, 0, none⟩ x0).setCell ⟨W.heap.size, 1, none⟩ x1).setCell ⟨W.heap.size, 2, none⟩ x2 = u3 at *
  have d2 := t3.heap b2 (by omega)
  have t4 := (((Turned.refl (· = u1.heap.size) u3).setCell (p := ⟨u1.heap.size, 0, none⟩) rfl y0).setCell (p := ⟨u1.heap.size, 1, none⟩) rfl y1).setCell (p := ⟨u1.heap.size, 2, none⟩) rfl y2
  have k12 := k1.trans (k2.mono (by omega))
  have k13 := k12.trans (t3.toBelow k12.size (fun k _ e => by omega))
  exact ⟨c1, d2, ⟨t4.heap d1 (by omega), heap_setCell_at (heap_setCell_at (heap_setCell_at d2 0 _) 1 _) 2 _, k13.trans (t4.toBelow k13.size (fun k _ e => by omega)), z1⟩⟩
end Go.Proofs.YtokbmimbbeedcaaGreatDoor
