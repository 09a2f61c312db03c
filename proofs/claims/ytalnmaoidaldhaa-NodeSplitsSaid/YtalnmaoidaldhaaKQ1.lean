/- The walk of cutAt (the document's own). -/
import Derived.Test.YtalnmaoidaldhaaKOU
import Derived.Test.YtalnmaoidaldhaaKOC
namespace Go.Proofs.Ytalnmaoidaldhaa
open Go Go.RowKit Sm
attribute [local go_sem] Oper.semAt_some

/-- A node built in a box that stood there ahead of it: nothing else of what was there is turned. -/
structure BldT (Wb : World) (G : Nat) (m : Nd) (v1 v2 v3 : Value) (W : World) : Prop where
  z : G < Wb.heap.size
  o : W.heap[G]? = some (.cells #[v1, v2, v3] 26 (0, 0))
  x : Turned (· = G) Wb W
  m : NdOwn W Wb.heap.size v1 v2 v3 m
section
variable {Wb W W' : World} {G : Nat} {m : Nd} {v1 v2 v3 v' : Value}
theorem BldT.new (h : Wb.heap[G]? = some (.cells #[.slice none 0 0, .slice none 0 0, .slice none 0 0] 26 (0, 0))) : BldT Wb G Nd.zero (.slice none 0 0) (.slice none 0 0) (.slice none 0 0) Wb := ⟨lt_of_heap h, h, Turned.refl _ _, NdOwn.zero _ _⟩
theorem BldT.below (h : BldT Wb G m v1 v2 v3 W) (hb : Below W.heap.size W W') : BldT Wb G m v1 v2 v3 W' := ⟨h.z, (hb.block _ (lt_of_heap h.o)).trans h.o, h.x.then (Turned.new (F := fun _ => False) hb) (fun _ _ f => f.elim), h.m.below hb⟩
theorem BldT.own1 (h : BldT Wb G m v1 v2 v3 W) : ∀ j, v1.ownBlock = some j → Wb.heap.size ≤ j := fun _ hj => (h.m.p.lt hj).1
theorem BldT.own2 (h : BldT Wb G m v1 v2 v3 W) : ∀ j, v2.ownBlock = some j → Wb.heap.size ≤ j := fun _ hj => (h.m.k.lt hj).1
theorem BldT.own3 (h : BldT Wb G m v1 v2 v3 W) : ∀ j, v3.ownBlock = some j → Wb.heap.size ≤ j := fun _ hj => (h.m.d.lt hj).1
theorem BldT.grown (h : BldT Wb G m v1 v2 v3 W) {v : Value} (hv : ∀ j, v.ownBlock = some j → Wb.heap.size ≤ j) (hg : W.grownBy W' v.ownBlock) : W'.heap[G]? = some (.cells #[v1, v2, v3] 26 (0, 0)) :=
  (Turned.grown (F := fun j => v.ownBlock = some j) hg (fun j hj _ => hj)).heap h.o (fun hf => by have := hv _ hf; have := h.z; omega)
theorem BldT.set (h : BldT Wb G m v1 v2 v3 W) {v : Value} (hv : ∀ j, v.ownBlock = some j → Wb.heap.size ≤ j) (hg : W.grownBy W' v.ownBlock) (o : Nat) (u : Value) : Turned (· = G) Wb (W'.setCell ⟨G, o, none⟩ u) :=
  (h.x.then (Turned.grown (F := fun j => v.ownBlock = some j) hg (fun j hj _ => hj)) (fun k hk hf => by have := hv k hf; omega)).setCell (p := ⟨G, o, none⟩) rfl u
theorem BldT.putP (h : BldT Wb G m v1 v2 v3 W) {L : List Pr} (hg : W.grownBy W' v1.ownBlock) (ho : OwnE elP W' Wb.heap.size v' L) (hv : ∀ k, v'.ownBlock = some k → v1.ownBlock = some k ∨ W.heap.size ≤ k) : BldT Wb G { m with ps := L } v' v2 v3 (W'.setCell ⟨G, 0, none⟩ v') :=
  ⟨h.z, heap_setCell_at (h.grown h.own1 hg) 0 v', h.set h.own1 hg 0 v', (h.m.putP hg ho hv).kept ((Turned.refl (· = G) W').setCell (p := ⟨G, 0, none⟩) rfl v') (fun k hk e => by have := h.z; omega)⟩
theorem BldT.putK (h : BldT Wb G m v1 v2 v3 W) {L : List (List UInt8)} (hg : W.grownBy W' v2.ownBlock) (ho : OwnE elK W' Wb.heap.size v' L) (hv : ∀ k, v'.ownBlock = some k → v2.ownBlock = some k ∨ W.heap.size ≤ k) : BldT Wb G { m with ks := L } v1 v' v3 (W'.setCell ⟨G, 1, none⟩ v') :=
  ⟨h.z, heap_setCell_at (h.grown h.own2 hg) 1 v', h.set h.own2 hg 1 v', (h.m.putK hg ho hv).kept ((Turned.refl (· = G) W').setCell (p := ⟨G, 1, none⟩) rfl v') (fun k hk e => by have := h.z; omega)⟩
theorem BldT.putD (h : BldT Wb G m v1 v2 v3 W) {L : List Nat} (hg : W.grownBy W' v3.ownBlock) (ho : OwnE elD W' Wb.heap.size v' L) (hv : ∀ k, v'.ownBlock = some k → v3.ownBlock = some k ∨ W.heap.size ≤ k) : BldT Wb G { m with ds := L } v1 v2 v' (W'.setCell ⟨G, 2, none⟩ v') :=
  ⟨h.z, heap_setCell_at (h.grown h.own3 hg) 2 v', h.set h.own3 hg 2 v', (h.m.putD hg ho hv).kept ((Turned.refl (· = G) W').setCell (p := ⟨G, 2, none⟩) rfl v') (fun k hk e => by have := h.z; omega)⟩
theorem BldT.cells (h : BldT Wb G m v1 v2 v3 W) : (W.cell? ⟨G, 0, none⟩ = some v1 ∧ W.cell? ⟨G, 1, none⟩ = some v2 ∧ W.cell? ⟨G, 2, none⟩ = some v3) ∧ (W.frozen? ⟨G, 0, none⟩ = false ∧ W.frozen? ⟨G, 1, none⟩ = false ∧ W.frozen? ⟨G, 2, none⟩ = false) := box3 h.o
theorem BldT.nbox (h : BldT Wb G m v1 v2 v3 W) : ∃ a : NdP, v1 = .slice a.pp m.ps.length a.cp ∧ v2 = .slice a.pk m.ks.length a.ck ∧ v3 = .slice a.pd m.ds.length a.cd ∧ NBox W G m a ∧ NdFit m a := by
  obtain ⟨a, e1, e2, e3, h1, h2⟩ := h.m.parts
  subst e1; subst e2; subst e3
  exact ⟨a, rfl, rfl, rfl, ⟨h.o, h1⟩, h2⟩
end
def CutPost (w : World) (x y : Nd) (key : List UInt8) (e : Ending) (w' : World) : Prop := ∃ a b : NdP, e = .returned (.tuple #[.agg #[.slice a.pp x.ps.length a.cp, .slice a.pk x.ks.length a.ck, .slice a.pd x.ds.length a.cd], .string ⟨key.toArray⟩, .agg #[.slice b.pp y.ps.length b.cp, .slice b.pk y.ks.length b.ck, .slice b.pd y.ds.length b.cd]]) ∧ NdAt w' x a ∧ NdAt w' y b ∧ NdFit x a ∧ NdFit y b ∧ Below w.heap.size w w'
theorem results_cut {fn : Func} {p q r : Tmp} {tmps : Array Value} {w : World} {g1 g2 : Nat} {x0 x1 x2 y0 y1 y2 k : Value} (h : fn.results = #[.cell p 26, .tmp q, .cell r 26]) (hp : tmps.getD p undef = .pointer (some ⟨g1, 0, none⟩)) (hq : tmps.getD q undef = k) (hr : tmps.getD r undef = .pointer (some ⟨g2, 0, none⟩)) (hg1 : w.heap[g1]? = some (.cells #[x0, x1, x2] 26 (0, 0))) (hg2 : w.heap[g2]? = some (.cells #[y0, y1, y2] 26 (0, 0))) :
    (results fn tmps).run Try.prog w = .ok (.tuple #[.agg #[x0, x1, x2], k, .agg #[y0, y1, y2]]) w := by
  have hp' : tmps[p]?.getD undef = .pointer (some ⟨g1, 0, none⟩) := by simpa using hp
  have hq' : tmps[q]?.getD undef = k := by simpa using hq
  have hr' : tmps[r]?.getD undef = .pointer (some ⟨g2, 0, none⟩) := by simpa using hr
  obtain ⟨⟨c0, c1, c2⟩, -⟩ := box3 hg1
  obtain ⟨⟨d0, d1, d2⟩, -⟩ := box3 hg2
  simp [results, h, go_sem, hp', hq', hr', c0, c1, c2, d0, d1, d2]
/-- The node's box, two boxes for the answers, two that are built. -/
theorem cut_start (w : World) {n : Nd} {a : NdP} (h : NdAt w n a) : ∃ W1 W2 W3 W4 W5, w.alloc (.cells #[.slice a.pp n.ps.length a.cp, .slice a.pk n.ks.length a.ck, .slice a.pd n.ds.length a.cd] 26) = W1 ∧ W1.alloc (.cells #[.slice none 0 0, .slice none 0 0, .slice none 0 0] 26) = W2 ∧ W2.alloc (.cells #[.slice none 0 0, .slice none 0 0, .slice none 0 0] 26) = W3 ∧ W3.alloc (.cells #[.slice none 0 0, .slice none 0 0, .slice none 0 0] 26) = W4 ∧ W4.alloc (.cells #[.slice none 0 0, .slice none 0 0, .slice none 0 0] 26) = W5 ∧
    Veil (NdBox w n a W5 ∧ Box3 W5 W1.heap.size ∧ Box3 W5 W2.heap.size ∧ W5.heap[W3.heap.size]? = some (.cells #[.slice none 0 0, .slice none 0 0, .slice none 0 0] 26 (0, 0)) ∧ W5.heap[W4.heap.size]? = some (.cells #[.slice none 0 0, .slice none 0 0, .slice none 0 0] 26 (0, 0)) ∧ W1.heap.size = w.heap.size + 1 ∧ W2.heap.size = W1.heap.size + 1 ∧ W3.heap.size = W2.heap.size + 1 ∧ W4.heap.size = W3.heap.size + 1 ∧ W5.heap.size = W4.heap.size + 1) := by
  refine ⟨_, _, _, _, _, rfl, rfl, rfl, rfl, rfl, ?_⟩
  obtain ⟨W1, h1⟩ : ∃ W1, w.alloc (.cells #[.slice a.pp n.ps.length a.cp, .slice a.pk n.ks.length a.ck, .slice a.pd n.ds.length a.cd] 26) = W1 := ⟨_, rfl⟩
  obtain ⟨W2, h2⟩ : ∃ W2, W1.alloc (.cells #[.slice none 0 0, .slice none 0 0, .slice none 0 0] 26) = W2 := ⟨_, rfl⟩
  obtain ⟨W3, h3⟩ : ∃ W3, W2.alloc (.cells #[.slice none 0 0, .slice none 0 0, .slice none 0 0] 26) = W3 := ⟨_, rfl⟩
  obtain ⟨W4, h4⟩ : ∃ W4, W3.alloc (.cells #[.slice none 0 0, .slice none 0 0, .slice none 0 0] 26) = W4 := ⟨_, rfl⟩
  obtain ⟨W5, h5⟩ : ∃ W5, W4.alloc (.cells #[.slice none 0 0, .slice none 0 0, .slice none 0 0] 26) = W5 := ⟨_, rfl⟩
  have hB := NdBox.new h
  rw [h1] at hB ⊢
  rw [h2, h3, h4, h5]
  have k2 : Below W1.heap.size W1 W2 := by rw [← h2]; exact below_al (Below.refl _ _) _
  have k3 : Below W2.heap.size W2 W3 := by rw [← h3]; exact below_al (Below.refl _ _) _
  have k4 : Below W3.heap.size W3 W4 := by rw [← h4]; exact below_al (Below.refl _ _) _
  have k5 : Below W4.heap.size W4 W5 := by rw [← h5]; exact below_al (Below.refl _ _) _
  have b2 : Box3 W2 W1.heap.size := ⟨_, _, _, _, _, _, _, _, _, by rw [← h2]; exact heap_alloc_new _ _⟩
  have b3 : Box3 W3 W2.heap.size := ⟨_, _, _, _, _, _, _, _, _, by rw [← h3]; exact heap_alloc_new _ _⟩
  have b4 : W4.heap[W3.heap.size]? = some (.cells #[.slice none 0 0, .slice none 0 0, .slice none 0 0] 26 (0, 0)) := by rw [← h4]; exact heap_alloc_new _ _
  have b5 : W5.heap[W4.heap.size]? = some (.cells #[.slice none 0 0, .slice none 0 0, .slice none 0 0] 26 (0, 0)) := by rw [← h5]; exact heap_alloc_new _ _
  have z1 : W1.heap.size = w.heap.size + 1 := by rw [← h1]; simp
  have z2 : W2.heap.size = W1.heap.size + 1 := by rw [← h2]; simp
  have z3 : W3.heap.size = W2.heap.size + 1 := by rw [← h3]; simp
  have z4 : W4.heap.size = W3.heap.size + 1 := by rw [← h4]; simp
  have z5 : W5.heap.size = W4.heap.size + 1 := by rw [← h5]; simp
  exact ⟨(((hB.below k2).below k3).below k4).below k5, ((b2.below k3).below k4).below k5, (b3.below k4).below k5, (k5.block _ (lt_of_heap b4)).trans b4, b5, z1, z2, z3, z4, z5⟩

set_option maxRecDepth 20000 in
set_option maxHeartbeats 4000000 in
theorem cutat_leaf {w : World} {n : Nd} {a : NdP} (h : NdAt w n a) (hf : NdFit n a) (c : Nat) (hc0 : 0 < c) (hcl : c < n.ps.length) (hd : n.ds.length = 0) (hP : n.ps.length ≤ 100000) :
    Calls Try.prog 23 #[n.v a, .int .i64 c] w (CutPost w ⟨n.ps.take c, [], []⟩ ⟨n.ps.drop c, [], []⟩ (n.ps.getD c Pr.zero).k) := by
  obtain ⟨b, o, hpe, -⟩ := h.pair (by rintro he; simp [he] at hcl)
  have HPEP : Veil _ := ⟨hpe⟩
  have hcc : c < a.cp := Nat.lt_of_lt_of_le hcl hf.p.le
  have HCCb1 : Veil (¬ (a.cp - c = 0)) := ⟨by omega⟩
  have Ea1 : Veil ((n.ps.take c).length = c) := ⟨by rw [List.length_take]; omega⟩
  have Eb1 : Veil ((n.ps.drop c).length = n.ps.length - c) := ⟨by rw [List.length_drop]⟩
  have HXa1 : Veil (∀ W, NdAt W n a → Els elP W (some ⟨b, o, none⟩) (n.ps.take c)) := ⟨fun W hs => by have := hs.p.take c; rwa [hpe] at this⟩
  have HXb1 : Veil (∀ W, NdAt W n a → Els elP W (some ⟨b, o + c * 2, none⟩) (n.ps.drop c)) := ⟨fun W hs => by have := hs.p.drop c; rw [hpe] at this; exact this⟩
  obtain ⟨key, hkey⟩ : ∃ key, (n.ps.getD c Pr.zero).k = key := ⟨_, rfl⟩
  rw [hkey]
  have HKE : Veil (((n.ps.drop c).getD 0 Pr.zero).k = key) := ⟨by rw [getD_drop', Nat.add_zero]; exact hkey⟩
  clear hkey
  have HYL : Veil (0 < (n.ps.drop c).length) := ⟨by rw [List.length_drop]; omega⟩
  revert HYL; revert HKE; revert HXb1; revert HXa1; revert Eb1; revert Ea1
  generalize n.ps.take c = X
  generalize n.ps.drop c = Y
  intro Ea1 Eb1 HXa1 HXb1 HKE HYL
  obtain ⟨x, hx⟩ : ∃ x : Nd, (⟨X, [], []⟩ : Nd) = x := ⟨_, rfl⟩
  obtain ⟨y, hy⟩ : ∃ y : Nd, (⟨Y, [], []⟩ : Nd) = y := ⟨_, rfl⟩
  rw [hx, hy]
  have HXx : Veil _ := ⟨hx⟩
  have HYy : Veil _ := ⟨hy⟩
  clear hx hy
  obtain ⟨W1, W2, W3, W4, W5, hW1, hW2, hW3, hW4, hW5, HS⟩ := cut_start w h
  obtain ⟨R1, hR1⟩ : ∃ R1, W1.heap.size = R1 := ⟨_, rfl⟩
  obtain ⟨R2, hR2⟩ : ∃ R2, W2.heap.size = R2 := ⟨_, rfl⟩
  obtain ⟨GA, hGA⟩ : ∃ GA, W3.heap.size = GA := ⟨_, rfl⟩
  obtain ⟨GB, hGB⟩ : ∃ GB, W4.heap.size = GB := ⟨_, rfl⟩
  have HO : Veil (w.heap.size < R1 ∧ R1 < R2 ∧ R2 < GA ∧ GA < GB ∧ GB < W5.heap.size) := ⟨by have := HS.out.2.2.2.2.2; omega⟩
  have HB5 : Veil (NdBox w n a W5) := ⟨HS.out.1⟩
  have HR15 : Veil (Box3 W5 R1) := ⟨by rw [← hR1]; exact HS.out.2.1⟩
  have HR25 : Veil (Box3 W5 R2) := ⟨by rw [← hR2]; exact HS.out.2.2.1⟩
  have HJ5 : Veil (BldT W5 GA ⟨[], [], []⟩ (.slice none 0 0) (.slice none 0 0) (.slice none 0 0) W5) := ⟨by rw [← hGA]; exact BldT.new HS.out.2.2.2.1⟩
  have HGA5 : Veil (Box3 W5 GA) := ⟨⟨_, _, _, _, _, _, _, _, _, by rw [← hGA]; exact HS.out.2.2.2.1⟩⟩
  have HZB5 : Veil (W5.heap[GB]? = some (.cells #[.slice none 0 0, .slice none 0 0, .slice none 0 0] 26 (0, 0))) := ⟨by rw [← hGB]; exact HS.out.2.2.2.2.1⟩
  obtain ⟨a0, a1, a2⟩ := HB5.out.cells
  clear HS h
  rw [hpe] at a0
  have hd' : ((n.ds.length : Int) == 0) = true := by rw [beq_iff_eq]; omega
  clear hd hpe
  unfold Nd.v at *
  rw [HPEP.out] at hW1 ⊢
  go_enter Try.func23, Try.ntmps23
  go_wp2
  try rw [hR1]
  try rw [hR2]
  try rw [hGA]
  try rw [hGB]
  clear hR1 hR2 hGA hGB hW1 hW2 hW3 hW4 hW5 a0 a1 a2 hd'
  have HYa1 : Veil (∀ W, Below W5.heap.size W5 W → W.cell? ⟨GA, 0, none⟩ = some (.slice none 0 0) ∧ W.cell? ⟨w.heap.size, 0, none⟩ = some (.slice (some ⟨b, o, none⟩) n.ps.length a.cp)) := ⟨fun W hb => ⟨(HJ5.out.below hb).cells.1.1, by
    have hq := (HB5.out.turned HGA5.out (HJ5.out.below hb).x (by have := HO.out; omega)).cells.1
    rwa [HPEP.out] at hq⟩⟩
  refine region_new [.is (.pointer (some ⟨GA, 0, none⟩)), .is (.slice none 0 0), .is (.pointer (some ⟨w.heap.size, 0, none⟩)), .is (.slice (some ⟨b, o, none⟩) n.ps.length a.cp), .is (.int .i64 c), .is (.slice (some ⟨b, o, none⟩) c a.cp)]
    [[], [(0, 13)], [], [(2, 15)], [], [(3, 16), (4, 17)]]
    [[], [0], [], [2], [], [3, 4]]
    [(0, 13), (1, 14), (2, 15), (3, 16), (4, 17), (5, 18)] rfl (by kernel_rfl) ⟨?_, ?_, ?_, ?_, ?_, ?_, trivial⟩ ?_
  · intro vals W hB _
    dsimp only [putsL, slotOf]
    go_wp2
    exact ⟨rfl, Below.refl _ _, rfl⟩
  · intro vals W hB ⟨h0, _⟩
    have h0 : vals 0 = _ := h0
    have c1 := (HYa1.out W hB).1
    dsimp only [putsL, slotOf]
    rw [h0]
    go_wp2
    exact ⟨rfl, Below.refl _ _, rfl⟩
  · intro vals W hB _
    dsimp only [putsL, slotOf]
    go_wp2
    exact ⟨rfl, Below.refl _ _, rfl⟩
  · intro vals W hB ⟨h2, _⟩
    have h2 : vals 2 = _ := h2
    have c1 := (HYa1.out W hB).2
    dsimp only [putsL, slotOf]
    rw [h2]
    go_wp2
    exact ⟨rfl, Below.refl _ _, rfl⟩
  · intro vals W hB _
    dsimp only [putsL, slotOf]
    go_wp2
    exact ⟨rfl, Below.refl _ _, rfl⟩
  · intro vals W hB ⟨h3, h4, _⟩
    have h3 : vals 3 = _ := h3
    have h4 : vals 4 = _ := h4
    dsimp only [putsL, slotOf]
    rw [h3, h4]
    go_wp2
    exact ⟨rfl, Below.refl _ _, rfl⟩
  rintro vals ua1 hB ⟨q0, q1, q2, q3, q4, q5, -⟩
  have h0 : vals 0 = _ := q0
  have h1 : vals 1 = _ := q1
  have h2 : vals 2 = _ := q2
  have h3 : vals 3 = _ := q3
  have h4 : vals 4 = _ := q4
  have h5 : vals 5 = _ := q5
  dsimp only [putsL]
  rw [h0, h1, h2, h3, h4, h5]
  clear h0 q0 h1 q1 h2 q2 h3 q3 h4 q4 h5 q5
  simp only [List.length_cons, List.length_nil, Nat.reduceAdd, List.drop_succ_cons, List.drop_zero, List.setIfInBounds_toArray, List.set_cons_succ, List.set_cons_zero]
  have HJa1' : Veil _ := ⟨HJ5.out.below hB⟩
  have HELa1 : Veil (Els elP ua1 (some ⟨b, o, none⟩) X) := ⟨HXa1.out ua1 (HB5.out.turned HGA5.out HJa1'.out.x (by have := HO.out; omega)).s⟩
  clear hB HYa1
  go_wp2_with (at_builtin; refine wpList_append_els elP rfl (.tmp 14) (.tmp 18) rfl W5.heap.size (.slice none 0 0) [] X rfl HJa1'.out.m.p (some ⟨b, o, none⟩) a.cp (by rw [Ea1.out]; rfl) HELa1.out (by rw [Ea1.out]; simp; omega) HJa1'.out.x.size ?_; intro v' wa1 howna1 hgrowa1 hva1; have HOGa1 : Veil _ := ⟨(HJa1'.out.grown HJa1'.out.own1 hgrowa1)⟩; obtain ⟨pa1, ca1, ea1, -, -⟩ := howna1.fit; generalize hla1 : List.length _ = la1 at ea1; subst ea1; obtain ⟨⟨y0, y1, y2⟩, g0, g1, g2⟩ := box3 HOGa1.out; obtain ⟨Wa1, hWa1⟩ : ∃ Wa1, wa1.setCell ⟨GA, 0, none⟩ (.slice pa1 la1 ca1) = Wa1 := ⟨_, rfl⟩; have HJa1 : Veil (BldT W5 GA ⟨X, [], []⟩ (.slice pa1 la1 ca1) (.slice none 0 0) (.slice none 0 0) Wa1) := ⟨by rw [← hWa1]; exact HJa1'.out.putP hgrowa1 howna1 hva1⟩; have HLLa1 : Veil _ := ⟨hla1⟩; clear y1 g1 y2 g2 hva1 howna1 hgrowa1 hla1)
  clear hWa1 HOGa1 HJa1' HELa1 y0 g0
  have HBb : Veil (NdBox w n a Wa1) := ⟨HB5.out.turned HGA5.out HJa1.out.x (by have := HO.out; omega)⟩
  have HR1b : Veil (Box3 Wa1 R1) := ⟨HR15.out.turned HJa1.out.x (by have := HO.out; omega)⟩
  have HR2b : Veil (Box3 Wa1 R2) := ⟨HR25.out.turned HJa1.out.x (by have := HO.out; omega)⟩
  have hzb := HJa1.out.x.heap HZB5.out (show GB ≠ GA by have := HO.out; omega)
  have HJb : Veil (BldT Wa1 GB ⟨[], [], []⟩ (.slice none 0 0) (.slice none 0 0) (.slice none 0 0) Wa1) := ⟨BldT.new hzb⟩
  have HGBb : Veil (Box3 Wa1 GB) := ⟨⟨_, _, _, _, _, _, _, _, _, hzb⟩⟩
  clear hzb
  have HYb1 : Veil (∀ W, Below Wa1.heap.size Wa1 W → W.cell? ⟨GB, 0, none⟩ = some (.slice none 0 0) ∧ W.cell? ⟨w.heap.size, 0, none⟩ = some (.slice (some ⟨b, o, none⟩) n.ps.length a.cp)) := ⟨fun W hb => ⟨(HJb.out.below hb).cells.1.1, by
    have hq := (HBb.out.turned HGBb.out (HJb.out.below hb).x (by have := HO.out; omega)).cells.1
    rwa [HPEP.out] at hq⟩⟩
  refine region_new [.is (.pointer (some ⟨GB, 0, none⟩)), .is (.slice none 0 0), .is (.pointer (some ⟨w.heap.size, 0, none⟩)), .is (.slice (some ⟨b, o, none⟩) n.ps.length a.cp), .is (.int .i64 c), .is (.slice (some ⟨b, o + c * 2, none⟩) (n.ps.length - c) (a.cp - c))]
    [[], [(0, 21)], [], [(2, 23)], [], [(3, 24), (4, 25)]]
    [[], [0], [], [2], [], [3, 4]]
    [(0, 21), (1, 22), (2, 23), (3, 24), (4, 25), (5, 26)] rfl (by kernel_rfl) ⟨?_, ?_, ?_, ?_, ?_, ?_, trivial⟩ ?_
  · intro vals W hB _
    dsimp only [putsL, slotOf]
    go_wp2
    exact ⟨rfl, Below.refl _ _, rfl⟩
  · intro vals W hB ⟨h0, _⟩
    have h0 : vals 0 = _ := h0
    have c1 := (HYb1.out W hB).1
    dsimp only [putsL, slotOf]
    rw [h0]
    go_wp2
    exact ⟨rfl, Below.refl _ _, rfl⟩
  · intro vals W hB _
    dsimp only [putsL, slotOf]
    go_wp2
    exact ⟨rfl, Below.refl _ _, rfl⟩
  · intro vals W hB ⟨h2, _⟩
    have h2 : vals 2 = _ := h2
    have c1 := (HYb1.out W hB).2
    dsimp only [putsL, slotOf]
    rw [h2]
    go_wp2
    exact ⟨rfl, Below.refl _ _, rfl⟩
  · intro vals W hB _
    dsimp only [putsL, slotOf]
    go_wp2
    exact ⟨rfl, Below.refl _ _, rfl⟩
  · intro vals W hB ⟨h3, h4, _⟩
    have h3 : vals 3 = _ := h3
    have h4 : vals 4 = _ := h4
    have hccb1 := HCCb1.out
    dsimp only [putsL, slotOf]
    rw [h3, h4]
    go_wp2
    exact ⟨rfl, Below.refl _ _, (show Value.slice _ _ _ = Value.slice _ _ _ by first | rfl | simp [hccb1])⟩
  rintro vals ub1 hB ⟨q0, q1, q2, q3, q4, q5, -⟩
  have h0 : vals 0 = _ := q0
  have h1 : vals 1 = _ := q1
  have h2 : vals 2 = _ := q2
  have h3 : vals 3 = _ := q3
  have h4 : vals 4 = _ := q4
  have h5 : vals 5 = _ := q5
  dsimp only [putsL]
  rw [h0, h1, h2, h3, h4, h5]
  clear h0 q0 h1 q1 h2 q2 h3 q3 h4 q4 h5 q5
  simp only [List.length_cons, List.length_nil, Nat.reduceAdd, List.drop_succ_cons, List.drop_zero, List.setIfInBounds_toArray, List.set_cons_succ, List.set_cons_zero]
  have HJb1' : Veil _ := ⟨HJb.out.below hB⟩
  have HELb1 : Veil (Els elP ub1 (some ⟨b, o + c * 2, none⟩) Y) := ⟨HXb1.out ub1 (HBb.out.turned HGBb.out HJb1'.out.x (by have := HO.out; omega)).s⟩
  clear hB HYb1
  go_wp2_with (at_builtin; refine wpList_append_els elP rfl (.tmp 22) (.tmp 26) rfl Wa1.heap.size (.slice none 0 0) [] Y rfl HJb1'.out.m.p (some ⟨b, o + c * 2, none⟩) (a.cp - c) (by rw [Eb1.out]; rfl) HELb1.out (by rw [Eb1.out]; simp; omega) HJb1'.out.x.size ?_; intro v' wb1 hownb1 hgrowb1 hvb1; have HOGb1 : Veil _ := ⟨(HJb1'.out.grown HJb1'.out.own1 hgrowb1)⟩; obtain ⟨pb1, cb1, eb1, -, -⟩ := hownb1.fit; generalize hlb1 : List.length _ = lb1 at eb1; subst eb1; obtain ⟨⟨y0, y1, y2⟩, g0, g1, g2⟩ := box3 HOGb1.out; obtain ⟨Wb1, hWb1⟩ : ∃ Wb1, wb1.setCell ⟨GB, 0, none⟩ (.slice pb1 lb1 cb1) = Wb1 := ⟨_, rfl⟩; have HJb1 : Veil (BldT Wa1 GB ⟨Y, [], []⟩ (.slice pb1 lb1 cb1) (.slice none 0 0) (.slice none 0 0) Wb1) := ⟨by rw [← hWb1]; exact HJb1'.out.putP hgrowb1 hownb1 hvb1⟩; have HLLb1 : Veil _ := ⟨hlb1⟩; clear y1 g1 y2 g2 hvb1 hownb1 hgrowb1 hlb1)
  clear hWb1 HOGb1 HJb1' HELb1 y0 g0
  obtain ⟨ax, e1, e2, e3, hxa, hfx⟩ := HJa1.out.nbox
  obtain ⟨ay, f1, f2, f3, hyb, hfy⟩ := HJb1.out.nbox
  have HI0 : Veil (SpJ w n a R1 R2 GA GB ⟨X, [], []⟩ ax ⟨Y, [], []⟩ ay 0 Wb1.drew) := ⟨by
    have hj : SpJ w n a R1 R2 GA GB ⟨X, [], []⟩ ax ⟨Y, [], []⟩ ay 0 Wb1 := ⟨HBb.out.turned HGBb.out HJb1.out.x (by have := HO.out; omega), hxa.turned HGBb.out HJb1.out.x (by have := HO.out; omega), hyb, HR1b.out.turned HJb1.out.x (by have := HO.out; omega), HR2b.out.turned HJb1.out.x (by have := HO.out; omega), fun e => absurd e (by omega), fun e => absurd e (by omega), by have := HO.out; omega⟩
    exact hj.below (Below.refl _ _).drew⟩
  have HFx : Veil _ := ⟨hfx⟩
  have HFy : Veil _ := ⟨hfy⟩
  obtain ⟨b2, o2, hqe, -⟩ := hyb.s.pair (by have := HYL.out; rintro he; simp only at he; simp [he] at this)
  have HQE : Veil _ := ⟨hqe⟩
  have hyl : 0 < ay.cp := Nat.lt_of_lt_of_le HYL.out hfy.p.le
  clear hqe hxa hyb hfx hfy e1 e2 e3 f1 f2 f3 HJa1 HJb1 HJb HJ5 HBb HR1b HR2b HGBb HB5 HR15 HR25 HGA5 HZB5 HXa1 HXb1 HLLa1 HLLb1 Ea1 Eb1
  have HYL2 : Veil (0 < y.ps.length) := ⟨by rw [← HYy.out]; exact HYL.out⟩
  have hyl2 : 0 < y.ps.length := HYL2.out
  have HKE2 : Veil ((y.ps.getD 0 Pr.zero).k = key) := ⟨by rw [← HYy.out]; exact HKE.out⟩
  rw [HXx.out] at HI0 HFx
  rw [HYy.out] at HI0 HFy
  clear HKE HYL
  refine region_stage 10 [[], [], [(1, 30)], [(2, 31)], [(3, 32)], [(4, 33)], [], [(0, 29)], [(5, 34)], [(6, 35)]]
    [[], [], [1], [2], [3], [4], [], [0], [0, 1, 2, 3, 4, 5, 7], [0, 1, 2, 3, 4, 5, 6, 7, 8]]
    [(0, 29), (1, 30), (2, 31), (3, 32), (4, 33), (5, 34), (6, 35), (8, 5)]
    (fun s W => SpJ w n a R1 R2 GA GB x ax y ay s W)
    (fun i => ([fun v => v = .agg #[.slice ax.pp x.ps.length ax.cp, .slice ax.pk x.ks.length ax.ck, .slice ax.pd x.ds.length ax.cd], fun v => v = .pointer (some ⟨GB, 0, none⟩), fun v => v = .slice (some ⟨b2, o2, none⟩) y.ps.length ay.cp, fun v => v = .pointer (some ⟨b2, o2, none⟩), fun v => v = .pointer (some ⟨b2, o2, none⟩), fun v => v = .string ⟨key.toArray⟩, fun v => v = .agg #[.slice ay.pp y.ps.length ay.cp, .slice ay.pk y.ks.length ay.ck, .slice ay.pd y.ds.length ay.cd], fun _ => True, fun v => v = .string ⟨key.toArray⟩, fun _ => True] : List (Value → Prop)).getD i fun _ => True)
    (fun i => [0, 0, 0, 0, 0, 0, 0, 1, 1, 2].getD i 0) (fun i => [2, 2, 2, 2, 2, 2, 2, 0, 2, 1].getD i 2) rfl (by kernel_rfl) ?_ ⟨?_, ?_, ?_, ?_, ?_, ?_, ?_, ?_, ?_, ?_, trivial⟩ ?_
  · exact HI0.out
  · intro vals s W hI hs _
    have hs : s ≤ 2 := hs
    obtain ⟨⟨b0, b1, b2⟩, -⟩ := box3 hI.hx.b
    dsimp only [putsL, slotOf]
    go_wp2
    exact ⟨rfl, s, hI, Nat.le_refl _, (by first | exact ⟨rfl, (show 0 ≤ s by omega)⟩ | exact rfl), (by intros; assumption)⟩
  · intro vals s W hI hs _
    have hs : s ≤ 2 := hs
    dsimp only [putsL, slotOf]
    go_wp2
    exact ⟨rfl, s, hI, Nat.le_refl _, (by first | exact ⟨rfl, (show 0 ≤ s by omega)⟩ | exact rfl), (by intros; assumption)⟩
  · intro vals s W hI hs ⟨⟨h1, l1⟩, _⟩
    have hs : s ≤ 2 := hs
    have l1 : 0 ≤ s := l1
    have h1 : vals 1 = .pointer (some ⟨GB, 0, none⟩) := h1
    obtain ⟨⟨b0, b1, b2⟩, -⟩ := box3 hI.hy.b; rw [HQE.out] at b0
    dsimp only [putsL, slotOf]
    rw [h1]
    go_wp2
    exact ⟨rfl, s, hI, Nat.le_refl _, (by first | exact ⟨rfl, (show 0 ≤ s by omega)⟩ | exact rfl), (by intros; assumption)⟩
  · intro vals s W hI hs ⟨⟨h2, l2⟩, _⟩
    have hs : s ≤ 2 := hs
    have l2 : 0 ≤ s := l2
    have h2 : vals 2 = .slice (some ⟨b2, o2, none⟩) y.ps.length ay.cp := h2
    dsimp only [putsL, slotOf]
    rw [h2]
    go_wp2
    exact ⟨rfl, s, hI, Nat.le_refl _, (by first | exact ⟨rfl, (show 0 ≤ s by omega)⟩ | exact rfl), (by intros; assumption)⟩
  · intro vals s W hI hs ⟨⟨h3, l3⟩, _⟩
    have hs : s ≤ 2 := hs
    have l3 : 0 ≤ s := l3
    have h3 : vals 3 = .pointer (some ⟨b2, o2, none⟩) := h3
    dsimp only [putsL, slotOf]
    rw [h3]
    go_wp2
    exact ⟨rfl, s, hI, Nat.le_refl _, (by first | exact ⟨rfl, (show 0 ≤ s by omega)⟩ | exact rfl), (by intros; assumption)⟩
  · intro vals s W hI hs ⟨⟨h4, l4⟩, _⟩
    have hs : s ≤ 2 := hs
    have l4 : 0 ≤ s := l4
    have h4 : vals 4 = .pointer (some ⟨b2, o2, none⟩) := h4
    have b0 := pair_cell hI.hy.s HQE.out HYL2.out; rw [HKE2.out, Nat.zero_mul, Nat.add_zero] at b0
    dsimp only [putsL, slotOf]
    rw [h4]
    go_wp2
    exact ⟨rfl, s, hI, Nat.le_refl _, (by first | exact ⟨rfl, (show 0 ≤ s by omega)⟩ | exact rfl), (by intros; assumption)⟩
  · intro vals s W hI hs _
    have hs : s ≤ 2 := hs
    obtain ⟨⟨b0, b1, b2⟩, -⟩ := box3 hI.hy.b
    dsimp only [putsL, slotOf]
    go_wp2
    exact ⟨rfl, s, hI, Nat.le_refl _, (by first | exact ⟨rfl, (show 0 ≤ s by omega)⟩ | exact rfl), (by intros; assumption)⟩
  · intro vals s W hI hs ⟨⟨h0, l0⟩, _⟩
    have hs : s ≤ 0 := hs
    have l0 : 0 ≤ s := l0
    have h0 : vals 0 = .agg #[.slice ax.pp x.ps.length ax.cp, .slice ax.pk x.ks.length ax.ck, .slice ax.pd x.ds.length ax.cd] := h0
    have hI4 := hI.put1 (by omega); have hr := hI.r1; obtain ⟨p1, n1, c1, p2, n2, c2, p3, n3, c3, hg⟩ := hr; obtain ⟨⟨b0, b1, b2⟩, k0, k1, k2⟩ := box3 hg
    dsimp only [putsL, slotOf]
    rw [h0]
    go_wp2
    refine ⟨rfl, 1, hI4, by omega, (by first | exact ⟨trivial, (show 1 ≤ 1 by omega)⟩ | exact trivial | exact Nat.le_refl _), ?_⟩
    first | exact ub_all ([2, 2, 2, 2, 2, 2, 2, 0, 2, 1] : List Nat) 1 2 7 [0] (by decide) (by decide) s | simpa using ub_all ([2, 2, 2, 2, 2, 2, 2, 0, 2, 1] : List Nat) 1 2 7 [0] (by decide) (by decide) s
  · intro vals s W hI hs ⟨⟨h0, l0⟩, ⟨h1, l1⟩, ⟨h2, l2⟩, ⟨h3, l3⟩, ⟨h4, l4⟩, ⟨h5, l5⟩, ⟨h7, l7⟩, _⟩
    have hs : s ≤ 2 := hs
    have l0 : 0 ≤ s := l0
    have l1 : 0 ≤ s := l1
    have l2 : 0 ≤ s := l2
    have l3 : 0 ≤ s := l3
    have l4 : 0 ≤ s := l4
    have l5 : 0 ≤ s := l5
    have l7 : 1 ≤ s := l7
    have h5 : vals 5 = .string ⟨key.toArray⟩ := h5
    dsimp only [putsL, slotOf]
    rw [h5]
    go_wp2
    exact ⟨rfl, s, hI, Nat.le_refl _, (by first | exact ⟨rfl, (show 1 ≤ s by omega)⟩ | exact rfl), (by intros; assumption)⟩
  · intro vals s W hI hs ⟨⟨h0, l0⟩, ⟨h1, l1⟩, ⟨h2, l2⟩, ⟨h3, l3⟩, ⟨h4, l4⟩, ⟨h5, l5⟩, ⟨h6, l6⟩, ⟨h7, l7⟩, ⟨h8, l8⟩, _⟩
    have hs : s ≤ 1 := hs
    have l0 : 0 ≤ s := l0
    have l1 : 0 ≤ s := l1
    have l2 : 0 ≤ s := l2
    have l3 : 0 ≤ s := l3
    have l4 : 0 ≤ s := l4
    have l5 : 0 ≤ s := l5
    have l6 : 0 ≤ s := l6
    have l7 : 1 ≤ s := l7
    have l8 : 1 ≤ s := l8
    have h6 : vals 6 = .agg #[.slice ay.pp y.ps.length ay.cp, .slice ay.pk y.ks.length ay.ck, .slice ay.pd y.ds.length ay.cd] := h6
    have hI4 := hI.put2 (by omega) (by omega); have hr := hI.r2; obtain ⟨p1, n1, c1, p2, n2, c2, p3, n3, c3, hg⟩ := hr; obtain ⟨⟨b0, b1, b2⟩, k0, k1, k2⟩ := box3 hg
    dsimp only [putsL, slotOf]
    rw [h6]
    go_wp2
    refine ⟨rfl, 2, hI4, by omega, (by first | exact ⟨trivial, (show 2 ≤ 2 by omega)⟩ | exact trivial | exact Nat.le_refl _), ?_⟩
    first | exact ub_all ([2, 2, 2, 2, 2, 2, 2, 0, 2, 1] : List Nat) 2 2 9 [0, 1, 2, 3, 4, 5, 6, 7, 8] (by decide) (by decide) s | simpa using ub_all ([2, 2, 2, 2, 2, 2, 2, 0, 2, 1] : List Nat) 2 2 9 [0, 1, 2, 3, 4, 5, 6, 7, 8] (by decide) (by decide) s
  rintro vals s W hI hq
  have q0 : vals 0 = .agg #[.slice ax.pp x.ps.length ax.cp, .slice ax.pk x.ks.length ax.ck, .slice ax.pd x.ds.length ax.cd] := (hq 0 (by decide)).1
  have q1 : vals 1 = .pointer (some ⟨GB, 0, none⟩) := (hq 1 (by decide)).1
  have q2 : vals 2 = .slice (some ⟨b2, o2, none⟩) y.ps.length ay.cp := (hq 2 (by decide)).1
  have q3 : vals 3 = .pointer (some ⟨b2, o2, none⟩) := (hq 3 (by decide)).1
  have q4 : vals 4 = .pointer (some ⟨b2, o2, none⟩) := (hq 4 (by decide)).1
  have q5 : vals 5 = .string ⟨key.toArray⟩ := (hq 5 (by decide)).1
  have q6 : vals 6 = .agg #[.slice ay.pp y.ps.length ay.cp, .slice ay.pk y.ks.length ay.ck, .slice ay.pd y.ds.length ay.cd] := (hq 6 (by decide)).1
  have q8 : vals 8 = .string ⟨key.toArray⟩ := (hq 8 (by decide)).1
  have hs : 2 ≤ s := (hq 9 (by decide)).2
  dsimp only [putsL]
  rw [q0, q1, q2, q3, q4, q5, q6, q8]
  clear hq q0 q1 q2 q3 q4 q5 q6 q8
  simp only [List.drop_succ_cons, List.drop_zero, List.setIfInBounds_toArray, List.set_cons_succ, List.set_cons_zero]
  go_wp2
  exact bodyPost_ret (results_cut (g1 := R1) (g2 := R2) rfl rfl rfl rfl (hI.d1 (by omega)).b (hI.d2 hs).b) rfl ⟨ax, ay, rfl, (hI.d1 (by omega)).s, (hI.d2 hs).s, HFx.out, HFy.out, hI.hn.x⟩

set_option maxRecDepth 20000 in
set_option maxHeartbeats 4000000 in
theorem cutat_branch {w : World} {n : Nd} {a : NdP} (h : NdAt w n a) (hf : NdFit n a) (c c1 : Nat) (hc1 : c1 + 1 = c) (hck : c < n.ks.length) (hcd : c < n.ds.length) (hK : n.ks.length ≤ 100000) (hD : n.ds.length ≤ 100000) :
    Calls Try.prog 23 #[n.v a, .int .i64 c] w (CutPost w ⟨[], n.ks.take c1, n.ds.take c⟩ ⟨[], n.ks.drop c, n.ds.drop c⟩ (n.ks.getD c1 [])) := by
  obtain ⟨b, o, hpd, -⟩ := h.kid (by rintro he; simp [he] at hcd)
  obtain ⟨d, q, hpk, -⟩ := h.key (by rintro he; simp [he] at hck)
  have HPED : Veil _ := ⟨hpd⟩
  have HPEK : Veil _ := ⟨hpk⟩
  have hc2 : c < a.cd := Nat.lt_of_lt_of_le hcd hf.d.le
  have hc3 : c < a.ck := Nat.lt_of_lt_of_le hck hf.k.le
  have hc4 : c1 < n.ks.length := by omega
  have hc5 : c1 ≤ a.ck := by omega
  have HCCa2 : Veil True := ⟨trivial⟩
  have HCCb1 : Veil (¬ (a.cd - c = 0)) := ⟨by omega⟩
  have HCCb2 : Veil (¬ (a.ck - c = 0)) := ⟨by omega⟩
  have HE1 : Veil ((c : Int) - 1 = (c1 : Int)) := ⟨by omega⟩
  have HDL : Veil (0 < n.ds.length) := ⟨by omega⟩
  have Ea1 : Veil ((n.ds.take c).length = c) := ⟨by rw [List.length_take]; omega⟩
  have Ea2 : Veil ((n.ks.take c1).length = c1) := ⟨by rw [List.length_take]; omega⟩
  have Eb1 : Veil ((n.ds.drop c).length = n.ds.length - c) := ⟨by rw [List.length_drop]⟩
  have Eb2 : Veil ((n.ks.drop c).length = n.ks.length - c) := ⟨by rw [List.length_drop]⟩
  have HXa1 : Veil (∀ W, NdAt W n a → Els elD W (some ⟨b, o, none⟩) (n.ds.take c)) := ⟨fun W hs => by have := hs.d.take c; rwa [hpd] at this⟩
  have HXa2 : Veil (∀ W, NdAt W n a → Els elK W (some ⟨d, q, none⟩) (n.ks.take c1)) := ⟨fun W hs => by have := hs.k.take c1; rwa [hpk] at this⟩
  have HXb1 : Veil (∀ W, NdAt W n a → Els elD W (some ⟨b, o + c, none⟩) (n.ds.drop c)) := ⟨fun W hs => by have := hs.d.drop c; rw [hpd] at this; simpa [dropP, elD] using this⟩
  have HXb2 : Veil (∀ W, NdAt W n a → Els elK W (some ⟨d, q + c, none⟩) (n.ks.drop c)) := ⟨fun W hs => by have := hs.k.drop c; rw [hpk] at this; simpa [dropP, elK] using this⟩
  obtain ⟨key, hkey⟩ : ∃ key, n.ks.getD c1 [] = key := ⟨_, rfl⟩
  rw [hkey]
  have HKE : Veil _ := ⟨hkey⟩
  clear hkey
  revert HXb2; revert HXb1; revert HXa2; revert HXa1; revert Eb2; revert Eb1; revert Ea2; revert Ea1
  generalize n.ds.take c = X
  generalize n.ds.drop c = Y
  generalize n.ks.take c1 = X2
  generalize n.ks.drop c = Y2
  intro Ea1 Ea2 Eb1 Eb2 HXa1 HXa2 HXb1 HXb2
  obtain ⟨x, hx⟩ : ∃ x : Nd, (⟨[], X2, X⟩ : Nd) = x := ⟨_, rfl⟩
  obtain ⟨y, hy⟩ : ∃ y : Nd, (⟨[], Y2, Y⟩ : Nd) = y := ⟨_, rfl⟩
  rw [hx, hy]
  have HXx : Veil _ := ⟨hx⟩
  have HYy : Veil _ := ⟨hy⟩
  clear hx hy
  obtain ⟨W1, W2, W3, W4, W5, hW1, hW2, hW3, hW4, hW5, HS⟩ := cut_start w h
  obtain ⟨R1, hR1⟩ : ∃ R1, W1.heap.size = R1 := ⟨_, rfl⟩
  obtain ⟨R2, hR2⟩ : ∃ R2, W2.heap.size = R2 := ⟨_, rfl⟩
  obtain ⟨GA, hGA⟩ : ∃ GA, W3.heap.size = GA := ⟨_, rfl⟩
  obtain ⟨GB, hGB⟩ : ∃ GB, W4.heap.size = GB := ⟨_, rfl⟩
  have HO : Veil (w.heap.size < R1 ∧ R1 < R2 ∧ R2 < GA ∧ GA < GB ∧ GB < W5.heap.size) := ⟨by have := HS.out.2.2.2.2.2; omega⟩
  have HB5 : Veil (NdBox w n a W5) := ⟨HS.out.1⟩
  have HR15 : Veil (Box3 W5 R1) := ⟨by rw [← hR1]; exact HS.out.2.1⟩
  have HR25 : Veil (Box3 W5 R2) := ⟨by rw [← hR2]; exact HS.out.2.2.1⟩
  have HJ5 : Veil (BldT W5 GA ⟨[], [], []⟩ (.slice none 0 0) (.slice none 0 0) (.slice none 0 0) W5) := ⟨by rw [← hGA]; exact BldT.new HS.out.2.2.2.1⟩
  have HGA5 : Veil (Box3 W5 GA) := ⟨⟨_, _, _, _, _, _, _, _, _, by rw [← hGA]; exact HS.out.2.2.2.1⟩⟩
  have HZB5 : Veil (W5.heap[GB]? = some (.cells #[.slice none 0 0, .slice none 0 0, .slice none 0 0] 26 (0, 0))) := ⟨by rw [← hGB]; exact HS.out.2.2.2.2.1⟩
  obtain ⟨a0, a1, a2⟩ := HB5.out.cells
  clear HS h
  rw [hpk] at a1
  rw [hpd] at a2
  have hd' : ((n.ds.length : Int) == 0) = false := by have := HDL.out; rw [beq_eq_false_iff_ne]; omega
  clear hpd hpk hc1
  unfold Nd.v at *
  rw [HPED.out, HPEK.out] at hW1 ⊢
  go_enter Try.func23, Try.ntmps23
  go_wp2
  try rw [hR1]
  try rw [hR2]
  try rw [hGA]
  try rw [hGB]
  clear hR1 hR2 hGA hGB hW1 hW2 hW3 hW4 hW5 a0 a1 a2 hd'
  have HYa1 : Veil (∀ W, Below W5.heap.size W5 W → W.cell? ⟨GA, 2, none⟩ = some (.slice none 0 0) ∧ W.cell? ⟨w.heap.size, 2, none⟩ = some (.slice (some ⟨b, o, none⟩) n.ds.length a.cd)) := ⟨fun W hb => ⟨(HJ5.out.below hb).cells.1.2.2, by
    have hq := (HB5.out.turned HGA5.out (HJ5.out.below hb).x (by have := HO.out; omega)).cells.2.2
    rwa [HPED.out] at hq⟩⟩
  refine region_new [.is (.pointer (some ⟨GA, 2, none⟩)), .is (.slice none 0 0), .is (.pointer (some ⟨w.heap.size, 2, none⟩)), .is (.slice (some ⟨b, o, none⟩) n.ds.length a.cd), .is (.int .i64 c), .is (.slice (some ⟨b, o, none⟩) c a.cd)]
    [[], [(0, 36)], [], [(2, 38)], [], [(3, 39), (4, 40)]]
    [[], [0], [], [2], [], [3, 4]]
    [(0, 36), (1, 37), (2, 38), (3, 39), (4, 40), (5, 41)] rfl (by kernel_rfl) ⟨?_, ?_, ?_, ?_, ?_, ?_, trivial⟩ ?_
  · intro vals W hB _
    dsimp only [putsL, slotOf]
    go_wp2
    exact ⟨rfl, Below.refl _ _, rfl⟩
  · intro vals W hB ⟨h0, _⟩
    have h0 : vals 0 = _ := h0
    have c1 := (HYa1.out W hB).1
    dsimp only [putsL, slotOf]
    rw [h0]
    go_wp2
    exact ⟨rfl, Below.refl _ _, rfl⟩
  · intro vals W hB _
    dsimp only [putsL, slotOf]
    go_wp2
    exact ⟨rfl, Below.refl _ _, rfl⟩
  · intro vals W hB ⟨h2, _⟩
    have h2 : vals 2 = _ := h2
    have c1 := (HYa1.out W hB).2
    dsimp only [putsL, slotOf]
    rw [h2]
    go_wp2
    exact ⟨rfl, Below.refl _ _, rfl⟩
  · intro vals W hB _
    dsimp only [putsL, slotOf]
    go_wp2
    exact ⟨rfl, Below.refl _ _, rfl⟩
  · intro vals W hB ⟨h3, h4, _⟩
    have h3 : vals 3 = _ := h3
    have h4 : vals 4 = _ := h4
    dsimp only [putsL, slotOf]
    rw [h3, h4]
    go_wp2
    exact ⟨rfl, Below.refl _ _, rfl⟩
  rintro vals ua1 hB ⟨q0, q1, q2, q3, q4, q5, -⟩
  have h0 : vals 0 = _ := q0
  have h1 : vals 1 = _ := q1
  have h2 : vals 2 = _ := q2
  have h3 : vals 3 = _ := q3
  have h4 : vals 4 = _ := q4
  have h5 : vals 5 = _ := q5
  dsimp only [putsL]
  rw [h0, h1, h2, h3, h4, h5]
  clear h0 q0 h1 q1 h2 q2 h3 q3 h4 q4 h5 q5
  simp only [List.length_cons, List.length_nil, Nat.reduceAdd, List.drop_succ_cons, List.drop_zero, List.setIfInBounds_toArray, List.set_cons_succ, List.set_cons_zero]
  have HJa1' : Veil _ := ⟨HJ5.out.below hB⟩
  have HELa1 : Veil (Els elD ua1 (some ⟨b, o, none⟩) X) := ⟨HXa1.out ua1 (HB5.out.turned HGA5.out HJa1'.out.x (by have := HO.out; omega)).s⟩
  clear hB HYa1
  go_wp2_with (at_builtin; refine wpList_append_els elD rfl (.tmp 37) (.tmp 41) rfl W5.heap.size (.slice none 0 0) [] X rfl HJa1'.out.m.d (some ⟨b, o, none⟩) a.cd (by rw [Ea1.out]; rfl) HELa1.out (by rw [Ea1.out]; simp; omega) HJa1'.out.x.size ?_; intro v' wa1 howna1 hgrowa1 hva1; have HOGa1 : Veil _ := ⟨(HJa1'.out.grown HJa1'.out.own3 hgrowa1)⟩; obtain ⟨pa1, ca1, ea1, -, -⟩ := howna1.fit; generalize hla1 : List.length _ = la1 at ea1; subst ea1; obtain ⟨⟨y0, y1, y2⟩, g0, g1, g2⟩ := box3 HOGa1.out; obtain ⟨Wa1, hWa1⟩ : ∃ Wa1, wa1.setCell ⟨GA, 2, none⟩ (.slice pa1 la1 ca1) = Wa1 := ⟨_, rfl⟩; have HJa1 : Veil (BldT W5 GA ⟨[], [], X⟩ (.slice none 0 0) (.slice none 0 0) (.slice pa1 la1 ca1) Wa1) := ⟨by rw [← hWa1]; exact HJa1'.out.putD hgrowa1 howna1 hva1⟩; have HLLa1 : Veil _ := ⟨hla1⟩; clear y0 g0 y1 g1 hva1 howna1 hgrowa1 hla1)
  clear hWa1 HOGa1 HJa1' HELa1 y2 g2
  have HYa2 : Veil (∀ W, Below Wa1.heap.size Wa1 W → W.cell? ⟨GA, 1, none⟩ = some (.slice none 0 0) ∧ W.cell? ⟨w.heap.size, 1, none⟩ = some (.slice (some ⟨d, q, none⟩) n.ks.length a.ck)) := ⟨fun W hb => ⟨(HJa1.out.below hb).cells.1.2.1, by
    have hq := (HB5.out.turned HGA5.out (HJa1.out.below hb).x (by have := HO.out; omega)).cells.2.1
    rwa [HPEK.out] at hq⟩⟩
  refine region_new [.is (.pointer (some ⟨GA, 1, none⟩)), .is (.slice none 0 0), .is (.pointer (some ⟨w.heap.size, 1, none⟩)), .is (.slice (some ⟨d, q, none⟩) n.ks.length a.ck), .is (.int .i64 c), .is (.int .i64 ((c : Int) - 1)), .is (.slice (some ⟨d, q, none⟩) c1 a.ck)]
    [[], [(0, 44)], [], [(2, 46)], [], [(4, 48)], [(3, 47), (5, 49)]]
    [[], [0], [], [2], [], [4], [3, 5]]
    [(0, 44), (1, 45), (2, 46), (3, 47), (4, 48), (5, 49), (6, 50)] rfl (by kernel_rfl) ⟨?_, ?_, ?_, ?_, ?_, ?_, ?_, trivial⟩ ?_
  · intro vals W hB _
    dsimp only [putsL, slotOf]
    go_wp2
    exact ⟨rfl, Below.refl _ _, rfl⟩
  · intro vals W hB ⟨h0, _⟩
    have h0 : vals 0 = _ := h0
    have c1 := (HYa2.out W hB).1
    dsimp only [putsL, slotOf]
    rw [h0]
    go_wp2
    exact ⟨rfl, Below.refl _ _, rfl⟩
  · intro vals W hB _
    dsimp only [putsL, slotOf]
    go_wp2
    exact ⟨rfl, Below.refl _ _, rfl⟩
  · intro vals W hB ⟨h2, _⟩
    have h2 : vals 2 = _ := h2
    have c1 := (HYa2.out W hB).2
    dsimp only [putsL, slotOf]
    rw [h2]
    go_wp2
    exact ⟨rfl, Below.refl _ _, rfl⟩
  · intro vals W hB _
    dsimp only [putsL, slotOf]
    go_wp2
    exact ⟨rfl, Below.refl _ _, rfl⟩
  · intro vals W hB ⟨h4, _⟩
    have h4 : vals 4 = _ := h4
    dsimp only [putsL, slotOf]
    rw [h4]
    go_wp2
    exact ⟨rfl, Below.refl _ _, rfl⟩
  · intro vals W hB ⟨h3, h5, _⟩
    have h3 : vals 3 = _ := h3
    have h5 : vals 5 = _ := h5
    rw [HE1.out] at h5; have hcca2 := HCCa2.out
    dsimp only [putsL, slotOf]
    rw [h3, h5]
    go_wp2
    exact ⟨rfl, Below.refl _ _, rfl⟩
  rintro vals ua2 hB ⟨q0, q1, q2, q3, q4, q5, q6, -⟩
  have h0 : vals 0 = _ := q0
  have h1 : vals 1 = _ := q1
  have h2 : vals 2 = _ := q2
  have h3 : vals 3 = _ := q3
  have h4 : vals 4 = _ := q4
  have h5 : vals 5 = _ := q5
  have h6 : vals 6 = _ := q6
  dsimp only [putsL]
  rw [h0, h1, h2, h3, h4, h5, h6]
  clear h0 q0 h1 q1 h2 q2 h3 q3 h4 q4 h5 q5 h6 q6
  simp only [List.length_cons, List.length_nil, Nat.reduceAdd, List.drop_succ_cons, List.drop_zero, List.setIfInBounds_toArray, List.set_cons_succ, List.set_cons_zero]
  have HJa2' : Veil _ := ⟨HJa1.out.below hB⟩
  have HELa2 : Veil (Els elK ua2 (some ⟨d, q, none⟩) X2) := ⟨HXa2.out ua2 (HB5.out.turned HGA5.out HJa2'.out.x (by have := HO.out; omega)).s⟩
  clear hB HYa2
  go_wp2_with (at_builtin; refine wpList_append_els elK rfl (.tmp 45) (.tmp 50) rfl W5.heap.size (.slice none 0 0) [] X2 rfl HJa2'.out.m.k (some ⟨d, q, none⟩) a.ck (by rw [Ea2.out]; rfl) HELa2.out (by rw [Ea2.out]; simp; omega) HJa2'.out.x.size ?_; intro v' wa2 howna2 hgrowa2 hva2; have HOGa2 : Veil _ := ⟨(HJa2'.out.grown HJa2'.out.own2 hgrowa2)⟩; obtain ⟨pa2, ca2, ea2, -, -⟩ := howna2.fit; generalize hla2 : List.length _ = la2 at ea2; subst ea2; obtain ⟨⟨y0, y1, y2⟩, g0, g1, g2⟩ := box3 HOGa2.out; obtain ⟨Wa2, hWa2⟩ : ∃ Wa2, wa2.setCell ⟨GA, 1, none⟩ (.slice pa2 la2 ca2) = Wa2 := ⟨_, rfl⟩; have HJa2 : Veil (BldT W5 GA ⟨[], X2, X⟩ (.slice none 0 0) (.slice pa2 la2 ca2) (.slice pa1 la1 ca1) Wa2) := ⟨by rw [← hWa2]; exact HJa2'.out.putK hgrowa2 howna2 hva2⟩; have HLLa2 : Veil _ := ⟨hla2⟩; clear y0 g0 y2 g2 hva2 howna2 hgrowa2 hla2)
  clear hWa2 HOGa2 HJa2' HELa2 y1 g1
  have HBb : Veil (NdBox w n a Wa2) := ⟨HB5.out.turned HGA5.out HJa2.out.x (by have := HO.out; omega)⟩
  have HR1b : Veil (Box3 Wa2 R1) := ⟨HR15.out.turned HJa2.out.x (by have := HO.out; omega)⟩
  have HR2b : Veil (Box3 Wa2 R2) := ⟨HR25.out.turned HJa2.out.x (by have := HO.out; omega)⟩
  have hzb := HJa2.out.x.heap HZB5.out (show GB ≠ GA by have := HO.out; omega)
  have HJb : Veil (BldT Wa2 GB ⟨[], [], []⟩ (.slice none 0 0) (.slice none 0 0) (.slice none 0 0) Wa2) := ⟨BldT.new hzb⟩
  have HGBb : Veil (Box3 Wa2 GB) := ⟨⟨_, _, _, _, _, _, _, _, _, hzb⟩⟩
  clear hzb
  have HYb1 : Veil (∀ W, Below Wa2.heap.size Wa2 W → W.cell? ⟨GB, 2, none⟩ = some (.slice none 0 0) ∧ W.cell? ⟨w.heap.size, 2, none⟩ = some (.slice (some ⟨b, o, none⟩) n.ds.length a.cd)) := ⟨fun W hb => ⟨(HJb.out.below hb).cells.1.2.2, by
    have hq := (HBb.out.turned HGBb.out (HJb.out.below hb).x (by have := HO.out; omega)).cells.2.2
    rwa [HPED.out] at hq⟩⟩
  refine region_new [.is (.pointer (some ⟨GB, 2, none⟩)), .is (.slice none 0 0), .is (.pointer (some ⟨w.heap.size, 2, none⟩)), .is (.slice (some ⟨b, o, none⟩) n.ds.length a.cd), .is (.int .i64 c), .is (.slice (some ⟨b, o + c, none⟩) (n.ds.length - c) (a.cd - c))]
    [[], [(0, 53)], [], [(2, 55)], [], [(3, 56), (4, 57)]]
    [[], [0], [], [2], [], [3, 4]]
    [(0, 53), (1, 54), (2, 55), (3, 56), (4, 57), (5, 58)] rfl (by kernel_rfl) ⟨?_, ?_, ?_, ?_, ?_, ?_, trivial⟩ ?_
  · intro vals W hB _
    dsimp only [putsL, slotOf]
    go_wp2
    exact ⟨rfl, Below.refl _ _, rfl⟩
  · intro vals W hB ⟨h0, _⟩
    have h0 : vals 0 = _ := h0
    have c1 := (HYb1.out W hB).1
    dsimp only [putsL, slotOf]
    rw [h0]
    go_wp2
    exact ⟨rfl, Below.refl _ _, rfl⟩
  · intro vals W hB _
    dsimp only [putsL, slotOf]
    go_wp2
    exact ⟨rfl, Below.refl _ _, rfl⟩
  · intro vals W hB ⟨h2, _⟩
    have h2 : vals 2 = _ := h2
    have c1 := (HYb1.out W hB).2
    dsimp only [putsL, slotOf]
    rw [h2]
    go_wp2
    exact ⟨rfl, Below.refl _ _, rfl⟩
  · intro vals W hB _
    dsimp only [putsL, slotOf]
    go_wp2
    exact ⟨rfl, Below.refl _ _, rfl⟩
  · intro vals W hB ⟨h3, h4, _⟩
    have h3 : vals 3 = _ := h3
    have h4 : vals 4 = _ := h4
    have hccb1 := HCCb1.out
    dsimp only [putsL, slotOf]
    rw [h3, h4]
    go_wp2
    exact ⟨rfl, Below.refl _ _, (show Value.slice _ _ _ = Value.slice _ _ _ by first | rfl | simp [hccb1])⟩
  rintro vals ub1 hB ⟨q0, q1, q2, q3, q4, q5, -⟩
  have h0 : vals 0 = _ := q0
  have h1 : vals 1 = _ := q1
  have h2 : vals 2 = _ := q2
  have h3 : vals 3 = _ := q3
  have h4 : vals 4 = _ := q4
  have h5 : vals 5 = _ := q5
  dsimp only [putsL]
  rw [h0, h1, h2, h3, h4, h5]
  clear h0 q0 h1 q1 h2 q2 h3 q3 h4 q4 h5 q5
  simp only [List.length_cons, List.length_nil, Nat.reduceAdd, List.drop_succ_cons, List.drop_zero, List.setIfInBounds_toArray, List.set_cons_succ, List.set_cons_zero]
  have HJb1' : Veil _ := ⟨HJb.out.below hB⟩
  have HELb1 : Veil (Els elD ub1 (some ⟨b, o + c, none⟩) Y) := ⟨HXb1.out ub1 (HBb.out.turned HGBb.out HJb1'.out.x (by have := HO.out; omega)).s⟩
  clear hB HYb1
  go_wp2_with (at_builtin; refine wpList_append_els elD rfl (.tmp 54) (.tmp 58) rfl Wa2.heap.size (.slice none 0 0) [] Y rfl HJb1'.out.m.d (some ⟨b, o + c, none⟩) (a.cd - c) (by rw [Eb1.out]; rfl) HELb1.out (by rw [Eb1.out]; simp; omega) HJb1'.out.x.size ?_; intro v' wb1 hownb1 hgrowb1 hvb1; have HOGb1 : Veil _ := ⟨(HJb1'.out.grown HJb1'.out.own3 hgrowb1)⟩; obtain ⟨pb1, cb1, eb1, -, -⟩ := hownb1.fit; generalize hlb1 : List.length _ = lb1 at eb1; subst eb1; obtain ⟨⟨y0, y1, y2⟩, g0, g1, g2⟩ := box3 HOGb1.out; obtain ⟨Wb1, hWb1⟩ : ∃ Wb1, wb1.setCell ⟨GB, 2, none⟩ (.slice pb1 lb1 cb1) = Wb1 := ⟨_, rfl⟩; have HJb1 : Veil (BldT Wa2 GB ⟨[], [], Y⟩ (.slice none 0 0) (.slice none 0 0) (.slice pb1 lb1 cb1) Wb1) := ⟨by rw [← hWb1]; exact HJb1'.out.putD hgrowb1 hownb1 hvb1⟩; have HLLb1 : Veil _ := ⟨hlb1⟩; clear y0 g0 y1 g1 hvb1 hownb1 hgrowb1 hlb1)
  clear hWb1 HOGb1 HJb1' HELb1 y2 g2
  have HYb2 : Veil (∀ W, Below Wb1.heap.size Wb1 W → W.cell? ⟨GB, 1, none⟩ = some (.slice none 0 0) ∧ W.cell? ⟨w.heap.size, 1, none⟩ = some (.slice (some ⟨d, q, none⟩) n.ks.length a.ck)) := ⟨fun W hb => ⟨(HJb1.out.below hb).cells.1.2.1, by
    have hq := (HBb.out.turned HGBb.out (HJb1.out.below hb).x (by have := HO.out; omega)).cells.2.1
    rwa [HPEK.out] at hq⟩⟩
  refine region_new [.is (.pointer (some ⟨GB, 1, none⟩)), .is (.slice none 0 0), .is (.pointer (some ⟨w.heap.size, 1, none⟩)), .is (.slice (some ⟨d, q, none⟩) n.ks.length a.ck), .is (.int .i64 c), .is (.slice (some ⟨d, q + c, none⟩) (n.ks.length - c) (a.ck - c))]
    [[], [(0, 61)], [], [(2, 63)], [], [(3, 64), (4, 65)]]
    [[], [0], [], [2], [], [3, 4]]
    [(0, 61), (1, 62), (2, 63), (3, 64), (4, 65), (5, 66)] rfl (by kernel_rfl) ⟨?_, ?_, ?_, ?_, ?_, ?_, trivial⟩ ?_
  · intro vals W hB _
    dsimp only [putsL, slotOf]
    go_wp2
    exact ⟨rfl, Below.refl _ _, rfl⟩
  · intro vals W hB ⟨h0, _⟩
    have h0 : vals 0 = _ := h0
    have c1 := (HYb2.out W hB).1
    dsimp only [putsL, slotOf]
    rw [h0]
    go_wp2
    exact ⟨rfl, Below.refl _ _, rfl⟩
  · intro vals W hB _
    dsimp only [putsL, slotOf]
    go_wp2
    exact ⟨rfl, Below.refl _ _, rfl⟩
  · intro vals W hB ⟨h2, _⟩
    have h2 : vals 2 = _ := h2
    have c1 := (HYb2.out W hB).2
    dsimp only [putsL, slotOf]
    rw [h2]
    go_wp2
    exact ⟨rfl, Below.refl _ _, rfl⟩
  · intro vals W hB _
    dsimp only [putsL, slotOf]
    go_wp2
    exact ⟨rfl, Below.refl _ _, rfl⟩
  · intro vals W hB ⟨h3, h4, _⟩
    have h3 : vals 3 = _ := h3
    have h4 : vals 4 = _ := h4
    have hccb2 := HCCb2.out
    dsimp only [putsL, slotOf]
    rw [h3, h4]
    go_wp2
    exact ⟨rfl, Below.refl _ _, (show Value.slice _ _ _ = Value.slice _ _ _ by first | rfl | simp [hccb2])⟩
  rintro vals ub2 hB ⟨q0, q1, q2, q3, q4, q5, -⟩
  have h0 : vals 0 = _ := q0
  have h1 : vals 1 = _ := q1
  have h2 : vals 2 = _ := q2
  have h3 : vals 3 = _ := q3
  have h4 : vals 4 = _ := q4
  have h5 : vals 5 = _ := q5
  dsimp only [putsL]
  rw [h0, h1, h2, h3, h4, h5]
  clear h0 q0 h1 q1 h2 q2 h3 q3 h4 q4 h5 q5
  simp only [List.length_cons, List.length_nil, Nat.reduceAdd, List.drop_succ_cons, List.drop_zero, List.setIfInBounds_toArray, List.set_cons_succ, List.set_cons_zero]
  have HJb2' : Veil _ := ⟨HJb1.out.below hB⟩
  have HELb2 : Veil (Els elK ub2 (some ⟨d, q + c, none⟩) Y2) := ⟨HXb2.out ub2 (HBb.out.turned HGBb.out HJb2'.out.x (by have := HO.out; omega)).s⟩
  clear hB HYb2
  go_wp2_with (at_builtin; refine wpList_append_els elK rfl (.tmp 62) (.tmp 66) rfl Wa2.heap.size (.slice none 0 0) [] Y2 rfl HJb2'.out.m.k (some ⟨d, q + c, none⟩) (a.ck - c) (by rw [Eb2.out]; rfl) HELb2.out (by rw [Eb2.out]; simp; omega) HJb2'.out.x.size ?_; intro v' wb2 hownb2 hgrowb2 hvb2; have HOGb2 : Veil _ := ⟨(HJb2'.out.grown HJb2'.out.own2 hgrowb2)⟩; obtain ⟨pb2, cb2, eb2, -, -⟩ := hownb2.fit; generalize hlb2 : List.length _ = lb2 at eb2; subst eb2; obtain ⟨⟨y0, y1, y2⟩, g0, g1, g2⟩ := box3 HOGb2.out; obtain ⟨Wb2, hWb2⟩ : ∃ Wb2, wb2.setCell ⟨GB, 1, none⟩ (.slice pb2 lb2 cb2) = Wb2 := ⟨_, rfl⟩; have HJb2 : Veil (BldT Wa2 GB ⟨[], Y2, Y⟩ (.slice none 0 0) (.slice pb2 lb2 cb2) (.slice pb1 lb1 cb1) Wb2) := ⟨by rw [← hWb2]; exact HJb2'.out.putK hgrowb2 hownb2 hvb2⟩; have HLLb2 : Veil _ := ⟨hlb2⟩; clear y0 g0 y2 g2 hvb2 hownb2 hgrowb2 hlb2)
  clear hWb2 HOGb2 HJb2' HELb2 y1 g1
  obtain ⟨ax, e1, e2, e3, hxa, hfx⟩ := HJa2.out.nbox
  obtain ⟨ay, f1, f2, f3, hyb, hfy⟩ := HJb2.out.nbox
  have HI0 : Veil (SpJ w n a R1 R2 GA GB ⟨[], X2, X⟩ ax ⟨[], Y2, Y⟩ ay 0 Wb2.drew) := ⟨by
    have hj : SpJ w n a R1 R2 GA GB ⟨[], X2, X⟩ ax ⟨[], Y2, Y⟩ ay 0 Wb2 := ⟨HBb.out.turned HGBb.out HJb2.out.x (by have := HO.out; omega), hxa.turned HGBb.out HJb2.out.x (by have := HO.out; omega), hyb, HR1b.out.turned HJb2.out.x (by have := HO.out; omega), HR2b.out.turned HJb2.out.x (by have := HO.out; omega), fun e => absurd e (by omega), fun e => absurd e (by omega), by have := HO.out; omega⟩
    exact hj.below (Below.refl _ _).drew⟩
  have HFx : Veil _ := ⟨hfx⟩
  have HFy : Veil _ := ⟨hfy⟩
  clear hxa hyb hfx hfy e1 e2 e3 f1 f2 f3 HJa1 HJa2 HJb1 HJb2 HJb HJ5 HBb HR1b HR2b HGBb HB5 HR15 HR25 HGA5 HZB5 HXa1 HXa2 HXb1 HXb2 HLLa1 HLLa2 HLLb1 HLLb2 Ea1 Ea2 Eb1 Eb2
  rw [HXx.out] at HI0 HFx
  rw [HYy.out] at HI0 HFy
  refine region_stage 11 [[], [], [(1, 70)], [], [(3, 72)], [(2, 71), (4, 73)], [(5, 74)], [], [(0, 69)], [(6, 75)], [(7, 76)]]
    [[], [], [1], [], [3], [2, 4], [5], [], [0], [0, 1, 2, 3, 4, 5, 6, 8], [0, 1, 2, 3, 4, 5, 6, 7, 8, 9]]
    [(0, 69), (1, 70), (2, 71), (3, 72), (4, 73), (5, 74), (6, 75), (7, 76), (9, 5)]
    (fun s W => SpJ w n a R1 R2 GA GB x ax y ay s W)
    (fun i => ([fun v => v = .agg #[.slice ax.pp x.ps.length ax.cp, .slice ax.pk x.ks.length ax.ck, .slice ax.pd x.ds.length ax.cd], fun v => v = .pointer (some ⟨w.heap.size, 1, none⟩), fun v => v = .slice (some ⟨d, q, none⟩) n.ks.length a.ck, fun v => v = .int .i64 c, fun v => v = .int .i64 ((c : Int) - 1), fun v => v = .pointer (some ⟨d, q + c1, none⟩), fun v => v = .string ⟨key.toArray⟩, fun v => v = .agg #[.slice ay.pp y.ps.length ay.cp, .slice ay.pk y.ks.length ay.ck, .slice ay.pd y.ds.length ay.cd], fun _ => True, fun v => v = .string ⟨key.toArray⟩, fun _ => True] : List (Value → Prop)).getD i fun _ => True)
    (fun i => [0, 0, 0, 0, 0, 0, 0, 0, 1, 1, 2].getD i 0) (fun i => [2, 2, 2, 2, 2, 2, 2, 2, 0, 2, 1].getD i 2) rfl (by kernel_rfl) ?_ ⟨?_, ?_, ?_, ?_, ?_, ?_, ?_, ?_, ?_, ?_, ?_, trivial⟩ ?_
  · exact HI0.out
  · intro vals s W hI hs _
    have hs : s ≤ 2 := hs
    obtain ⟨⟨b0, b1, b2⟩, -⟩ := box3 hI.hx.b
    dsimp only [putsL, slotOf]
    go_wp2
    exact ⟨rfl, s, hI, Nat.le_refl _, (by first | exact ⟨rfl, (show 0 ≤ s by omega)⟩ | exact rfl), (by intros; assumption)⟩
  · intro vals s W hI hs _
    have hs : s ≤ 2 := hs
    dsimp only [putsL, slotOf]
    go_wp2
    exact ⟨rfl, s, hI, Nat.le_refl _, (by first | exact ⟨rfl, (show 0 ≤ s by omega)⟩ | exact rfl), (by intros; assumption)⟩
  · intro vals s W hI hs ⟨⟨h1, l1⟩, _⟩
    have hs : s ≤ 2 := hs
    have l1 : 0 ≤ s := l1
    have h1 : vals 1 = .pointer (some ⟨w.heap.size, 1, none⟩) := h1
    obtain ⟨b0, b1, b2⟩ := hI.hn.cells; rw [HPEK.out] at b1
    dsimp only [putsL, slotOf]
    rw [h1]
    go_wp2
    exact ⟨rfl, s, hI, Nat.le_refl _, (by first | exact ⟨rfl, (show 0 ≤ s by omega)⟩ | exact rfl), (by intros; assumption)⟩
  · intro vals s W hI hs _
    have hs : s ≤ 2 := hs
    dsimp only [putsL, slotOf]
    go_wp2
    exact ⟨rfl, s, hI, Nat.le_refl _, (by first | exact ⟨rfl, (show 0 ≤ s by omega)⟩ | exact rfl), (by intros; assumption)⟩
  · intro vals s W hI hs ⟨⟨h3, l3⟩, _⟩
    have hs : s ≤ 2 := hs
    have l3 : 0 ≤ s := l3
    have h3 : vals 3 = .int .i64 c := h3
    dsimp only [putsL, slotOf]
    rw [h3]
    go_wp2
    exact ⟨rfl, s, hI, Nat.le_refl _, (by first | exact ⟨rfl, (show 0 ≤ s by omega)⟩ | exact rfl), (by intros; assumption)⟩
  · intro vals s W hI hs ⟨⟨h2, l2⟩, ⟨h4, l4⟩, _⟩
    have hs : s ≤ 2 := hs
    have l2 : 0 ≤ s := l2
    have l4 : 0 ≤ s := l4
    have h2 : vals 2 = .slice (some ⟨d, q, none⟩) n.ks.length a.ck := h2
    have h4 : vals 4 = .int .i64 ((c : Int) - 1) := h4
    rw [HE1.out] at h4
    dsimp only [putsL, slotOf]
    rw [h2, h4]
    go_wp2
    exact ⟨rfl, s, hI, Nat.le_refl _, (by first | exact ⟨rfl, (show 0 ≤ s by omega)⟩ | exact rfl), (by intros; assumption)⟩
  · intro vals s W hI hs ⟨⟨h5, l5⟩, _⟩
    have hs : s ≤ 2 := hs
    have l5 : 0 ≤ s := l5
    have h5 : vals 5 = .pointer (some ⟨d, q + c1, none⟩) := h5
    have b0 := key_cell hI.hn.s HPEK.out hc4; rw [HKE.out] at b0
    dsimp only [putsL, slotOf]
    rw [h5]
    go_wp2
    exact ⟨rfl, s, hI, Nat.le_refl _, (by first | exact ⟨rfl, (show 0 ≤ s by omega)⟩ | exact rfl), (by intros; assumption)⟩
  · intro vals s W hI hs _
    have hs : s ≤ 2 := hs
    obtain ⟨⟨b0, b1, b2⟩, -⟩ := box3 hI.hy.b
    dsimp only [putsL, slotOf]
    go_wp2
    exact ⟨rfl, s, hI, Nat.le_refl _, (by first | exact ⟨rfl, (show 0 ≤ s by omega)⟩ | exact rfl), (by intros; assumption)⟩
  · intro vals s W hI hs ⟨⟨h0, l0⟩, _⟩
    have hs : s ≤ 0 := hs
    have l0 : 0 ≤ s := l0
    have h0 : vals 0 = .agg #[.slice ax.pp x.ps.length ax.cp, .slice ax.pk x.ks.length ax.ck, .slice ax.pd x.ds.length ax.cd] := h0
    have hI4 := hI.put1 (by omega); have hr := hI.r1; obtain ⟨p1, n1, c1', p2, n2, c2, p3, n3, c3, hg⟩ := hr; obtain ⟨⟨b0, b1, b2⟩, k0, k1, k2⟩ := box3 hg
    dsimp only [putsL, slotOf]
    rw [h0]
    go_wp2
    refine ⟨rfl, 1, hI4, by omega, (by first | exact ⟨trivial, (show 1 ≤ 1 by omega)⟩ | exact trivial | exact Nat.le_refl _), ?_⟩
    first | exact ub_all ([2, 2, 2, 2, 2, 2, 2, 2, 0, 2, 1] : List Nat) 1 2 8 [0] (by decide) (by decide) s | simpa using ub_all ([2, 2, 2, 2, 2, 2, 2, 2, 0, 2, 1] : List Nat) 1 2 8 [0] (by decide) (by decide) s
  · intro vals s W hI hs ⟨⟨h0, l0⟩, ⟨h1, l1⟩, ⟨h2, l2⟩, ⟨h3, l3⟩, ⟨h4, l4⟩, ⟨h5, l5⟩, ⟨h6, l6⟩, ⟨h8, l8⟩, _⟩
    have hs : s ≤ 2 := hs
    have l0 : 0 ≤ s := l0
    have l1 : 0 ≤ s := l1
    have l2 : 0 ≤ s := l2
    have l3 : 0 ≤ s := l3
    have l4 : 0 ≤ s := l4
    have l5 : 0 ≤ s := l5
    have l6 : 0 ≤ s := l6
    have l8 : 1 ≤ s := l8
    have h6 : vals 6 = .string ⟨key.toArray⟩ := h6
    dsimp only [putsL, slotOf]
    rw [h6]
    go_wp2
    exact ⟨rfl, s, hI, Nat.le_refl _, (by first | exact ⟨rfl, (show 1 ≤ s by omega)⟩ | exact rfl), (by intros; assumption)⟩
  · intro vals s W hI hs ⟨⟨h0, l0⟩, ⟨h1, l1⟩, ⟨h2, l2⟩, ⟨h3, l3⟩, ⟨h4, l4⟩, ⟨h5, l5⟩, ⟨h6, l6⟩, ⟨h7, l7⟩, ⟨h8, l8⟩, ⟨h9, l9⟩, _⟩
    have hs : s ≤ 1 := hs
    have l0 : 0 ≤ s := l0
    have l1 : 0 ≤ s := l1
    have l2 : 0 ≤ s := l2
    have l3 : 0 ≤ s := l3
    have l4 : 0 ≤ s := l4
    have l5 : 0 ≤ s := l5
    have l6 : 0 ≤ s := l6
    have l7 : 0 ≤ s := l7
    have l8 : 1 ≤ s := l8
    have l9 : 1 ≤ s := l9
    have h7 : vals 7 = .agg #[.slice ay.pp y.ps.length ay.cp, .slice ay.pk y.ks.length ay.ck, .slice ay.pd y.ds.length ay.cd] := h7
    have hI4 := hI.put2 (by omega) (by omega); have hr := hI.r2; obtain ⟨p1, n1, c1', p2, n2, c2, p3, n3, c3, hg⟩ := hr; obtain ⟨⟨b0, b1, b2⟩, k0, k1, k2⟩ := box3 hg
    dsimp only [putsL, slotOf]
    rw [h7]
    go_wp2
    refine ⟨rfl, 2, hI4, by omega, (by first | exact ⟨trivial, (show 2 ≤ 2 by omega)⟩ | exact trivial | exact Nat.le_refl _), ?_⟩
    first | exact ub_all ([2, 2, 2, 2, 2, 2, 2, 2, 0, 2, 1] : List Nat) 2 2 10 [0, 1, 2, 3, 4, 5, 6, 7, 8, 9] (by decide) (by decide) s | simpa using ub_all ([2, 2, 2, 2, 2, 2, 2, 2, 0, 2, 1] : List Nat) 2 2 10 [0, 1, 2, 3, 4, 5, 6, 7, 8, 9] (by decide) (by decide) s
  rintro vals s W hI hq
  have q0 : vals 0 = .agg #[.slice ax.pp x.ps.length ax.cp, .slice ax.pk x.ks.length ax.ck, .slice ax.pd x.ds.length ax.cd] := (hq 0 (by decide)).1
  have q1 : vals 1 = .pointer (some ⟨w.heap.size, 1, none⟩) := (hq 1 (by decide)).1
  have q2 : vals 2 = .slice (some ⟨d, q, none⟩) n.ks.length a.ck := (hq 2 (by decide)).1
  have q3 : vals 3 = .int .i64 c := (hq 3 (by decide)).1
  have q4 : vals 4 = .int .i64 ((c : Int) - 1) := (hq 4 (by decide)).1
  have q5 : vals 5 = .pointer (some ⟨d, q + c1, none⟩) := (hq 5 (by decide)).1
  have q6 : vals 6 = .string ⟨key.toArray⟩ := (hq 6 (by decide)).1
  have q7 : vals 7 = .agg #[.slice ay.pp y.ps.length ay.cp, .slice ay.pk y.ks.length ay.ck, .slice ay.pd y.ds.length ay.cd] := (hq 7 (by decide)).1
  have q9 : vals 9 = .string ⟨key.toArray⟩ := (hq 9 (by decide)).1
  have hs : 2 ≤ s := (hq 10 (by decide)).2
  dsimp only [putsL]
  rw [q0, q1, q2, q3, q4, q5, q6, q7, q9]
  clear hq q0 q1 q2 q3 q4 q5 q6 q7 q9
  simp only [List.drop_succ_cons, List.drop_zero, List.setIfInBounds_toArray, List.set_cons_succ, List.set_cons_zero]
  go_wp2
  exact bodyPost_ret (results_cut (g1 := R1) (g2 := R2) rfl rfl rfl rfl (hI.d1 (by omega)).b (hI.d2 hs).b) rfl ⟨ax, ay, rfl, (hI.d1 (by omega)).s, (hI.d2 hs).s, HFx.out, HFy.out, hI.hn.x⟩
end Go.Proofs.Ytalnmaoidaldhaa
