/- The walk of Join (the document's own). -/
import Derived.Test.YtalnmaoidaldhaaKQ2
import Derived.Test.YtalnmaoidaldhaaKOZ
import Derived.Test.YtalnmaoidaldhaaKF4
namespace Go.Proofs.Ytalnmaoidaldhaa
open Go Go.RowKit Sm
attribute [local go_sem] Oper.semAt_some

section
variable {Wb W W' u : World} {G : Nat} {m : Nd} {v1 v2 v3 v' : Value}
theorem BldT.lay (h0 : BldT Wb G m v1 v2 v3 W) (hb : Below W.heap.size W u) {v : Value} (hv : ∀ j, v.ownBlock = some j → W.heap.size ≤ j) (hg : u.grownBy W' v.ownBlock) (o : Nat) (x : Value) :
    W'.heap[G]? = some (.cells #[v1, v2, v3] 26 (0, 0)) ∧ Turned (· = G) Wb (W'.setCell ⟨G, o, none⟩ x) ∧ NdOwn (W'.setCell ⟨G, o, none⟩ x) Wb.heap.size v1 v2 v3 m := by
  have hz := h0.z
  have hs := h0.x.size
  have hGW := lt_of_heap h0.o
  have ht : Turned (fun j => v.ownBlock = some j) u W' := Turned.grown hg (fun j hj _ => hj)
  have h1 := (hb.block _ hGW).trans h0.o
  have hx := (h0.below hb).x
  refine ⟨ht.heap h1 (fun hf => by have := hv _ hf; omega), (hx.then ht (fun k hk hf => by have := hv k hf; omega)).setCell (p := ⟨G, o, none⟩) rfl x, ?_⟩
  have h2 := (h0.m.below hb).apart ht (fun k hk hf => by
    have := hv k hf
    rcases hk with h | h | h
    · have := (h0.m.p.lt h).2; omega
    · have := (h0.m.k.lt h).2; omega
    · have := (h0.m.d.lt h).2; omega)
  exact h2.kept ((Turned.refl (· = G) W').setCell (p := ⟨G, o, none⟩) rfl x) (fun k hk e => by omega)
theorem BldT.layP (h0 : BldT Wb G m v1 v2 v3 W) (hb : Below W.heap.size W u) {v : Value} {L0 L : List Pr} (ho0 : OwnE elP u W.heap.size v L0) (hg : u.grownBy W' v.ownBlock) (ho : OwnE elP W' W.heap.size v' L) : BldT Wb G { m with ps := L } v' v2 v3 (W'.setCell ⟨G, 0, none⟩ v') := by
  obtain ⟨h1, h2, hr⟩ := h0.lay hb (fun j hj => (ho0.lt hj).1) hg 0 v'
  have hl : OwnE elP (W'.setCell ⟨G, 0, none⟩ v') Wb.heap.size v' L := (ho.kept ((Turned.refl (· = G) W').setCell (p := ⟨G, 0, none⟩) rfl v') (fun k hk e => by have := (ho.lt hk).1; have := h0.z; have := h0.x.size; omega)).less h0.x.size
  exact ⟨h0.z, heap_setCell_at h1 0 v', h2, ⟨hl, hr.k, hr.d, fun j hj e => by have h1 := (ho.lt hj).1; have h2 := (h0.m.k.lt e).2; omega, fun j hj e => by have h1 := (ho.lt hj).1; have h2 := (h0.m.d.lt e).2; omega, h0.m.kd⟩⟩
theorem BldT.layK (h0 : BldT Wb G m v1 v2 v3 W) (hb : Below W.heap.size W u) {v : Value} {L0 L : List (List UInt8)} (ho0 : OwnE elK u W.heap.size v L0) (hg : u.grownBy W' v.ownBlock) (ho : OwnE elK W' W.heap.size v' L) : BldT Wb G { m with ks := L } v1 v' v3 (W'.setCell ⟨G, 1, none⟩ v') := by
  obtain ⟨h1, h2, hr⟩ := h0.lay hb (fun j hj => (ho0.lt hj).1) hg 1 v'
  have hl : OwnE elK (W'.setCell ⟨G, 1, none⟩ v') Wb.heap.size v' L := (ho.kept ((Turned.refl (· = G) W').setCell (p := ⟨G, 1, none⟩) rfl v') (fun k hk e => by have := (ho.lt hk).1; have := h0.z; have := h0.x.size; omega)).less h0.x.size
  exact ⟨h0.z, heap_setCell_at h1 1 v', h2, ⟨hr.p, hl, hr.d, fun j hj e => by have h1 := (ho.lt e).1; have h2 := (h0.m.p.lt hj).2; omega, h0.m.pd, fun j hj e => by have h1 := (ho.lt hj).1; have h2 := (h0.m.d.lt e).2; omega⟩⟩
theorem BldT.layD (h0 : BldT Wb G m v1 v2 v3 W) (hb : Below W.heap.size W u) {v : Value} {L0 L : List Nat} (ho0 : OwnE elD u W.heap.size v L0) (hg : u.grownBy W' v.ownBlock) (ho : OwnE elD W' W.heap.size v' L) : BldT Wb G { m with ds := L } v1 v2 v' (W'.setCell ⟨G, 2, none⟩ v') := by
  obtain ⟨h1, h2, hr⟩ := h0.lay hb (fun j hj => (ho0.lt hj).1) hg 2 v'
  have hl : OwnE elD (W'.setCell ⟨G, 2, none⟩ v') Wb.heap.size v' L := (ho.kept ((Turned.refl (· = G) W').setCell (p := ⟨G, 2, none⟩) rfl v') (fun k hk e => by have := (ho.lt hk).1; have := h0.z; have := h0.x.size; omega)).less h0.x.size
  exact ⟨h0.z, heap_setCell_at h1 2 v', h2, ⟨hr.p, hr.k, hl, h0.m.pk, fun j hj e => by have h1 := (ho.lt e).1; have h2 := (h0.m.p.lt hj).2; omega, fun j hj e => by have h1 := (ho.lt e).1; have h2 := (h0.m.k.lt hj).2; omega⟩⟩
end
theorem grown_none {w w' : World} (h : w.grownBy w' (Value.slice none 0 0).ownBlock) : Below w.heap.size w w' :=
  (Turned.grown (F := fun _ => False) h (fun _ hk _ => by cases hk)).toBelow (Nat.le_refl _) (fun _ _ h => h.elim)
def Nd.joinM (A : Nd) (key : List UInt8) (B : Nd) : Nd := if A.ds.length = 0 then ⟨A.ps ++ B.ps, [], []⟩ else ⟨A.ps ++ B.ps, A.ks ++ [key] ++ B.ks, A.ds ++ B.ds⟩
def joinGo (A B : Nd) : Bool := A.right && (B.right && (decide (A.ds.length = 0) == decide (B.ds.length = 0)))
def Nd.joinR (A : Nd) (key : List UInt8) (B : Nd) : Nd × Int := if joinGo A B && (A.joinM key B).right then (A.joinM key B, 0) else (Nd.zero, 60)

set_option maxRecDepth 20000 in
set_option maxHeartbeats 4000000 in
theorem refjoin_bad {w : World} {A B : Nd} {a b : NdP} (h : NdAt w A a) (h' : NdAt w B b) (ha : Veil A.Ok) (hb : Veil B.Ok) (key : List UInt8) (_HL : Veil (A.ps.length + B.ps.length ≤ 100000 ∧ A.ks.length + B.ks.length + 1 ≤ 100000 ∧ A.ds.length + B.ds.length ≤ 100000)) (hgo : joinGo A B = false) :
    Calls Try.prog 10 #[A.v a, .string ⟨key.toArray⟩, B.v b] w (JoinPost w Nd.zero 60) := by
  have HRa : Veil (∀ W, NdAt W A a → Calls Try.prog 22 #[A.v a] W fun e w' => e = .returned (.bool A.right) ∧ Below W.heap.size W w') := ⟨fun W h => refnright_of h ha⟩
  have HRb : Veil (∀ W, NdAt W B b → Calls Try.prog 22 #[B.v b] W fun e w' => e = .returned (.bool B.right) ∧ Below W.heap.size W w') := ⟨fun W h => refnright_of h hb⟩
  obtain ⟨W1, W2, W3, hW1, hW2, hW3, HJ⟩ := join_start w h h'
  have HA3 : Veil _ := ⟨HJ.out.1⟩
  have HB3 : Veil _ := ⟨HJ.out.2.1⟩
  have HR3 : Veil _ := ⟨HJ.out.2.2.1⟩
  have HX3 : Veil _ := ⟨HJ.out.2.2.2.1⟩
  have HZ : Veil (w.heap.size < W1.heap.size ∧ W1.heap.size < W2.heap.size ∧ W2.heap.size < W3.heap.size) := ⟨by have := HJ.out.2.2.2.2; have := lt_of_heap HR3.out; omega⟩
  obtain ⟨a0, a1, a2⟩ := HA3.out.cells
  obtain ⟨b0, b1, b2⟩ := HB3.out.cells
  clear h h' HJ ha hb
  have hcase : A.right = false ∨ (A.right = true ∧ B.right = false) ∨ (A.right = true ∧ B.right = true ∧ 0 < A.ds.length ∧ ¬ 0 < B.ds.length) ∨ (A.right = true ∧ B.right = true ∧ ¬ 0 < A.ds.length ∧ 0 < B.ds.length) := by
    unfold joinGo at hgo
    revert hgo
    cases A.right
    · exact fun _ => .inl rfl
    · cases B.right
      · exact fun _ => .inr (.inl ⟨rfl, rfl⟩)
      · by_cases h1 : A.ds.length = 0
        · by_cases h2 : B.ds.length = 0
          · exact fun hgo => absurd hgo (by rw [decide_eq_true h1, decide_eq_true h2]; decide)
          · exact fun _ => .inr (.inr (.inr ⟨rfl, rfl, by omega, by omega⟩))
        · by_cases h2 : B.ds.length = 0
          · exact fun _ => .inr (.inr (.inl ⟨rfl, rfl, by omega, by omega⟩))
          · exact fun hgo => absurd hgo (by rw [decide_eq_false h1, decide_eq_false h2]; decide)
  clear hgo
  unfold Nd.v at *
  go_enter Try.func10, Try.ntmps10
  rcases hcase with hc | ⟨hc, hc2⟩ | ⟨hc, hc2, hd, hd2⟩ | ⟨hc, hc2, hd, hd2⟩
  · rw [hc] at HRa
    generalize B.right = rb at *
    clear hc
    cases rb
    all_goals
      go_wp2_with (first
      | (go_at_call 22; (with_reducible refine (HRb.out w4 HB4.out.s).mono ?_); rintro e w5 ⟨rfl, hb5⟩; have HA5 : Veil _ := ⟨HA4.out.below hb5⟩; have HB5 : Veil _ := ⟨HB4.out.below hb5⟩; have HR5 : Veil _ := ⟨(hb5.block _ (lt_of_heap HR4.out)).trans HR4.out⟩; have HX5 : Veil _ := ⟨bn_then HX4.out hb5⟩; have HS5 : Veil _ := ⟨hb5.size⟩; obtain ⟨W6, hW6⟩ : ∃ W6, w5.alloc (.cells #[.slice none 0 0, .slice none 0 0, .slice none 0 0] 26) = W6 := ⟨_, rfl⟩; have hb6 : Below w5.heap.size w5 W6 := (by rw [← hW6]; exact below_al (Below.refl _ _) _); have HG5 : Veil (W6.heap[w5.heap.size]? = some (.cells #[.slice none 0 0, .slice none 0 0, .slice none 0 0] 26 (0, 0))) := ⟨by rw [← hW6]; exact heap_alloc_new _ _⟩; have HA6 : Veil _ := ⟨HA5.out.below hb6⟩; have HB6 : Veil _ := ⟨HB5.out.below hb6⟩; have HR6 : Veil _ := ⟨(hb6.block _ (lt_of_heap HR5.out)).trans HR5.out⟩; have HX6 : Veil _ := ⟨bn_then HX5.out hb6⟩; clear hb5 hb6 a0 a1 a2 b0 b1 b2; obtain ⟨a0, a1, a2⟩ := HA6.out.cells; obtain ⟨b0, b1, b2⟩ := HB6.out.cells; obtain ⟨⟨z0, z1, z2⟩, -⟩ := box3 HG5.out; obtain ⟨⟨x0, x1, x2⟩, k0, k1, k2⟩ := box3 HR6.out)
      | (go_at_call 22; (with_reducible refine (HRa.out W3 HA3.out.s).mono ?_); rintro e w4 ⟨rfl, hb4⟩; have HA4 : Veil _ := ⟨HA3.out.below hb4⟩; have HB4 : Veil _ := ⟨HB3.out.below hb4⟩; have HR4 : Veil _ := ⟨(hb4.block _ (lt_of_heap HR3.out)).trans HR3.out⟩; have HX4 : Veil _ := ⟨bn_then HX3.out hb4⟩; have HS4 : Veil _ := ⟨hb4.size⟩; clear hb4 a0 a1 a2 b0 b1 b2; obtain ⟨a0, a1, a2⟩ := HA4.out.cells; obtain ⟨b0, b1, b2⟩ := HB4.out.cells))
      have hU := (((Turned.refl (· = W2.heap.size) W6).setCell (p := ⟨W2.heap.size, 0, none⟩) rfl (.slice none 0 0)).setCell (p := ⟨W2.heap.size, 1, none⟩) rfl (.slice none 0 0)).setCell (p := ⟨W2.heap.size, 2, none⟩) rfl (.slice none 0 0)
      have hz := HZ.out
      exact bodyPost_ret (results_node2 (g := W2.heap.size) (y := .int .i64 60) rfl rfl rfl (heap_setCell_at (heap_setCell_at (heap_setCell_at HR6.out 0 _) 1 _) 2 _)) rfl ⟨⟨none, 0, none, 0, none, 0⟩, rfl, ⟨Els.nil _ _, Els.nil _ _, Els.nil _ _⟩, HX6.out.trans (hU.toBelow HX6.out.size (fun k _ e => by omega))⟩
  · rw [hc] at HRa
    rw [hc2] at HRb
    clear hc hc2
    go_wp2_with (first
      | (go_at_call 22; (with_reducible refine (HRb.out w4 HB4.out.s).mono ?_); rintro e w5 ⟨rfl, hb5⟩; have HA5 : Veil _ := ⟨HA4.out.below hb5⟩; have HB5 : Veil _ := ⟨HB4.out.below hb5⟩; have HR5 : Veil _ := ⟨(hb5.block _ (lt_of_heap HR4.out)).trans HR4.out⟩; have HX5 : Veil _ := ⟨bn_then HX4.out hb5⟩; have HS5 : Veil _ := ⟨hb5.size⟩; obtain ⟨W6, hW6⟩ : ∃ W6, w5.alloc (.cells #[.slice none 0 0, .slice none 0 0, .slice none 0 0] 26) = W6 := ⟨_, rfl⟩; have hb6 : Below w5.heap.size w5 W6 := (by rw [← hW6]; exact below_al (Below.refl _ _) _); have HG5 : Veil (W6.heap[w5.heap.size]? = some (.cells #[.slice none 0 0, .slice none 0 0, .slice none 0 0] 26 (0, 0))) := ⟨by rw [← hW6]; exact heap_alloc_new _ _⟩; have HA6 : Veil _ := ⟨HA5.out.below hb6⟩; have HB6 : Veil _ := ⟨HB5.out.below hb6⟩; have HR6 : Veil _ := ⟨(hb6.block _ (lt_of_heap HR5.out)).trans HR5.out⟩; have HX6 : Veil _ := ⟨bn_then HX5.out hb6⟩; clear hb5 hb6 a0 a1 a2 b0 b1 b2; obtain ⟨a0, a1, a2⟩ := HA6.out.cells; obtain ⟨b0, b1, b2⟩ := HB6.out.cells; obtain ⟨⟨z0, z1, z2⟩, -⟩ := box3 HG5.out; obtain ⟨⟨x0, x1, x2⟩, k0, k1, k2⟩ := box3 HR6.out)
      | (go_at_call 22; (with_reducible refine (HRa.out W3 HA3.out.s).mono ?_); rintro e w4 ⟨rfl, hb4⟩; have HA4 : Veil _ := ⟨HA3.out.below hb4⟩; have HB4 : Veil _ := ⟨HB3.out.below hb4⟩; have HR4 : Veil _ := ⟨(hb4.block _ (lt_of_heap HR3.out)).trans HR3.out⟩; have HX4 : Veil _ := ⟨bn_then HX3.out hb4⟩; have HS4 : Veil _ := ⟨hb4.size⟩; clear hb4 a0 a1 a2 b0 b1 b2; obtain ⟨a0, a1, a2⟩ := HA4.out.cells; obtain ⟨b0, b1, b2⟩ := HB4.out.cells))
    have hU := (((Turned.refl (· = W2.heap.size) W6).setCell (p := ⟨W2.heap.size, 0, none⟩) rfl (.slice none 0 0)).setCell (p := ⟨W2.heap.size, 1, none⟩) rfl (.slice none 0 0)).setCell (p := ⟨W2.heap.size, 2, none⟩) rfl (.slice none 0 0)
    have hz := HZ.out
    exact bodyPost_ret (results_node2 (g := W2.heap.size) (y := .int .i64 60) rfl rfl rfl (heap_setCell_at (heap_setCell_at (heap_setCell_at HR6.out 0 _) 1 _) 2 _)) rfl ⟨⟨none, 0, none, 0, none, 0⟩, rfl, ⟨Els.nil _ _, Els.nil _ _, Els.nil _ _⟩, HX6.out.trans (hU.toBelow HX6.out.size (fun k _ e => by omega))⟩
  · rw [hc] at HRa
    rw [hc2] at HRb
    clear hc hc2
    go_wp2_with (first
      | (go_at_call 22; (with_reducible refine (HRb.out w4 HB4.out.s).mono ?_); rintro e w5 ⟨rfl, hb5⟩; have HA5 : Veil _ := ⟨HA4.out.below hb5⟩; have HB5 : Veil _ := ⟨HB4.out.below hb5⟩; have HR5 : Veil _ := ⟨(hb5.block _ (lt_of_heap HR4.out)).trans HR4.out⟩; have HX5 : Veil _ := ⟨bn_then HX4.out hb5⟩; have HS5 : Veil _ := ⟨hb5.size⟩; obtain ⟨W6, hW6⟩ : ∃ W6, w5.alloc (.cells #[.slice none 0 0, .slice none 0 0, .slice none 0 0] 26) = W6 := ⟨_, rfl⟩; have hb6 : Below w5.heap.size w5 W6 := (by rw [← hW6]; exact below_al (Below.refl _ _) _); have HG5 : Veil (W6.heap[w5.heap.size]? = some (.cells #[.slice none 0 0, .slice none 0 0, .slice none 0 0] 26 (0, 0))) := ⟨by rw [← hW6]; exact heap_alloc_new _ _⟩; have HA6 : Veil _ := ⟨HA5.out.below hb6⟩; have HB6 : Veil _ := ⟨HB5.out.below hb6⟩; have HR6 : Veil _ := ⟨(hb6.block _ (lt_of_heap HR5.out)).trans HR5.out⟩; have HX6 : Veil _ := ⟨bn_then HX5.out hb6⟩; clear hb5 hb6 a0 a1 a2 b0 b1 b2; obtain ⟨a0, a1, a2⟩ := HA6.out.cells; obtain ⟨b0, b1, b2⟩ := HB6.out.cells; obtain ⟨⟨z0, z1, z2⟩, -⟩ := box3 HG5.out; obtain ⟨⟨x0, x1, x2⟩, k0, k1, k2⟩ := box3 HR6.out)
      | (go_at_call 22; (with_reducible refine (HRa.out W3 HA3.out.s).mono ?_); rintro e w4 ⟨rfl, hb4⟩; have HA4 : Veil _ := ⟨HA3.out.below hb4⟩; have HB4 : Veil _ := ⟨HB3.out.below hb4⟩; have HR4 : Veil _ := ⟨(hb4.block _ (lt_of_heap HR3.out)).trans HR3.out⟩; have HX4 : Veil _ := ⟨bn_then HX3.out hb4⟩; have HS4 : Veil _ := ⟨hb4.size⟩; clear hb4 a0 a1 a2 b0 b1 b2; obtain ⟨a0, a1, a2⟩ := HA4.out.cells; obtain ⟨b0, b1, b2⟩ := HB4.out.cells))
    have hU := (((Turned.refl (· = W2.heap.size) W6).setCell (p := ⟨W2.heap.size, 0, none⟩) rfl (.slice none 0 0)).setCell (p := ⟨W2.heap.size, 1, none⟩) rfl (.slice none 0 0)).setCell (p := ⟨W2.heap.size, 2, none⟩) rfl (.slice none 0 0)
    have hz := HZ.out
    exact bodyPost_ret (results_node2 (g := W2.heap.size) (y := .int .i64 60) rfl rfl rfl (heap_setCell_at (heap_setCell_at (heap_setCell_at HR6.out 0 _) 1 _) 2 _)) rfl ⟨⟨none, 0, none, 0, none, 0⟩, rfl, ⟨Els.nil _ _, Els.nil _ _, Els.nil _ _⟩, HX6.out.trans (hU.toBelow HX6.out.size (fun k _ e => by omega))⟩
  · rw [hc] at HRa
    rw [hc2] at HRb
    clear hc hc2
    go_wp2_with (first
      | (go_at_call 22; (with_reducible refine (HRb.out w4 HB4.out.s).mono ?_); rintro e w5 ⟨rfl, hb5⟩; have HA5 : Veil _ := ⟨HA4.out.below hb5⟩; have HB5 : Veil _ := ⟨HB4.out.below hb5⟩; have HR5 : Veil _ := ⟨(hb5.block _ (lt_of_heap HR4.out)).trans HR4.out⟩; have HX5 : Veil _ := ⟨bn_then HX4.out hb5⟩; have HS5 : Veil _ := ⟨hb5.size⟩; obtain ⟨W6, hW6⟩ : ∃ W6, w5.alloc (.cells #[.slice none 0 0, .slice none 0 0, .slice none 0 0] 26) = W6 := ⟨_, rfl⟩; have hb6 : Below w5.heap.size w5 W6 := (by rw [← hW6]; exact below_al (Below.refl _ _) _); have HG5 : Veil (W6.heap[w5.heap.size]? = some (.cells #[.slice none 0 0, .slice none 0 0, .slice none 0 0] 26 (0, 0))) := ⟨by rw [← hW6]; exact heap_alloc_new _ _⟩; have HA6 : Veil _ := ⟨HA5.out.below hb6⟩; have HB6 : Veil _ := ⟨HB5.out.below hb6⟩; have HR6 : Veil _ := ⟨(hb6.block _ (lt_of_heap HR5.out)).trans HR5.out⟩; have HX6 : Veil _ := ⟨bn_then HX5.out hb6⟩; clear hb5 hb6 a0 a1 a2 b0 b1 b2; obtain ⟨a0, a1, a2⟩ := HA6.out.cells; obtain ⟨b0, b1, b2⟩ := HB6.out.cells; obtain ⟨⟨z0, z1, z2⟩, -⟩ := box3 HG5.out; obtain ⟨⟨x0, x1, x2⟩, k0, k1, k2⟩ := box3 HR6.out)
      | (go_at_call 22; (with_reducible refine (HRa.out W3 HA3.out.s).mono ?_); rintro e w4 ⟨rfl, hb4⟩; have HA4 : Veil _ := ⟨HA3.out.below hb4⟩; have HB4 : Veil _ := ⟨HB3.out.below hb4⟩; have HR4 : Veil _ := ⟨(hb4.block _ (lt_of_heap HR3.out)).trans HR3.out⟩; have HX4 : Veil _ := ⟨bn_then HX3.out hb4⟩; have HS4 : Veil _ := ⟨hb4.size⟩; clear hb4 a0 a1 a2 b0 b1 b2; obtain ⟨a0, a1, a2⟩ := HA4.out.cells; obtain ⟨b0, b1, b2⟩ := HB4.out.cells))
    have hU := (((Turned.refl (· = W2.heap.size) W6).setCell (p := ⟨W2.heap.size, 0, none⟩) rfl (.slice none 0 0)).setCell (p := ⟨W2.heap.size, 1, none⟩) rfl (.slice none 0 0)).setCell (p := ⟨W2.heap.size, 2, none⟩) rfl (.slice none 0 0)
    have hz := HZ.out
    exact bodyPost_ret (results_node2 (g := W2.heap.size) (y := .int .i64 60) rfl rfl rfl (heap_setCell_at (heap_setCell_at (heap_setCell_at HR6.out 0 _) 1 _) 2 _)) rfl ⟨⟨none, 0, none, 0, none, 0⟩, rfl, ⟨Els.nil _ _, Els.nil _ _, Els.nil _ _⟩, HX6.out.trans (hU.toBelow HX6.out.size (fun k _ e => by omega))⟩
set_option maxRecDepth 20000 in
set_option maxHeartbeats 4000000 in
theorem refjoin_leafT {w : World} {A B : Nd} {a b : NdP} (h : NdAt w A a) (h' : NdAt w B b) (ha : Veil A.Ok) (hb : Veil B.Ok) (key : List UInt8) (HL : Veil (A.ps.length + B.ps.length ≤ 100000 ∧ A.ks.length + B.ks.length + 1 ≤ 100000 ∧ A.ds.length + B.ds.length ≤ 100000)) (hra : A.right = true) (hrb : B.right = true) (hda : ¬ 0 < A.ds.length) (hdb : ¬ 0 < B.ds.length) (hr : (⟨A.ps ++ B.ps, [], []⟩ : Nd).right = true) (hxo : Veil (⟨A.ps ++ B.ps, [], []⟩ : Nd).Ok) :
    Calls Try.prog 10 #[A.v a, .string ⟨key.toArray⟩, B.v b] w (JoinPost w (⟨A.ps ++ B.ps, [], []⟩ : Nd) 0) := by
  have HRx : Veil (∀ W c, NdAt W ⟨A.ps ++ B.ps, [], []⟩ c → Calls Try.prog 22 #[(⟨A.ps ++ B.ps, [], []⟩ : Nd).v c] W fun e w' => e = .returned (.bool true) ∧ Below W.heap.size W w') := ⟨fun W c h => by have := refnright_of h hxo; rw [hr] at this; exact this⟩
  clear hr hxo
  obtain ⟨x, hx⟩ : ∃ x : Nd, (⟨A.ps ++ B.ps, [], []⟩ : Nd) = x := ⟨_, rfl⟩
  rw [hx] at HRx ⊢
  have HXx : Veil _ := ⟨hx⟩
  clear hx
  have HRa : Veil (∀ W, NdAt W A a → Calls Try.prog 22 #[A.v a] W fun e w' => e = .returned (.bool A.right) ∧ Below W.heap.size W w') := ⟨fun W h => refnright_of h ha⟩
  have HRb : Veil (∀ W, NdAt W B b → Calls Try.prog 22 #[B.v b] W fun e w' => e = .returned (.bool B.right) ∧ Below W.heap.size W w') := ⟨fun W h => refnright_of h hb⟩
  obtain ⟨W1, W2, W3, hW1, hW2, hW3, HJ⟩ := join_start w h h'
  have HA3 : Veil _ := ⟨HJ.out.1⟩
  have HB3 : Veil _ := ⟨HJ.out.2.1⟩
  have HR3 : Veil _ := ⟨HJ.out.2.2.1⟩
  have HX3 : Veil _ := ⟨HJ.out.2.2.2.1⟩
  have HZ : Veil (w.heap.size < W1.heap.size ∧ W1.heap.size < W2.heap.size ∧ W2.heap.size < W3.heap.size) := ⟨by have := HJ.out.2.2.2.2; have := lt_of_heap HR3.out; omega⟩
  obtain ⟨a0, a1, a2⟩ := HA3.out.cells
  obtain ⟨b0, b1, b2⟩ := HB3.out.cells
  clear h h' HJ ha hb
  rw [hra] at HRa
  rw [hrb] at HRb
  clear hra hrb
  unfold Nd.v at *
  go_enter Try.func10, Try.ntmps10
  go_wp2_with (first
    | (go_at_call 22; (with_reducible refine (HRb.out w4 HB4.out.s).mono ?_); rintro e w5 ⟨rfl, hb5⟩; have HA5 : Veil _ := ⟨HA4.out.below hb5⟩; have HB5 : Veil _ := ⟨HB4.out.below hb5⟩; have HR5 : Veil _ := ⟨(hb5.block _ (lt_of_heap HR4.out)).trans HR4.out⟩; have HX5 : Veil _ := ⟨bn_then HX4.out hb5⟩; have HS5 : Veil _ := ⟨hb5.size⟩; obtain ⟨W6, hW6⟩ : ∃ W6, w5.alloc (.cells #[.slice none 0 0, .slice none 0 0, .slice none 0 0] 26) = W6 := ⟨_, rfl⟩; have hb6 : Below w5.heap.size w5 W6 := (by rw [← hW6]; exact below_al (Below.refl _ _) _); have HG5 : Veil (W6.heap[w5.heap.size]? = some (.cells #[.slice none 0 0, .slice none 0 0, .slice none 0 0] 26 (0, 0))) := ⟨by rw [← hW6]; exact heap_alloc_new _ _⟩; have HA6 : Veil _ := ⟨HA5.out.below hb6⟩; have HB6 : Veil _ := ⟨HB5.out.below hb6⟩; have HR6 : Veil _ := ⟨(hb6.block _ (lt_of_heap HR5.out)).trans HR5.out⟩; have HX6 : Veil _ := ⟨bn_then HX5.out hb6⟩; clear hb5 hb6 a0 a1 a2 b0 b1 b2; obtain ⟨a0, a1, a2⟩ := HA6.out.cells; obtain ⟨b0, b1, b2⟩ := HB6.out.cells; obtain ⟨⟨z0, z1, z2⟩, -⟩ := box3 HG5.out; obtain ⟨⟨x0, x1, x2⟩, k0, k1, k2⟩ := box3 HR6.out)
    | (go_at_call 22; (with_reducible refine (HRa.out W3 HA3.out.s).mono ?_); rintro e w4 ⟨rfl, hb4⟩; have HA4 : Veil _ := ⟨HA3.out.below hb4⟩; have HB4 : Veil _ := ⟨HB3.out.below hb4⟩; have HR4 : Veil _ := ⟨(hb4.block _ (lt_of_heap HR3.out)).trans HR3.out⟩; have HX4 : Veil _ := ⟨bn_then HX3.out hb4⟩; have HS4 : Veil _ := ⟨hb4.size⟩; clear hb4 a0 a1 a2 b0 b1 b2; obtain ⟨a0, a1, a2⟩ := HA4.out.cells; obtain ⟨b0, b1, b2⟩ := HB4.out.cells))
  obtain ⟨GA, hGA⟩ : ∃ g, w.heap.size = g := ⟨_, rfl⟩
  obtain ⟨GB, hGB⟩ : ∃ g, W1.heap.size = g := ⟨_, rfl⟩
  obtain ⟨R, hR⟩ : ∃ g, W2.heap.size = g := ⟨_, rfl⟩
  obtain ⟨G, hG⟩ : ∃ g, w5.heap.size = g := ⟨_, rfl⟩
  have HO : Veil (GA < GB ∧ GB < R ∧ R < G) := ⟨by have := HZ.out; have h4 : W3.heap.size ≤ w4.heap.size := HS4.out; have h5 : w4.heap.size ≤ w5.heap.size := HS5.out; omega⟩
  have HW : Veil (w.heap.size = GA) := ⟨hGA⟩
  rw [hGA] at HA6
  rw [hGB] at HB6
  rw [hR] at HR6
  rw [hG] at HG5
  rw [hGA, hGB, hR, hG]
  have HG6 : Veil (Box3 W6 G) := ⟨⟨_, _, _, _, _, _, _, _, _, HG5.out⟩⟩
  have HJ6 : Veil (BldT W6 G ⟨[], [], []⟩ (.slice none 0 0) (.slice none 0 0) (.slice none 0 0) W6) := ⟨BldT.new HG5.out⟩
  clear hGA hGB hR hG hW1 hW2 hW3 hW6 HA3 HB3 HR3 HX3 HA4 HB4 HR4 HX4 HA5 HB5 HR5 HX5 HRa HRb a0 a1 a2 b0 b1 b2 z0 z1 z2 x0 x1 x2 k0 k1 k2 HG5 HS4 HS5 HZ
  have HA7 : Veil _ := ⟨HA6.out.turned HG6.out HJ6.out.x (by have := HO.out; omega)⟩
  have HB7 : Veil _ := ⟨HB6.out.turned HG6.out HJ6.out.x (by have := HO.out; omega)⟩
  refine region_new [.is (.pointer (some ⟨G, 0, none⟩)), .is (.slice none 0 0), .is (.pointer (some ⟨GA, 0, none⟩)), .is (.slice a.pp A.ps.length a.cp), .gen (fun v W => ∃ p c, v = .slice p A.ps.length c ∧ OwnE elP W W6.heap.size (.slice p A.ps.length c) A.ps) (fun v W W' hb ⟨p, c, h1, h2⟩ => ⟨p, c, h1, h2.below hb⟩), .is (.pointer (some ⟨GB, 0, none⟩)), .is (.slice b.pp B.ps.length b.cp)]
    [[], [(0, 34)], [], [(2, 36)], [(1, 35), (3, 37)], [], [(5, 39)]]
    [[], [0], [], [2], [1, 3], [], [5]]
    [(0, 34), (1, 35), (2, 36), (3, 37), (4, 38), (5, 39), (6, 40)] rfl (by kernel_rfl) ⟨?_, ?_, ?_, ?_, ?_, ?_, ?_, trivial⟩ ?_
  · intro vals W hB _
    dsimp only [putsL, slotOf]
    go_wp2
    exact ⟨rfl, Below.refl _ _, rfl⟩
  · intro vals W hB ⟨h0, _⟩
    have h0 : vals 0 = _ := h0
    have c1 := (HJ6.out.below hB).cells.1.1
    dsimp only [putsL, slotOf]
    rw [h0]
    go_wp2
    exact ⟨rfl, Below.refl _ _, rfl⟩
  · intro vals W hB _
    dsimp only [putsL, slotOf]
    go_wp2
    exact ⟨rfl, Below.refl _ _, rfl⟩
  · intro vals W hB ⟨h2, _⟩
    have h2 : vals 2 = _ := h2
    obtain ⟨a0, a1, a2⟩ := (HA7.out.below hB).cells
    dsimp only [putsL, slotOf]
    rw [h2]
    go_wp2
    exact ⟨rfl, Below.refl _ _, rfl⟩
  · intro vals W hB ⟨h1, h3, _⟩
    have h1 : vals 1 = _ := h1
    have h3 : vals 3 = _ := h3
    dsimp only [putsL, slotOf]
    rw [h1, h3]
    go_wp2_with ((at_builtin; refine wpList_append_els elP rfl (.tmp 35) (.tmp 37) rfl W6.heap.size (.slice none 0 0) [] A.ps rfl (OwnE.nil _ _ _) a.pp a.cp rfl (HA7.out.below hB).s.p (by have := HL.out; simp only [List.length_nil]; omega) hB.size ?_; intro v' w4 hown hgrow hv; have hb4 := grown_none hgrow; rw [List.nil_append] at hown; obtain ⟨p4, c4, rfl, -, -, -⟩ := hown.fit))
    exact ⟨rfl, hb4, ⟨p4, c4, rfl, hown⟩⟩
  · intro vals W hB _
    dsimp only [putsL, slotOf]
    go_wp2
    exact ⟨rfl, Below.refl _ _, rfl⟩
  · intro vals W hB ⟨h5, _⟩
    have h5 : vals 5 = _ := h5
    obtain ⟨b0, b1, b2⟩ := (HB7.out.below hB).cells
    dsimp only [putsL, slotOf]
    rw [h5]
    go_wp2
    exact ⟨rfl, Below.refl _ _, rfl⟩
  rintro vals u7 hB ⟨q0, q1, q2, q3, ⟨pu4, cu4, q4, hz4⟩, q5, q6, -⟩
  have h0 : vals 0 = _ := q0
  have h1 : vals 1 = _ := q1
  have h2 : vals 2 = _ := q2
  have h3 : vals 3 = _ := q3
  have h4 : vals 4 = _ := q4
  have h5 : vals 5 = _ := q5
  have h6 : vals 6 = _ := q6
  dsimp only [putsL]
  rw [h0, h1, h2, h3, h4, h5, h6]
  clear h0 q0 h1 q1 h2 q2 h3 q3 h4 q4 h5 q5 h6 q6
  simp only [List.length_cons, List.length_nil, Nat.reduceAdd, List.drop_succ_cons, List.drop_zero, List.setIfInBounds_toArray, List.set_cons_succ, List.set_cons_zero]
  go_wp2_with (first
    | (go_at_call 22; (with_reducible refine (HRx.out _ _ HN7.out.s).mono ?_); rintro e w8 ⟨rfl, hb8⟩; have HN8 : Veil _ := ⟨HN7.out.below hb8⟩; have HR8 : Veil _ := ⟨(hb8.block _ (lt_of_heap HR7.out)).trans HR7.out⟩; have HX8 : Veil _ := ⟨bn_then HX7.out hb8⟩; clear hb8 x0 x1 x2; obtain ⟨⟨j0, j1, j2⟩, k0, k1, k2⟩ := box3 HR8.out; obtain ⟨x0, x1, x2⟩ := HN8.out.cells)
    | (at_builtin; refine wpList_append_els elP rfl (.tmp 38) (.tmp 40) rfl W6.heap.size (.slice pu4 A.ps.length cu4) (A.ps) B.ps rfl hz4 b.pp b.cp rfl (HB7.out.below hB).s.p (by have := HL.out; (try simp only [List.length_append, List.length_cons, List.length_nil]); omega) hB.size ?_; intro v' w7 hown7 hgrow7 hv7; have HOG7 : Veil _ := ⟨(HJ6.out.lay hB (fun j hj => (hz4.lt hj).1) hgrow7 0 undef).1⟩; obtain ⟨p7, c7, e7, -, -⟩ := hown7.fit; generalize hl7 : List.length _ = l7 at e7; subst e7; obtain ⟨⟨y0, y1, y2⟩, g0, g1, g2⟩ := box3 HOG7.out; obtain ⟨W7, hW7⟩ : ∃ W7, w7.setCell ⟨G, 0, none⟩ (.slice p7 l7 c7) = W7 := ⟨_, rfl⟩; have HJ7 : Veil (BldT W6 G ⟨A.ps ++ B.ps, [], []⟩ (.slice p7 l7 c7) (.slice none 0 0) (.slice none 0 0) W7) := ⟨by rw [← hW7]; exact HJ6.out.layP hB hz4 hgrow7 hown7⟩; clear y1 g1 y2 g2 hv7 hown7 hgrow7 hl7; have HA7c : Veil _ := ⟨HA6.out.turned HG6.out HJ7.out.x (by have := HO.out; omega)⟩; obtain ⟨a0, a1, a2⟩ := HA7c.out.cells; obtain ⟨ax, -, -, -, hn, -⟩ := HJ7.out.nbox; rw [HXx.out] at hn; have HN7 : Veil (NBox W7 G x ax) := ⟨hn⟩; have HR7 : Veil _ := ⟨HJ7.out.x.heap HR6.out (show R ≠ G by have := HO.out; omega)⟩; have HX7 : Veil _ := ⟨HX6.out.trans (HJ7.out.x.toBelow HX6.out.size (fun k _ e => by have := HO.out; have := HW.out; omega))⟩; clear hn; obtain ⟨x0, x1, x2⟩ := HN7.out.cells))
  clear hW7 HOG7 y0 g0
  clear hz4 hB
  have hz := HO.out
  have hz2 := HW.out
  have hU := nbox_set HN8.out.s ⟨_, _, _, _, _, _, _, _, _, HR8.out⟩
  exact bodyPost_ret (results_node2 (g := R) (y := .int .i64 0) rfl rfl rfl hU.1.b) rfl ⟨ax, rfl, hU.1.s, HX8.out.trans (hU.2.toBelow HX8.out.size (fun k _ e => by omega))⟩

set_option maxRecDepth 20000 in
set_option maxHeartbeats 4000000 in
theorem refjoin_leafF {w : World} {A B : Nd} {a b : NdP} (h : NdAt w A a) (h' : NdAt w B b) (ha : Veil A.Ok) (hb : Veil B.Ok) (key : List UInt8) (HL : Veil (A.ps.length + B.ps.length ≤ 100000 ∧ A.ks.length + B.ks.length + 1 ≤ 100000 ∧ A.ds.length + B.ds.length ≤ 100000)) (hra : A.right = true) (hrb : B.right = true) (hda : ¬ 0 < A.ds.length) (hdb : ¬ 0 < B.ds.length) (hr : (⟨A.ps ++ B.ps, [], []⟩ : Nd).right = false) (hxo : Veil (⟨A.ps ++ B.ps, [], []⟩ : Nd).Ok) :
    Calls Try.prog 10 #[A.v a, .string ⟨key.toArray⟩, B.v b] w (JoinPost w (Nd.zero) 60) := by
  have HRx : Veil (∀ W c, NdAt W ⟨A.ps ++ B.ps, [], []⟩ c → Calls Try.prog 22 #[(⟨A.ps ++ B.ps, [], []⟩ : Nd).v c] W fun e w' => e = .returned (.bool false) ∧ Below W.heap.size W w') := ⟨fun W c h => by have := refnright_of h hxo; rw [hr] at this; exact this⟩
  clear hr hxo
  obtain ⟨x, hx⟩ : ∃ x : Nd, (⟨A.ps ++ B.ps, [], []⟩ : Nd) = x := ⟨_, rfl⟩
  rw [hx] at HRx
  have HXx : Veil _ := ⟨hx⟩
  clear hx
  have HRa : Veil (∀ W, NdAt W A a → Calls Try.prog 22 #[A.v a] W fun e w' => e = .returned (.bool A.right) ∧ Below W.heap.size W w') := ⟨fun W h => refnright_of h ha⟩
  have HRb : Veil (∀ W, NdAt W B b → Calls Try.prog 22 #[B.v b] W fun e w' => e = .returned (.bool B.right) ∧ Below W.heap.size W w') := ⟨fun W h => refnright_of h hb⟩
  obtain ⟨W1, W2, W3, hW1, hW2, hW3, HJ⟩ := join_start w h h'
  have HA3 : Veil _ := ⟨HJ.out.1⟩
  have HB3 : Veil _ := ⟨HJ.out.2.1⟩
  have HR3 : Veil _ := ⟨HJ.out.2.2.1⟩
  have HX3 : Veil _ := ⟨HJ.out.2.2.2.1⟩
  have HZ : Veil (w.heap.size < W1.heap.size ∧ W1.heap.size < W2.heap.size ∧ W2.heap.size < W3.heap.size) := ⟨by have := HJ.out.2.2.2.2; have := lt_of_heap HR3.out; omega⟩
  obtain ⟨a0, a1, a2⟩ := HA3.out.cells
  obtain ⟨b0, b1, b2⟩ := HB3.out.cells
  clear h h' HJ ha hb
  rw [hra] at HRa
  rw [hrb] at HRb
  clear hra hrb
  unfold Nd.v at *
  go_enter Try.func10, Try.ntmps10
  go_wp2_with (first
    | (go_at_call 22; (with_reducible refine (HRb.out w4 HB4.out.s).mono ?_); rintro e w5 ⟨rfl, hb5⟩; have HA5 : Veil _ := ⟨HA4.out.below hb5⟩; have HB5 : Veil _ := ⟨HB4.out.below hb5⟩; have HR5 : Veil _ := ⟨(hb5.block _ (lt_of_heap HR4.out)).trans HR4.out⟩; have HX5 : Veil _ := ⟨bn_then HX4.out hb5⟩; have HS5 : Veil _ := ⟨hb5.size⟩; obtain ⟨W6, hW6⟩ : ∃ W6, w5.alloc (.cells #[.slice none 0 0, .slice none 0 0, .slice none 0 0] 26) = W6 := ⟨_, rfl⟩; have hb6 : Below w5.heap.size w5 W6 := (by rw [← hW6]; exact below_al (Below.refl _ _) _); have HG5 : Veil (W6.heap[w5.heap.size]? = some (.cells #[.slice none 0 0, .slice none 0 0, .slice none 0 0] 26 (0, 0))) := ⟨by rw [← hW6]; exact heap_alloc_new _ _⟩; have HA6 : Veil _ := ⟨HA5.out.below hb6⟩; have HB6 : Veil _ := ⟨HB5.out.below hb6⟩; have HR6 : Veil _ := ⟨(hb6.block _ (lt_of_heap HR5.out)).trans HR5.out⟩; have HX6 : Veil _ := ⟨bn_then HX5.out hb6⟩; clear hb5 hb6 a0 a1 a2 b0 b1 b2; obtain ⟨a0, a1, a2⟩ := HA6.out.cells; obtain ⟨b0, b1, b2⟩ := HB6.out.cells; obtain ⟨⟨z0, z1, z2⟩, -⟩ := box3 HG5.out; obtain ⟨⟨x0, x1, x2⟩, k0, k1, k2⟩ := box3 HR6.out)
    | (go_at_call 22; (with_reducible refine (HRa.out W3 HA3.out.s).mono ?_); rintro e w4 ⟨rfl, hb4⟩; have HA4 : Veil _ := ⟨HA3.out.below hb4⟩; have HB4 : Veil _ := ⟨HB3.out.below hb4⟩; have HR4 : Veil _ := ⟨(hb4.block _ (lt_of_heap HR3.out)).trans HR3.out⟩; have HX4 : Veil _ := ⟨bn_then HX3.out hb4⟩; have HS4 : Veil _ := ⟨hb4.size⟩; clear hb4 a0 a1 a2 b0 b1 b2; obtain ⟨a0, a1, a2⟩ := HA4.out.cells; obtain ⟨b0, b1, b2⟩ := HB4.out.cells))
  obtain ⟨GA, hGA⟩ : ∃ g, w.heap.size = g := ⟨_, rfl⟩
  obtain ⟨GB, hGB⟩ : ∃ g, W1.heap.size = g := ⟨_, rfl⟩
  obtain ⟨R, hR⟩ : ∃ g, W2.heap.size = g := ⟨_, rfl⟩
  obtain ⟨G, hG⟩ : ∃ g, w5.heap.size = g := ⟨_, rfl⟩
  have HO : Veil (GA < GB ∧ GB < R ∧ R < G) := ⟨by have := HZ.out; have h4 : W3.heap.size ≤ w4.heap.size := HS4.out; have h5 : w4.heap.size ≤ w5.heap.size := HS5.out; omega⟩
  have HW : Veil (w.heap.size = GA) := ⟨hGA⟩
  rw [hGA] at HA6
  rw [hGB] at HB6
  rw [hR] at HR6
  rw [hG] at HG5
  rw [hGA, hGB, hR, hG]
  have HG6 : Veil (Box3 W6 G) := ⟨⟨_, _, _, _, _, _, _, _, _, HG5.out⟩⟩
  have HJ6 : Veil (BldT W6 G ⟨[], [], []⟩ (.slice none 0 0) (.slice none 0 0) (.slice none 0 0) W6) := ⟨BldT.new HG5.out⟩
  clear hGA hGB hR hG hW1 hW2 hW3 hW6 HA3 HB3 HR3 HX3 HA4 HB4 HR4 HX4 HA5 HB5 HR5 HX5 HRa HRb a0 a1 a2 b0 b1 b2 z0 z1 z2 x0 x1 x2 k0 k1 k2 HG5 HS4 HS5 HZ
  have HA7 : Veil _ := ⟨HA6.out.turned HG6.out HJ6.out.x (by have := HO.out; omega)⟩
  have HB7 : Veil _ := ⟨HB6.out.turned HG6.out HJ6.out.x (by have := HO.out; omega)⟩
  refine region_new [.is (.pointer (some ⟨G, 0, none⟩)), .is (.slice none 0 0), .is (.pointer (some ⟨GA, 0, none⟩)), .is (.slice a.pp A.ps.length a.cp), .gen (fun v W => ∃ p c, v = .slice p A.ps.length c ∧ OwnE elP W W6.heap.size (.slice p A.ps.length c) A.ps) (fun v W W' hb ⟨p, c, h1, h2⟩ => ⟨p, c, h1, h2.below hb⟩), .is (.pointer (some ⟨GB, 0, none⟩)), .is (.slice b.pp B.ps.length b.cp)]
    [[], [(0, 34)], [], [(2, 36)], [(1, 35), (3, 37)], [], [(5, 39)]]
    [[], [0], [], [2], [1, 3], [], [5]]
    [(0, 34), (1, 35), (2, 36), (3, 37), (4, 38), (5, 39), (6, 40)] rfl (by kernel_rfl) ⟨?_, ?_, ?_, ?_, ?_, ?_, ?_, trivial⟩ ?_
  · intro vals W hB _
    dsimp only [putsL, slotOf]
    go_wp2
    exact ⟨rfl, Below.refl _ _, rfl⟩
  · intro vals W hB ⟨h0, _⟩
    have h0 : vals 0 = _ := h0
    have c1 := (HJ6.out.below hB).cells.1.1
    dsimp only [putsL, slotOf]
    rw [h0]
    go_wp2
    exact ⟨rfl, Below.refl _ _, rfl⟩
  · intro vals W hB _
    dsimp only [putsL, slotOf]
    go_wp2
    exact ⟨rfl, Below.refl _ _, rfl⟩
  · intro vals W hB ⟨h2, _⟩
    have h2 : vals 2 = _ := h2
    obtain ⟨a0, a1, a2⟩ := (HA7.out.below hB).cells
    dsimp only [putsL, slotOf]
    rw [h2]
    go_wp2
    exact ⟨rfl, Below.refl _ _, rfl⟩
  · intro vals W hB ⟨h1, h3, _⟩
    have h1 : vals 1 = _ := h1
    have h3 : vals 3 = _ := h3
    dsimp only [putsL, slotOf]
    rw [h1, h3]
    go_wp2_with ((at_builtin; refine wpList_append_els elP rfl (.tmp 35) (.tmp 37) rfl W6.heap.size (.slice none 0 0) [] A.ps rfl (OwnE.nil _ _ _) a.pp a.cp rfl (HA7.out.below hB).s.p (by have := HL.out; simp only [List.length_nil]; omega) hB.size ?_; intro v' w4 hown hgrow hv; have hb4 := grown_none hgrow; rw [List.nil_append] at hown; obtain ⟨p4, c4, rfl, -, -, -⟩ := hown.fit))
    exact ⟨rfl, hb4, ⟨p4, c4, rfl, hown⟩⟩
  · intro vals W hB _
    dsimp only [putsL, slotOf]
    go_wp2
    exact ⟨rfl, Below.refl _ _, rfl⟩
  · intro vals W hB ⟨h5, _⟩
    have h5 : vals 5 = _ := h5
    obtain ⟨b0, b1, b2⟩ := (HB7.out.below hB).cells
    dsimp only [putsL, slotOf]
    rw [h5]
    go_wp2
    exact ⟨rfl, Below.refl _ _, rfl⟩
  rintro vals u7 hB ⟨q0, q1, q2, q3, ⟨pu4, cu4, q4, hz4⟩, q5, q6, -⟩
  have h0 : vals 0 = _ := q0
  have h1 : vals 1 = _ := q1
  have h2 : vals 2 = _ := q2
  have h3 : vals 3 = _ := q3
  have h4 : vals 4 = _ := q4
  have h5 : vals 5 = _ := q5
  have h6 : vals 6 = _ := q6
  dsimp only [putsL]
  rw [h0, h1, h2, h3, h4, h5, h6]
  clear h0 q0 h1 q1 h2 q2 h3 q3 h4 q4 h5 q5 h6 q6
  simp only [List.length_cons, List.length_nil, Nat.reduceAdd, List.drop_succ_cons, List.drop_zero, List.setIfInBounds_toArray, List.set_cons_succ, List.set_cons_zero]
  go_wp2_with (first
    | (go_at_call 22; (with_reducible refine (HRx.out _ _ HN7.out.s).mono ?_); rintro e w8 ⟨rfl, hb8⟩; have HR8 : Veil _ := ⟨(hb8.block _ (lt_of_heap HR7.out)).trans HR7.out⟩; have HX8 : Veil _ := ⟨bn_then HX7.out hb8⟩; clear hb8 x0 x1 x2; obtain ⟨⟨x0, x1, x2⟩, k0, k1, k2⟩ := box3 HR8.out)
    | (at_builtin; refine wpList_append_els elP rfl (.tmp 38) (.tmp 40) rfl W6.heap.size (.slice pu4 A.ps.length cu4) (A.ps) B.ps rfl hz4 b.pp b.cp rfl (HB7.out.below hB).s.p (by have := HL.out; (try simp only [List.length_append, List.length_cons, List.length_nil]); omega) hB.size ?_; intro v' w7 hown7 hgrow7 hv7; have HOG7 : Veil _ := ⟨(HJ6.out.lay hB (fun j hj => (hz4.lt hj).1) hgrow7 0 undef).1⟩; obtain ⟨p7, c7, e7, -, -⟩ := hown7.fit; generalize hl7 : List.length _ = l7 at e7; subst e7; obtain ⟨⟨y0, y1, y2⟩, g0, g1, g2⟩ := box3 HOG7.out; obtain ⟨W7, hW7⟩ : ∃ W7, w7.setCell ⟨G, 0, none⟩ (.slice p7 l7 c7) = W7 := ⟨_, rfl⟩; have HJ7 : Veil (BldT W6 G ⟨A.ps ++ B.ps, [], []⟩ (.slice p7 l7 c7) (.slice none 0 0) (.slice none 0 0) W7) := ⟨by rw [← hW7]; exact HJ6.out.layP hB hz4 hgrow7 hown7⟩; clear y1 g1 y2 g2 hv7 hown7 hgrow7 hl7; have HA7c : Veil _ := ⟨HA6.out.turned HG6.out HJ7.out.x (by have := HO.out; omega)⟩; obtain ⟨a0, a1, a2⟩ := HA7c.out.cells; obtain ⟨ax, -, -, -, hn, -⟩ := HJ7.out.nbox; rw [HXx.out] at hn; have HN7 : Veil (NBox W7 G x ax) := ⟨hn⟩; have HR7 : Veil _ := ⟨HJ7.out.x.heap HR6.out (show R ≠ G by have := HO.out; omega)⟩; have HX7 : Veil _ := ⟨HX6.out.trans (HJ7.out.x.toBelow HX6.out.size (fun k _ e => by have := HO.out; have := HW.out; omega))⟩; clear hn; obtain ⟨x0, x1, x2⟩ := HN7.out.cells))
  clear hW7 HOG7 y0 g0
  clear hz4 hB
  have hU := (((Turned.refl (· = R) w8).setCell (p := ⟨R, 0, none⟩) rfl (.slice none 0 0)).setCell (p := ⟨R, 1, none⟩) rfl (.slice none 0 0)).setCell (p := ⟨R, 2, none⟩) rfl (.slice none 0 0)
  have hz := HO.out
  have hz2 := HW.out
  exact bodyPost_ret (results_node2 (g := R) (y := .int .i64 60) rfl rfl rfl (heap_setCell_at (heap_setCell_at (heap_setCell_at HR8.out 0 _) 1 _) 2 _)) rfl ⟨⟨none, 0, none, 0, none, 0⟩, rfl, ⟨Els.nil _ _, Els.nil _ _, Els.nil _ _⟩, HX8.out.trans (hU.toBelow HX8.out.size (fun k _ e => by omega))⟩

set_option maxRecDepth 20000 in
set_option maxHeartbeats 4000000 in
theorem refjoin_branchT {w : World} {A B : Nd} {a b : NdP} (h : NdAt w A a) (h' : NdAt w B b) (ha : Veil A.Ok) (hb : Veil B.Ok) (key : List UInt8) (HL : Veil (A.ps.length + B.ps.length ≤ 100000 ∧ A.ks.length + B.ks.length + 1 ≤ 100000 ∧ A.ds.length + B.ds.length ≤ 100000)) (hra : A.right = true) (hrb : B.right = true) (hda : 0 < A.ds.length) (hdb : 0 < B.ds.length) (hr : (⟨A.ps ++ B.ps, A.ks ++ [key] ++ B.ks, A.ds ++ B.ds⟩ : Nd).right = true) (hxo : Veil (⟨A.ps ++ B.ps, A.ks ++ [key] ++ B.ks, A.ds ++ B.ds⟩ : Nd).Ok) :
    Calls Try.prog 10 #[A.v a, .string ⟨key.toArray⟩, B.v b] w (JoinPost w (⟨A.ps ++ B.ps, A.ks ++ [key] ++ B.ks, A.ds ++ B.ds⟩ : Nd) 0) := by
  have HRx : Veil (∀ W c, NdAt W ⟨A.ps ++ B.ps, A.ks ++ [key] ++ B.ks, A.ds ++ B.ds⟩ c → Calls Try.prog 22 #[(⟨A.ps ++ B.ps, A.ks ++ [key] ++ B.ks, A.ds ++ B.ds⟩ : Nd).v c] W fun e w' => e = .returned (.bool true) ∧ Below W.heap.size W w') := ⟨fun W c h => by have := refnright_of h hxo; rw [hr] at this; exact this⟩
  clear hr hxo
  obtain ⟨x, hx⟩ : ∃ x : Nd, (⟨A.ps ++ B.ps, A.ks ++ [key] ++ B.ks, A.ds ++ B.ds⟩ : Nd) = x := ⟨_, rfl⟩
  rw [hx] at HRx ⊢
  have HXx : Veil _ := ⟨hx⟩
  clear hx
  have HRa : Veil (∀ W, NdAt W A a → Calls Try.prog 22 #[A.v a] W fun e w' => e = .returned (.bool A.right) ∧ Below W.heap.size W w') := ⟨fun W h => refnright_of h ha⟩
  have HRb : Veil (∀ W, NdAt W B b → Calls Try.prog 22 #[B.v b] W fun e w' => e = .returned (.bool B.right) ∧ Below W.heap.size W w') := ⟨fun W h => refnright_of h hb⟩
  obtain ⟨W1, W2, W3, hW1, hW2, hW3, HJ⟩ := join_start w h h'
  have HA3 : Veil _ := ⟨HJ.out.1⟩
  have HB3 : Veil _ := ⟨HJ.out.2.1⟩
  have HR3 : Veil _ := ⟨HJ.out.2.2.1⟩
  have HX3 : Veil _ := ⟨HJ.out.2.2.2.1⟩
  have HZ : Veil (w.heap.size < W1.heap.size ∧ W1.heap.size < W2.heap.size ∧ W2.heap.size < W3.heap.size) := ⟨by have := HJ.out.2.2.2.2; have := lt_of_heap HR3.out; omega⟩
  obtain ⟨a0, a1, a2⟩ := HA3.out.cells
  obtain ⟨b0, b1, b2⟩ := HB3.out.cells
  clear h h' HJ ha hb
  rw [hra] at HRa
  rw [hrb] at HRb
  clear hra hrb
  unfold Nd.v at *
  go_enter Try.func10, Try.ntmps10
  go_wp2_with (first
    | (go_at_call 22; (with_reducible refine (HRb.out w4 HB4.out.s).mono ?_); rintro e w5 ⟨rfl, hb5⟩; have HA5 : Veil _ := ⟨HA4.out.below hb5⟩; have HB5 : Veil _ := ⟨HB4.out.below hb5⟩; have HR5 : Veil _ := ⟨(hb5.block _ (lt_of_heap HR4.out)).trans HR4.out⟩; have HX5 : Veil _ := ⟨bn_then HX4.out hb5⟩; have HS5 : Veil _ := ⟨hb5.size⟩; obtain ⟨W6, hW6⟩ : ∃ W6, w5.alloc (.cells #[.slice none 0 0, .slice none 0 0, .slice none 0 0] 26) = W6 := ⟨_, rfl⟩; have hb6 : Below w5.heap.size w5 W6 := (by rw [← hW6]; exact below_al (Below.refl _ _) _); have HG5 : Veil (W6.heap[w5.heap.size]? = some (.cells #[.slice none 0 0, .slice none 0 0, .slice none 0 0] 26 (0, 0))) := ⟨by rw [← hW6]; exact heap_alloc_new _ _⟩; have HA6 : Veil _ := ⟨HA5.out.below hb6⟩; have HB6 : Veil _ := ⟨HB5.out.below hb6⟩; have HR6 : Veil _ := ⟨(hb6.block _ (lt_of_heap HR5.out)).trans HR5.out⟩; have HX6 : Veil _ := ⟨bn_then HX5.out hb6⟩; clear hb5 hb6 a0 a1 a2 b0 b1 b2; obtain ⟨a0, a1, a2⟩ := HA6.out.cells; obtain ⟨b0, b1, b2⟩ := HB6.out.cells; obtain ⟨⟨z0, z1, z2⟩, -⟩ := box3 HG5.out; obtain ⟨⟨x0, x1, x2⟩, k0, k1, k2⟩ := box3 HR6.out)
    | (go_at_call 22; (with_reducible refine (HRa.out W3 HA3.out.s).mono ?_); rintro e w4 ⟨rfl, hb4⟩; have HA4 : Veil _ := ⟨HA3.out.below hb4⟩; have HB4 : Veil _ := ⟨HB3.out.below hb4⟩; have HR4 : Veil _ := ⟨(hb4.block _ (lt_of_heap HR3.out)).trans HR3.out⟩; have HX4 : Veil _ := ⟨bn_then HX3.out hb4⟩; have HS4 : Veil _ := ⟨hb4.size⟩; clear hb4 a0 a1 a2 b0 b1 b2; obtain ⟨a0, a1, a2⟩ := HA4.out.cells; obtain ⟨b0, b1, b2⟩ := HB4.out.cells))
  obtain ⟨GA, hGA⟩ : ∃ g, w.heap.size = g := ⟨_, rfl⟩
  obtain ⟨GB, hGB⟩ : ∃ g, W1.heap.size = g := ⟨_, rfl⟩
  obtain ⟨R, hR⟩ : ∃ g, W2.heap.size = g := ⟨_, rfl⟩
  obtain ⟨G, hG⟩ : ∃ g, w5.heap.size = g := ⟨_, rfl⟩
  have HO : Veil (GA < GB ∧ GB < R ∧ R < G) := ⟨by have := HZ.out; have h4 : W3.heap.size ≤ w4.heap.size := HS4.out; have h5 : w4.heap.size ≤ w5.heap.size := HS5.out; omega⟩
  have HW : Veil (w.heap.size = GA) := ⟨hGA⟩
  rw [hGA] at HA6
  rw [hGB] at HB6
  rw [hR] at HR6
  rw [hG] at HG5
  rw [hGA, hGB, hR, hG]
  have HG6 : Veil (Box3 W6 G) := ⟨⟨_, _, _, _, _, _, _, _, _, HG5.out⟩⟩
  have HJ6 : Veil (BldT W6 G ⟨[], [], []⟩ (.slice none 0 0) (.slice none 0 0) (.slice none 0 0) W6) := ⟨BldT.new HG5.out⟩
  clear hGA hGB hR hG hW1 hW2 hW3 hW6 HA3 HB3 HR3 HX3 HA4 HB4 HR4 HX4 HA5 HB5 HR5 HX5 HRa HRb a0 a1 a2 b0 b1 b2 z0 z1 z2 x0 x1 x2 k0 k1 k2 HG5 HS4 HS5 HZ
  have HA7 : Veil _ := ⟨HA6.out.turned HG6.out HJ6.out.x (by have := HO.out; omega)⟩
  have HB7 : Veil _ := ⟨HB6.out.turned HG6.out HJ6.out.x (by have := HO.out; omega)⟩
  refine region_new [.is (.pointer (some ⟨G, 0, none⟩)), .is (.slice none 0 0), .is (.pointer (some ⟨GA, 0, none⟩)), .is (.slice a.pp A.ps.length a.cp), .gen (fun v W => ∃ p c, v = .slice p A.ps.length c ∧ OwnE elP W W6.heap.size (.slice p A.ps.length c) A.ps) (fun v W W' hb ⟨p, c, h1, h2⟩ => ⟨p, c, h1, h2.below hb⟩), .is (.pointer (some ⟨GB, 0, none⟩)), .is (.slice b.pp B.ps.length b.cp)]
    [[], [(0, 34)], [], [(2, 36)], [(1, 35), (3, 37)], [], [(5, 39)]]
    [[], [0], [], [2], [1, 3], [], [5]]
    [(0, 34), (1, 35), (2, 36), (3, 37), (4, 38), (5, 39), (6, 40)] rfl (by kernel_rfl) ⟨?_, ?_, ?_, ?_, ?_, ?_, ?_, trivial⟩ ?_
  · intro vals W hB _
    dsimp only [putsL, slotOf]
    go_wp2
    exact ⟨rfl, Below.refl _ _, rfl⟩
  · intro vals W hB ⟨h0, _⟩
    have h0 : vals 0 = _ := h0
    have c1 := (HJ6.out.below hB).cells.1.1
    dsimp only [putsL, slotOf]
    rw [h0]
    go_wp2
    exact ⟨rfl, Below.refl _ _, rfl⟩
  · intro vals W hB _
    dsimp only [putsL, slotOf]
    go_wp2
    exact ⟨rfl, Below.refl _ _, rfl⟩
  · intro vals W hB ⟨h2, _⟩
    have h2 : vals 2 = _ := h2
    obtain ⟨a0, a1, a2⟩ := (HA7.out.below hB).cells
    dsimp only [putsL, slotOf]
    rw [h2]
    go_wp2
    exact ⟨rfl, Below.refl _ _, rfl⟩
  · intro vals W hB ⟨h1, h3, _⟩
    have h1 : vals 1 = _ := h1
    have h3 : vals 3 = _ := h3
    dsimp only [putsL, slotOf]
    rw [h1, h3]
    go_wp2_with ((at_builtin; refine wpList_append_els elP rfl (.tmp 35) (.tmp 37) rfl W6.heap.size (.slice none 0 0) [] A.ps rfl (OwnE.nil _ _ _) a.pp a.cp rfl (HA7.out.below hB).s.p (by have := HL.out; simp only [List.length_nil]; omega) hB.size ?_; intro v' w4 hown hgrow hv; have hb4 := grown_none hgrow; rw [List.nil_append] at hown; obtain ⟨p4, c4, rfl, -, -, -⟩ := hown.fit))
    exact ⟨rfl, hb4, ⟨p4, c4, rfl, hown⟩⟩
  · intro vals W hB _
    dsimp only [putsL, slotOf]
    go_wp2
    exact ⟨rfl, Below.refl _ _, rfl⟩
  · intro vals W hB ⟨h5, _⟩
    have h5 : vals 5 = _ := h5
    obtain ⟨b0, b1, b2⟩ := (HB7.out.below hB).cells
    dsimp only [putsL, slotOf]
    rw [h5]
    go_wp2
    exact ⟨rfl, Below.refl _ _, rfl⟩
  rintro vals u7 hB ⟨q0, q1, q2, q3, ⟨pu4, cu4, q4, hz4⟩, q5, q6, -⟩
  have h0 : vals 0 = _ := q0
  have h1 : vals 1 = _ := q1
  have h2 : vals 2 = _ := q2
  have h3 : vals 3 = _ := q3
  have h4 : vals 4 = _ := q4
  have h5 : vals 5 = _ := q5
  have h6 : vals 6 = _ := q6
  dsimp only [putsL]
  rw [h0, h1, h2, h3, h4, h5, h6]
  clear h0 q0 h1 q1 h2 q2 h3 q3 h4 q4 h5 q5 h6 q6
  simp only [List.length_cons, List.length_nil, Nat.reduceAdd, List.drop_succ_cons, List.drop_zero, List.setIfInBounds_toArray, List.set_cons_succ, List.set_cons_zero]
  go_wp2_with ((at_builtin; refine wpList_append_els elP rfl (.tmp 38) (.tmp 40) rfl W6.heap.size (.slice pu4 A.ps.length cu4) (A.ps) B.ps rfl hz4 b.pp b.cp rfl (HB7.out.below hB).s.p (by have := HL.out; (try simp only [List.length_append, List.length_cons, List.length_nil]); omega) hB.size ?_; intro v' w7 hown7 hgrow7 hv7; have HOG7 : Veil _ := ⟨(HJ6.out.lay hB (fun j hj => (hz4.lt hj).1) hgrow7 0 undef).1⟩; obtain ⟨p7, c7, e7, -, -⟩ := hown7.fit; generalize hl7 : List.length _ = l7 at e7; subst e7; obtain ⟨⟨y0, y1, y2⟩, g0, g1, g2⟩ := box3 HOG7.out; obtain ⟨W7, hW7⟩ : ∃ W7, w7.setCell ⟨G, 0, none⟩ (.slice p7 l7 c7) = W7 := ⟨_, rfl⟩; have HJ7 : Veil (BldT W6 G ⟨A.ps ++ B.ps, [], []⟩ (.slice p7 l7 c7) (.slice none 0 0) (.slice none 0 0) W7) := ⟨by rw [← hW7]; exact HJ6.out.layP hB hz4 hgrow7 hown7⟩; clear y1 g1 y2 g2 hv7 hown7 hgrow7 hl7; have HA7c : Veil _ := ⟨HA6.out.turned HG6.out HJ7.out.x (by have := HO.out; omega)⟩; obtain ⟨a0, a1, a2⟩ := HA7c.out.cells))
  clear hW7 HOG7 y0 g0
  clear hz4 hB
  clear a0 a1 a2
  have HA8 : Veil _ := ⟨HA6.out.turned HG6.out HJ7.out.x (by have := HO.out; omega)⟩
  have HB8 : Veil _ := ⟨HB6.out.turned HG6.out HJ7.out.x (by have := HO.out; omega)⟩
  refine region_kill 10 [[], [(0, 47)], [], [(2, 49)], [(1, 48), (3, 50)], [], [(5, 52)], [(4, 51), (6, 53)], [], [(8, 55)]]
    [[], [0], [], [2], [1, 3], [], [5], [4, 6], [], [8]]
    [(0, 47), (1, 48), (2, 49), (3, 50), (4, 51), (5, 52), (6, 53), (7, 54), (8, 55), (9, 56)]
    (fun i W W' => if i = 7 then Below W7.heap.size W7 W' else Below W.heap.size W W') (fun W => Below W7.heap.size W7 W)
    (fun j v W => match j with
      | 0 => v = .pointer (some ⟨G, 1, none⟩)
      | 1 => v = .slice none 0 0
      | 2 => v = .pointer (some ⟨GA, 1, none⟩)
      | 3 => v = .slice a.pk A.ks.length a.ck
      | 4 => ∃ p c, v = .slice p A.ks.length c ∧ OwnE elK W W7.heap.size (.slice p A.ks.length c) A.ks
      | 5 => v = .string ⟨key.toArray⟩
      | 6 => ∃ g, v = .slice (some ⟨g, 0, none⟩) 1 1 ∧ W.heap[g]? = some (.cells #[.string ⟨key.toArray⟩] 9 (0, 0))
      | 7 => ∃ p c, v = .slice p (A.ks ++ [key]).length c ∧ OwnE elK W W7.heap.size (.slice p (A.ks ++ [key]).length c) (A.ks ++ [key])
      | 8 => v = .pointer (some ⟨GB, 1, none⟩)
      | 9 => v = .slice b.pk B.ks.length b.ck
      | _ => True)
    (fun i j => i == 7 && (j == 4 || j == 6)) (killOk (by decide)) rfl (by kernel_rfl) _ rfl ?_ ?_ (Below.refl _ _).drew ⟨?_, ?_, ?_, ?_, ?_, ?_, ?_, ?_, ?_, ?_, trivial⟩ ?_
  · intro i W W' hI hR
    try dsimp only at hI hR ⊢
    by_cases hi : i = 7
    · rwa [if_pos hi] at hR
    · rw [if_neg hi] at hR
      exact hI.trans (hR.mono hI.size)
  · intro i j v W W' hI hR hij hk hF
    try dsimp only at hI hR hk hF ⊢
    by_cases hi : i = 7
    · subst hi
      match j, hF, hk, hij with
      | 0, hF, _, _ => exact hF
      | 1, hF, _, _ => exact hF
      | 2, hF, _, _ => exact hF
      | 3, hF, _, _ => exact hF
      | 4, _, hk, _ => cases hk
      | 5, hF, _, _ => exact hF
      | 6, _, hk, _ => cases hk
      | 7, _, _, hij => exact absurd rfl hij
      | 8, hF, _, _ => exact hF
      | 9, hF, _, _ => exact hF
      | _ + 10, _, _, _ => exact trivial
    · rw [if_neg hi] at hR
      match j, hF with
      | 0, hF => exact hF
      | 1, hF => exact hF
      | 2, hF => exact hF
      | 3, hF => exact hF
      | 4, ⟨p, c, h1, h2⟩ => exact ⟨p, c, h1, h2.below hR⟩
      | 5, hF => exact hF
      | 6, ⟨g, h1, h2⟩ => exact ⟨g, h1, (hR.block _ (lt_of_heap h2)).trans h2⟩
      | 7, ⟨p, c, h1, h2⟩ => exact ⟨p, c, h1, h2.below hR⟩
      | 8, hF => exact hF
      | 9, hF => exact hF
      | _ + 10, _ => exact trivial
  · intro vals W hB _
    have hB : Below W7.heap.size W7 W := hB
    dsimp only [putsL, slotOf]
    go_wp2
    exact ⟨rfl, Below.refl _ _, rfl⟩
  · intro vals W hB ⟨h0, _⟩
    have hB : Below W7.heap.size W7 W := hB
    have h0 : vals 0 = _ := h0
    have c1 := (HJ7.out.below hB).cells.1.2.1
    dsimp only [putsL, slotOf]
    rw [h0]
    go_wp2
    exact ⟨rfl, Below.refl _ _, rfl⟩
  · intro vals W hB _
    have hB : Below W7.heap.size W7 W := hB
    dsimp only [putsL, slotOf]
    go_wp2
    exact ⟨rfl, Below.refl _ _, rfl⟩
  · intro vals W hB ⟨h2, _⟩
    have hB : Below W7.heap.size W7 W := hB
    have h2 : vals 2 = _ := h2
    obtain ⟨a0, a1, a2⟩ := (HA8.out.below hB).cells
    dsimp only [putsL, slotOf]
    rw [h2]
    go_wp2
    exact ⟨rfl, Below.refl _ _, rfl⟩
  · intro vals W hB ⟨h1, h3, _⟩
    have hB : Below W7.heap.size W7 W := hB
    have h1 : vals 1 = _ := h1
    have h3 : vals 3 = _ := h3
    dsimp only [putsL, slotOf]
    rw [h1, h3]
    go_wp2_with ((at_builtin; refine wpList_append_els elK rfl (.tmp 48) (.tmp 50) rfl W7.heap.size (.slice none 0 0) [] A.ks rfl (OwnE.nil _ _ _) a.pk a.ck rfl (HA8.out.below hB).s.k (by have := HL.out; simp only [List.length_nil]; omega) hB.size ?_; intro v' w4 hown hgrow hv; have hb4 := grown_none hgrow; rw [List.nil_append] at hown; obtain ⟨p4, c4, rfl, -, -, -⟩ := hown.fit))
    exact ⟨rfl, hb4, ⟨p4, c4, rfl, hown⟩⟩
  · intro vals W hB _
    have hB : Below W7.heap.size W7 W := hB
    dsimp only [putsL, slotOf]
    go_wp2
    exact ⟨rfl, Below.refl _ _, rfl⟩
  · intro vals W hB ⟨h5, _⟩
    have hB : Below W7.heap.size W7 W := hB
    have h5 : vals 5 = _ := h5
    dsimp only [putsL, slotOf]
    rw [h5]
    go_wp2
    exact ⟨rfl, below_al (Below.refl _ _) _, ⟨_, rfl, heap_alloc_new _ _⟩⟩
  · intro vals W hB ⟨h4, h6, _⟩
    have hB : Below W7.heap.size W7 W := hB
    obtain ⟨p4, c4, h4, ho4⟩ := h4
    obtain ⟨g6, h6, hg6⟩ := h6
    dsimp only [putsL, slotOf]
    rw [h4, h6]
    go_wp2_with ((at_builtin; refine wpList_append_el elK rfl (.tmp 51) (.tmp 53) rfl W7.heap.size (.slice p4 A.ks.length c4) A.ks key rfl ho4 g6 rfl hg6 (by have := HL.out; omega) hB.size ?_; intro v' w4 hown hgrow hv; have hb4 := ownE_grown hB (Nat.le_refl _) ho4 hgrow; obtain ⟨p5, c5, rfl, -, -, -⟩ := hown.fit))
    exact ⟨rfl, hb4, ⟨p5, c5, rfl, (by first | exact hown | simpa using hown)⟩⟩
  · intro vals W hB _
    have hB : Below W7.heap.size W7 W := hB
    dsimp only [putsL, slotOf]
    go_wp2
    exact ⟨rfl, Below.refl _ _, rfl⟩
  · intro vals W hB ⟨h8, _⟩
    have hB : Below W7.heap.size W7 W := hB
    have h8 : vals 8 = _ := h8
    obtain ⟨b0, b1, b2⟩ := (HB8.out.below hB).cells
    dsimp only [putsL, slotOf]
    rw [h8]
    go_wp2
    exact ⟨rfl, Below.refl _ _, rfl⟩
  intro vals u8 hB hF
  have hB : Below W7.heap.size W7 u8 := hB
  have h0 : vals 0 = _ := hF 0 (by decide) (by decide)
  have h1 : vals 1 = _ := hF 1 (by decide) (by decide)
  have h2 : vals 2 = _ := hF 2 (by decide) (by decide)
  have h3 : vals 3 = _ := hF 3 (by decide) (by decide)
  have h5 : vals 5 = _ := hF 5 (by decide) (by decide)
  have h8 : vals 8 = _ := hF 8 (by decide) (by decide)
  have h9 : vals 9 = _ := hF 9 (by decide) (by decide)
  obtain ⟨pu7, cu7, h7, hz7⟩ := hF 7 (by decide) (by decide)
  clear hF
  obtain ⟨x4, h4⟩ : ∃ x, vals 4 = x := ⟨_, rfl⟩
  obtain ⟨x6, h6⟩ : ∃ x, vals 6 = x := ⟨_, rfl⟩
  dsimp only [putsL]
  rw [h0, h1, h2, h3, h4, h5, h6, h7, h8, h9]
  clear h0 h1 h2 h3 h4 h5 h6 h7 h8 h9
  simp only [List.drop_succ_cons, List.drop_zero, List.setIfInBounds_toArray, List.set_cons_succ, List.set_cons_zero]
  go_wp2_with ((at_builtin; refine wpList_append_els elK rfl (.tmp 54) (.tmp 56) rfl W7.heap.size (.slice pu7 (A.ks ++ [key]).length cu7) (A.ks ++ [key]) B.ks rfl hz7 b.pk b.ck rfl (HB8.out.below hB).s.k (by have := HL.out; (try simp only [List.length_append, List.length_cons, List.length_nil]); omega) hB.size ?_; intro v' w8 hown8 hgrow8 hv8; have HOG8 : Veil _ := ⟨(HJ7.out.lay hB (fun j hj => (hz7.lt hj).1) hgrow8 0 undef).1⟩; obtain ⟨p8, c8, e8, -, -⟩ := hown8.fit; generalize hl8 : List.length _ = l8 at e8; subst e8; obtain ⟨⟨y0, y1, y2⟩, g0, g1, g2⟩ := box3 HOG8.out; obtain ⟨W8, hW8⟩ : ∃ W8, w8.setCell ⟨G, 1, none⟩ (.slice p8 l8 c8) = W8 := ⟨_, rfl⟩; have HJ8 : Veil (BldT W6 G ⟨A.ps ++ B.ps, A.ks ++ [key] ++ B.ks, []⟩ (.slice p7 l7 c7) (.slice p8 l8 c8) (.slice none 0 0) W8) := ⟨by rw [← hW8]; exact HJ7.out.layK hB hz7 hgrow8 hown8⟩; clear y0 g0 y2 g2 hv8 hown8 hgrow8 hl8))
  clear hW8 HOG8 y1 g1
  clear hz7 hB
  have HA9 : Veil _ := ⟨HA6.out.turned HG6.out HJ8.out.x (by have := HO.out; omega)⟩
  have HB9 : Veil _ := ⟨HB6.out.turned HG6.out HJ8.out.x (by have := HO.out; omega)⟩
  refine region_new [.is (.pointer (some ⟨G, 2, none⟩)), .is (.slice none 0 0), .is (.pointer (some ⟨GA, 2, none⟩)), .is (.slice a.pd A.ds.length a.cd), .gen (fun v W => ∃ p c, v = .slice p A.ds.length c ∧ OwnE elD W W8.heap.size (.slice p A.ds.length c) A.ds) (fun v W W' hb ⟨p, c, h1, h2⟩ => ⟨p, c, h1, h2.below hb⟩), .is (.pointer (some ⟨GB, 2, none⟩)), .is (.slice b.pd B.ds.length b.cd)]
    [[], [(0, 59)], [], [(2, 61)], [(1, 60), (3, 62)], [], [(5, 64)]]
    [[], [0], [], [2], [1, 3], [], [5]]
    [(0, 59), (1, 60), (2, 61), (3, 62), (4, 63), (5, 64), (6, 65)] rfl (by kernel_rfl) ⟨?_, ?_, ?_, ?_, ?_, ?_, ?_, trivial⟩ ?_
  · intro vals W hB _
    dsimp only [putsL, slotOf]
    go_wp2
    exact ⟨rfl, Below.refl _ _, rfl⟩
  · intro vals W hB ⟨h0, _⟩
    have h0 : vals 0 = _ := h0
    have c1 := (HJ8.out.below hB).cells.1.2.2
    dsimp only [putsL, slotOf]
    rw [h0]
    go_wp2
    exact ⟨rfl, Below.refl _ _, rfl⟩
  · intro vals W hB _
    dsimp only [putsL, slotOf]
    go_wp2
    exact ⟨rfl, Below.refl _ _, rfl⟩
  · intro vals W hB ⟨h2, _⟩
    have h2 : vals 2 = _ := h2
    obtain ⟨a0, a1, a2⟩ := (HA9.out.below hB).cells
    dsimp only [putsL, slotOf]
    rw [h2]
    go_wp2
    exact ⟨rfl, Below.refl _ _, rfl⟩
  · intro vals W hB ⟨h1, h3, _⟩
    have h1 : vals 1 = _ := h1
    have h3 : vals 3 = _ := h3
    dsimp only [putsL, slotOf]
    rw [h1, h3]
    go_wp2_with ((at_builtin; refine wpList_append_els elD rfl (.tmp 60) (.tmp 62) rfl W8.heap.size (.slice none 0 0) [] A.ds rfl (OwnE.nil _ _ _) a.pd a.cd rfl (HA9.out.below hB).s.d (by have := HL.out; simp only [List.length_nil]; omega) hB.size ?_; intro v' w4 hown hgrow hv; have hb4 := grown_none hgrow; rw [List.nil_append] at hown; obtain ⟨p4, c4, rfl, -, -, -⟩ := hown.fit))
    exact ⟨rfl, hb4, ⟨p4, c4, rfl, hown⟩⟩
  · intro vals W hB _
    dsimp only [putsL, slotOf]
    go_wp2
    exact ⟨rfl, Below.refl _ _, rfl⟩
  · intro vals W hB ⟨h5, _⟩
    have h5 : vals 5 = _ := h5
    obtain ⟨b0, b1, b2⟩ := (HB9.out.below hB).cells
    dsimp only [putsL, slotOf]
    rw [h5]
    go_wp2
    exact ⟨rfl, Below.refl _ _, rfl⟩
  rintro vals u9 hB ⟨q0, q1, q2, q3, ⟨pu4, cu4, q4, hz4⟩, q5, q6, -⟩
  have h0 : vals 0 = _ := q0
  have h1 : vals 1 = _ := q1
  have h2 : vals 2 = _ := q2
  have h3 : vals 3 = _ := q3
  have h4 : vals 4 = _ := q4
  have h5 : vals 5 = _ := q5
  have h6 : vals 6 = _ := q6
  dsimp only [putsL]
  rw [h0, h1, h2, h3, h4, h5, h6]
  clear h0 q0 h1 q1 h2 q2 h3 q3 h4 q4 h5 q5 h6 q6
  simp only [List.length_cons, List.length_nil, Nat.reduceAdd, List.drop_succ_cons, List.drop_zero, List.setIfInBounds_toArray, List.set_cons_succ, List.set_cons_zero]
  go_wp2_with (first
    | (go_at_call 22; (with_reducible refine (HRx.out _ _ HN7.out.s).mono ?_); rintro e w8 ⟨rfl, hb8⟩; have HN8 : Veil _ := ⟨HN7.out.below hb8⟩; have HR8 : Veil _ := ⟨(hb8.block _ (lt_of_heap HR7.out)).trans HR7.out⟩; have HX8 : Veil _ := ⟨bn_then HX7.out hb8⟩; clear hb8 x0 x1 x2; obtain ⟨⟨j0, j1, j2⟩, k0, k1, k2⟩ := box3 HR8.out; obtain ⟨x0, x1, x2⟩ := HN8.out.cells)
    | (at_builtin; refine wpList_append_els elD rfl (.tmp 63) (.tmp 65) rfl W8.heap.size (.slice pu4 A.ds.length cu4) (A.ds) B.ds rfl hz4 b.pd b.cd rfl (HB9.out.below hB).s.d (by have := HL.out; (try simp only [List.length_append, List.length_cons, List.length_nil]); omega) hB.size ?_; intro v' w9 hown9 hgrow9 hv9; have HOG9 : Veil _ := ⟨(HJ8.out.lay hB (fun j hj => (hz4.lt hj).1) hgrow9 0 undef).1⟩; obtain ⟨p9, c9, e9, -, -⟩ := hown9.fit; generalize hl9 : List.length _ = l9 at e9; subst e9; obtain ⟨⟨y0, y1, y2⟩, g0, g1, g2⟩ := box3 HOG9.out; obtain ⟨W9, hW9⟩ : ∃ W9, w9.setCell ⟨G, 2, none⟩ (.slice p9 l9 c9) = W9 := ⟨_, rfl⟩; have HJ9 : Veil (BldT W6 G ⟨A.ps ++ B.ps, A.ks ++ [key] ++ B.ks, A.ds ++ B.ds⟩ (.slice p7 l7 c7) (.slice p8 l8 c8) (.slice p9 l9 c9) W9) := ⟨by rw [← hW9]; exact HJ8.out.layD hB hz4 hgrow9 hown9⟩; clear y0 g0 y1 g1 hv9 hown9 hgrow9 hl9; obtain ⟨ax, -, -, -, hn, -⟩ := HJ9.out.nbox; rw [HXx.out] at hn; have HN7 : Veil (NBox W9 G x ax) := ⟨hn⟩; have HR7 : Veil _ := ⟨HJ9.out.x.heap HR6.out (show R ≠ G by have := HO.out; omega)⟩; have HX7 : Veil _ := ⟨HX6.out.trans (HJ9.out.x.toBelow HX6.out.size (fun k _ e => by have := HO.out; have := HW.out; omega))⟩; clear hn; obtain ⟨x0, x1, x2⟩ := HN7.out.cells))
  clear hW9 HOG9 y2 g2
  clear hz4 hB
  have hz := HO.out
  have hz2 := HW.out
  have hU := nbox_set HN8.out.s ⟨_, _, _, _, _, _, _, _, _, HR8.out⟩
  exact bodyPost_ret (results_node2 (g := R) (y := .int .i64 0) rfl rfl rfl hU.1.b) rfl ⟨ax, rfl, hU.1.s, HX8.out.trans (hU.2.toBelow HX8.out.size (fun k _ e => by omega))⟩

set_option maxRecDepth 20000 in
set_option maxHeartbeats 4000000 in
theorem refjoin_branchF {w : World} {A B : Nd} {a b : NdP} (h : NdAt w A a) (h' : NdAt w B b) (ha : Veil A.Ok) (hb : Veil B.Ok) (key : List UInt8) (HL : Veil (A.ps.length + B.ps.length ≤ 100000 ∧ A.ks.length + B.ks.length + 1 ≤ 100000 ∧ A.ds.length + B.ds.length ≤ 100000)) (hra : A.right = true) (hrb : B.right = true) (hda : 0 < A.ds.length) (hdb : 0 < B.ds.length) (hr : (⟨A.ps ++ B.ps, A.ks ++ [key] ++ B.ks, A.ds ++ B.ds⟩ : Nd).right = false) (hxo : Veil (⟨A.ps ++ B.ps, A.ks ++ [key] ++ B.ks, A.ds ++ B.ds⟩ : Nd).Ok) :
    Calls Try.prog 10 #[A.v a, .string ⟨key.toArray⟩, B.v b] w (JoinPost w (Nd.zero) 60) := by
  have HRx : Veil (∀ W c, NdAt W ⟨A.ps ++ B.ps, A.ks ++ [key] ++ B.ks, A.ds ++ B.ds⟩ c → Calls Try.prog 22 #[(⟨A.ps ++ B.ps, A.ks ++ [key] ++ B.ks, A.ds ++ B.ds⟩ : Nd).v c] W fun e w' => e = .returned (.bool false) ∧ Below W.heap.size W w') := ⟨fun W c h => by have := refnright_of h hxo; rw [hr] at this; exact this⟩
  clear hr hxo
  obtain ⟨x, hx⟩ : ∃ x : Nd, (⟨A.ps ++ B.ps, A.ks ++ [key] ++ B.ks, A.ds ++ B.ds⟩ : Nd) = x := ⟨_, rfl⟩
  rw [hx] at HRx
  have HXx : Veil _ := ⟨hx⟩
  clear hx
  have HRa : Veil (∀ W, NdAt W A a → Calls Try.prog 22 #[A.v a] W fun e w' => e = .returned (.bool A.right) ∧ Below W.heap.size W w') := ⟨fun W h => refnright_of h ha⟩
  have HRb : Veil (∀ W, NdAt W B b → Calls Try.prog 22 #[B.v b] W fun e w' => e = .returned (.bool B.right) ∧ Below W.heap.size W w') := ⟨fun W h => refnright_of h hb⟩
  obtain ⟨W1, W2, W3, hW1, hW2, hW3, HJ⟩ := join_start w h h'
  have HA3 : Veil _ := ⟨HJ.out.1⟩
  have HB3 : Veil _ := ⟨HJ.out.2.1⟩
  have HR3 : Veil _ := ⟨HJ.out.2.2.1⟩
  have HX3 : Veil _ := ⟨HJ.out.2.2.2.1⟩
  have HZ : Veil (w.heap.size < W1.heap.size ∧ W1.heap.size < W2.heap.size ∧ W2.heap.size < W3.heap.size) := ⟨by have := HJ.out.2.2.2.2; have := lt_of_heap HR3.out; omega⟩
  obtain ⟨a0, a1, a2⟩ := HA3.out.cells
  obtain ⟨b0, b1, b2⟩ := HB3.out.cells
  clear h h' HJ ha hb
  rw [hra] at HRa
  rw [hrb] at HRb
  clear hra hrb
  unfold Nd.v at *
  go_enter Try.func10, Try.ntmps10
  go_wp2_with (first
    | (go_at_call 22; (with_reducible refine (HRb.out w4 HB4.out.s).mono ?_); rintro e w5 ⟨rfl, hb5⟩; have HA5 : Veil _ := ⟨HA4.out.below hb5⟩; have HB5 : Veil _ := ⟨HB4.out.below hb5⟩; have HR5 : Veil _ := ⟨(hb5.block _ (lt_of_heap HR4.out)).trans HR4.out⟩; have HX5 : Veil _ := ⟨bn_then HX4.out hb5⟩; have HS5 : Veil _ := ⟨hb5.size⟩; obtain ⟨W6, hW6⟩ : ∃ W6, w5.alloc (.cells #[.slice none 0 0, .slice none 0 0, .slice none 0 0] 26) = W6 := ⟨_, rfl⟩; have hb6 : Below w5.heap.size w5 W6 := (by rw [← hW6]; exact below_al (Below.refl _ _) _); have HG5 : Veil (W6.heap[w5.heap.size]? = some (.cells #[.slice none 0 0, .slice none 0 0, .slice none 0 0] 26 (0, 0))) := ⟨by rw [← hW6]; exact heap_alloc_new _ _⟩; have HA6 : Veil _ := ⟨HA5.out.below hb6⟩; have HB6 : Veil _ := ⟨HB5.out.below hb6⟩; have HR6 : Veil _ := ⟨(hb6.block _ (lt_of_heap HR5.out)).trans HR5.out⟩; have HX6 : Veil _ := ⟨bn_then HX5.out hb6⟩; clear hb5 hb6 a0 a1 a2 b0 b1 b2; obtain ⟨a0, a1, a2⟩ := HA6.out.cells; obtain ⟨b0, b1, b2⟩ := HB6.out.cells; obtain ⟨⟨z0, z1, z2⟩, -⟩ := box3 HG5.out; obtain ⟨⟨x0, x1, x2⟩, k0, k1, k2⟩ := box3 HR6.out)
    | (go_at_call 22; (with_reducible refine (HRa.out W3 HA3.out.s).mono ?_); rintro e w4 ⟨rfl, hb4⟩; have HA4 : Veil _ := ⟨HA3.out.below hb4⟩; have HB4 : Veil _ := ⟨HB3.out.below hb4⟩; have HR4 : Veil _ := ⟨(hb4.block _ (lt_of_heap HR3.out)).trans HR3.out⟩; have HX4 : Veil _ := ⟨bn_then HX3.out hb4⟩; have HS4 : Veil _ := ⟨hb4.size⟩; clear hb4 a0 a1 a2 b0 b1 b2; obtain ⟨a0, a1, a2⟩ := HA4.out.cells; obtain ⟨b0, b1, b2⟩ := HB4.out.cells))
  obtain ⟨GA, hGA⟩ : ∃ g, w.heap.size = g := ⟨_, rfl⟩
  obtain ⟨GB, hGB⟩ : ∃ g, W1.heap.size = g := ⟨_, rfl⟩
  obtain ⟨R, hR⟩ : ∃ g, W2.heap.size = g := ⟨_, rfl⟩
  obtain ⟨G, hG⟩ : ∃ g, w5.heap.size = g := ⟨_, rfl⟩
  have HO : Veil (GA < GB ∧ GB < R ∧ R < G) := ⟨by have := HZ.out; have h4 : W3.heap.size ≤ w4.heap.size := HS4.out; have h5 : w4.heap.size ≤ w5.heap.size := HS5.out; omega⟩
  have HW : Veil (w.heap.size = GA) := ⟨hGA⟩
  rw [hGA] at HA6
  rw [hGB] at HB6
  rw [hR] at HR6
  rw [hG] at HG5
  rw [hGA, hGB, hR, hG]
  have HG6 : Veil (Box3 W6 G) := ⟨⟨_, _, _, _, _, _, _, _, _, HG5.out⟩⟩
  have HJ6 : Veil (BldT W6 G ⟨[], [], []⟩ (.slice none 0 0) (.slice none 0 0) (.slice none 0 0) W6) := ⟨BldT.new HG5.out⟩
  clear hGA hGB hR hG hW1 hW2 hW3 hW6 HA3 HB3 HR3 HX3 HA4 HB4 HR4 HX4 HA5 HB5 HR5 HX5 HRa HRb a0 a1 a2 b0 b1 b2 z0 z1 z2 x0 x1 x2 k0 k1 k2 HG5 HS4 HS5 HZ
  have HA7 : Veil _ := ⟨HA6.out.turned HG6.out HJ6.out.x (by have := HO.out; omega)⟩
  have HB7 : Veil _ := ⟨HB6.out.turned HG6.out HJ6.out.x (by have := HO.out; omega)⟩
  refine region_new [.is (.pointer (some ⟨G, 0, none⟩)), .is (.slice none 0 0), .is (.pointer (some ⟨GA, 0, none⟩)), .is (.slice a.pp A.ps.length a.cp), .gen (fun v W => ∃ p c, v = .slice p A.ps.length c ∧ OwnE elP W W6.heap.size (.slice p A.ps.length c) A.ps) (fun v W W' hb ⟨p, c, h1, h2⟩ => ⟨p, c, h1, h2.below hb⟩), .is (.pointer (some ⟨GB, 0, none⟩)), .is (.slice b.pp B.ps.length b.cp)]
    [[], [(0, 34)], [], [(2, 36)], [(1, 35), (3, 37)], [], [(5, 39)]]
    [[], [0], [], [2], [1, 3], [], [5]]
    [(0, 34), (1, 35), (2, 36), (3, 37), (4, 38), (5, 39), (6, 40)] rfl (by kernel_rfl) ⟨?_, ?_, ?_, ?_, ?_, ?_, ?_, trivial⟩ ?_
  · intro vals W hB _
    dsimp only [putsL, slotOf]
    go_wp2
    exact ⟨rfl, Below.refl _ _, rfl⟩
  · intro vals W hB ⟨h0, _⟩
    have h0 : vals 0 = _ := h0
    have c1 := (HJ6.out.below hB).cells.1.1
    dsimp only [putsL, slotOf]
    rw [h0]
    go_wp2
    exact ⟨rfl, Below.refl _ _, rfl⟩
  · intro vals W hB _
    dsimp only [putsL, slotOf]
    go_wp2
    exact ⟨rfl, Below.refl _ _, rfl⟩
  · intro vals W hB ⟨h2, _⟩
    have h2 : vals 2 = _ := h2
    obtain ⟨a0, a1, a2⟩ := (HA7.out.below hB).cells
    dsimp only [putsL, slotOf]
    rw [h2]
    go_wp2
    exact ⟨rfl, Below.refl _ _, rfl⟩
  · intro vals W hB ⟨h1, h3, _⟩
    have h1 : vals 1 = _ := h1
    have h3 : vals 3 = _ := h3
    dsimp only [putsL, slotOf]
    rw [h1, h3]
    go_wp2_with ((at_builtin; refine wpList_append_els elP rfl (.tmp 35) (.tmp 37) rfl W6.heap.size (.slice none 0 0) [] A.ps rfl (OwnE.nil _ _ _) a.pp a.cp rfl (HA7.out.below hB).s.p (by have := HL.out; simp only [List.length_nil]; omega) hB.size ?_; intro v' w4 hown hgrow hv; have hb4 := grown_none hgrow; rw [List.nil_append] at hown; obtain ⟨p4, c4, rfl, -, -, -⟩ := hown.fit))
    exact ⟨rfl, hb4, ⟨p4, c4, rfl, hown⟩⟩
  · intro vals W hB _
    dsimp only [putsL, slotOf]
    go_wp2
    exact ⟨rfl, Below.refl _ _, rfl⟩
  · intro vals W hB ⟨h5, _⟩
    have h5 : vals 5 = _ := h5
    obtain ⟨b0, b1, b2⟩ := (HB7.out.below hB).cells
    dsimp only [putsL, slotOf]
    rw [h5]
    go_wp2
    exact ⟨rfl, Below.refl _ _, rfl⟩
  rintro vals u7 hB ⟨q0, q1, q2, q3, ⟨pu4, cu4, q4, hz4⟩, q5, q6, -⟩
  have h0 : vals 0 = _ := q0
  have h1 : vals 1 = _ := q1
  have h2 : vals 2 = _ := q2
  have h3 : vals 3 = _ := q3
  have h4 : vals 4 = _ := q4
  have h5 : vals 5 = _ := q5
  have h6 : vals 6 = _ := q6
  dsimp only [putsL]
  rw [h0, h1, h2, h3, h4, h5, h6]
  clear h0 q0 h1 q1 h2 q2 h3 q3 h4 q4 h5 q5 h6 q6
  simp only [List.length_cons, List.length_nil, Nat.reduceAdd, List.drop_succ_cons, List.drop_zero, List.setIfInBounds_toArray, List.set_cons_succ, List.set_cons_zero]
  go_wp2_with ((at_builtin; refine wpList_append_els elP rfl (.tmp 38) (.tmp 40) rfl W6.heap.size (.slice pu4 A.ps.length cu4) (A.ps) B.ps rfl hz4 b.pp b.cp rfl (HB7.out.below hB).s.p (by have := HL.out; (try simp only [List.length_append, List.length_cons, List.length_nil]); omega) hB.size ?_; intro v' w7 hown7 hgrow7 hv7; have HOG7 : Veil _ := ⟨(HJ6.out.lay hB (fun j hj => (hz4.lt hj).1) hgrow7 0 undef).1⟩; obtain ⟨p7, c7, e7, -, -⟩ := hown7.fit; generalize hl7 : List.length _ = l7 at e7; subst e7; obtain ⟨⟨y0, y1, y2⟩, g0, g1, g2⟩ := box3 HOG7.out; obtain ⟨W7, hW7⟩ : ∃ W7, w7.setCell ⟨G, 0, none⟩ (.slice p7 l7 c7) = W7 := ⟨_, rfl⟩; have HJ7 : Veil (BldT W6 G ⟨A.ps ++ B.ps, [], []⟩ (.slice p7 l7 c7) (.slice none 0 0) (.slice none 0 0) W7) := ⟨by rw [← hW7]; exact HJ6.out.layP hB hz4 hgrow7 hown7⟩; clear y1 g1 y2 g2 hv7 hown7 hgrow7 hl7; have HA7c : Veil _ := ⟨HA6.out.turned HG6.out HJ7.out.x (by have := HO.out; omega)⟩; obtain ⟨a0, a1, a2⟩ := HA7c.out.cells))
  clear hW7 HOG7 y0 g0
  clear hz4 hB
  clear a0 a1 a2
  have HA8 : Veil _ := ⟨HA6.out.turned HG6.out HJ7.out.x (by have := HO.out; omega)⟩
  have HB8 : Veil _ := ⟨HB6.out.turned HG6.out HJ7.out.x (by have := HO.out; omega)⟩
  refine region_kill 10 [[], [(0, 47)], [], [(2, 49)], [(1, 48), (3, 50)], [], [(5, 52)], [(4, 51), (6, 53)], [], [(8, 55)]]
    [[], [0], [], [2], [1, 3], [], [5], [4, 6], [], [8]]
    [(0, 47), (1, 48), (2, 49), (3, 50), (4, 51), (5, 52), (6, 53), (7, 54), (8, 55), (9, 56)]
    (fun i W W' => if i = 7 then Below W7.heap.size W7 W' else Below W.heap.size W W') (fun W => Below W7.heap.size W7 W)
    (fun j v W => match j with
      | 0 => v = .pointer (some ⟨G, 1, none⟩)
      | 1 => v = .slice none 0 0
      | 2 => v = .pointer (some ⟨GA, 1, none⟩)
      | 3 => v = .slice a.pk A.ks.length a.ck
      | 4 => ∃ p c, v = .slice p A.ks.length c ∧ OwnE elK W W7.heap.size (.slice p A.ks.length c) A.ks
      | 5 => v = .string ⟨key.toArray⟩
      | 6 => ∃ g, v = .slice (some ⟨g, 0, none⟩) 1 1 ∧ W.heap[g]? = some (.cells #[.string ⟨key.toArray⟩] 9 (0, 0))
      | 7 => ∃ p c, v = .slice p (A.ks ++ [key]).length c ∧ OwnE elK W W7.heap.size (.slice p (A.ks ++ [key]).length c) (A.ks ++ [key])
      | 8 => v = .pointer (some ⟨GB, 1, none⟩)
      | 9 => v = .slice b.pk B.ks.length b.ck
      | _ => True)
    (fun i j => i == 7 && (j == 4 || j == 6)) (killOk (by decide)) rfl (by kernel_rfl) _ rfl ?_ ?_ (Below.refl _ _).drew ⟨?_, ?_, ?_, ?_, ?_, ?_, ?_, ?_, ?_, ?_, trivial⟩ ?_
  · intro i W W' hI hR
    try dsimp only at hI hR ⊢
    by_cases hi : i = 7
    · rwa [if_pos hi] at hR
    · rw [if_neg hi] at hR
      exact hI.trans (hR.mono hI.size)
  · intro i j v W W' hI hR hij hk hF
    try dsimp only at hI hR hk hF ⊢
    by_cases hi : i = 7
    · subst hi
      match j, hF, hk, hij with
      | 0, hF, _, _ => exact hF
      | 1, hF, _, _ => exact hF
      | 2, hF, _, _ => exact hF
      | 3, hF, _, _ => exact hF
      | 4, _, hk, _ => cases hk
      | 5, hF, _, _ => exact hF
      | 6, _, hk, _ => cases hk
      | 7, _, _, hij => exact absurd rfl hij
      | 8, hF, _, _ => exact hF
      | 9, hF, _, _ => exact hF
      | _ + 10, _, _, _ => exact trivial
    · rw [if_neg hi] at hR
      match j, hF with
      | 0, hF => exact hF
      | 1, hF => exact hF
      | 2, hF => exact hF
      | 3, hF => exact hF
      | 4, ⟨p, c, h1, h2⟩ => exact ⟨p, c, h1, h2.below hR⟩
      | 5, hF => exact hF
      | 6, ⟨g, h1, h2⟩ => exact ⟨g, h1, (hR.block _ (lt_of_heap h2)).trans h2⟩
      | 7, ⟨p, c, h1, h2⟩ => exact ⟨p, c, h1, h2.below hR⟩
      | 8, hF => exact hF
      | 9, hF => exact hF
      | _ + 10, _ => exact trivial
  · intro vals W hB _
    have hB : Below W7.heap.size W7 W := hB
    dsimp only [putsL, slotOf]
    go_wp2
    exact ⟨rfl, Below.refl _ _, rfl⟩
  · intro vals W hB ⟨h0, _⟩
    have hB : Below W7.heap.size W7 W := hB
    have h0 : vals 0 = _ := h0
    have c1 := (HJ7.out.below hB).cells.1.2.1
    dsimp only [putsL, slotOf]
    rw [h0]
    go_wp2
    exact ⟨rfl, Below.refl _ _, rfl⟩
  · intro vals W hB _
    have hB : Below W7.heap.size W7 W := hB
    dsimp only [putsL, slotOf]
    go_wp2
    exact ⟨rfl, Below.refl _ _, rfl⟩
  · intro vals W hB ⟨h2, _⟩
    have hB : Below W7.heap.size W7 W := hB
    have h2 : vals 2 = _ := h2
    obtain ⟨a0, a1, a2⟩ := (HA8.out.below hB).cells
    dsimp only [putsL, slotOf]
    rw [h2]
    go_wp2
    exact ⟨rfl, Below.refl _ _, rfl⟩
  · intro vals W hB ⟨h1, h3, _⟩
    have hB : Below W7.heap.size W7 W := hB
    have h1 : vals 1 = _ := h1
    have h3 : vals 3 = _ := h3
    dsimp only [putsL, slotOf]
    rw [h1, h3]
    go_wp2_with ((at_builtin; refine wpList_append_els elK rfl (.tmp 48) (.tmp 50) rfl W7.heap.size (.slice none 0 0) [] A.ks rfl (OwnE.nil _ _ _) a.pk a.ck rfl (HA8.out.below hB).s.k (by have := HL.out; simp only [List.length_nil]; omega) hB.size ?_; intro v' w4 hown hgrow hv; have hb4 := grown_none hgrow; rw [List.nil_append] at hown; obtain ⟨p4, c4, rfl, -, -, -⟩ := hown.fit))
    exact ⟨rfl, hb4, ⟨p4, c4, rfl, hown⟩⟩
  · intro vals W hB _
    have hB : Below W7.heap.size W7 W := hB
    dsimp only [putsL, slotOf]
    go_wp2
    exact ⟨rfl, Below.refl _ _, rfl⟩
  · intro vals W hB ⟨h5, _⟩
    have hB : Below W7.heap.size W7 W := hB
    have h5 : vals 5 = _ := h5
    dsimp only [putsL, slotOf]
    rw [h5]
    go_wp2
    exact ⟨rfl, below_al (Below.refl _ _) _, ⟨_, rfl, heap_alloc_new _ _⟩⟩
  · intro vals W hB ⟨h4, h6, _⟩
    have hB : Below W7.heap.size W7 W := hB
    obtain ⟨p4, c4, h4, ho4⟩ := h4
    obtain ⟨g6, h6, hg6⟩ := h6
    dsimp only [putsL, slotOf]
    rw [h4, h6]
    go_wp2_with ((at_builtin; refine wpList_append_el elK rfl (.tmp 51) (.tmp 53) rfl W7.heap.size (.slice p4 A.ks.length c4) A.ks key rfl ho4 g6 rfl hg6 (by have := HL.out; omega) hB.size ?_; intro v' w4 hown hgrow hv; have hb4 := ownE_grown hB (Nat.le_refl _) ho4 hgrow; obtain ⟨p5, c5, rfl, -, -, -⟩ := hown.fit))
    exact ⟨rfl, hb4, ⟨p5, c5, rfl, (by first | exact hown | simpa using hown)⟩⟩
  · intro vals W hB _
    have hB : Below W7.heap.size W7 W := hB
    dsimp only [putsL, slotOf]
    go_wp2
    exact ⟨rfl, Below.refl _ _, rfl⟩
  · intro vals W hB ⟨h8, _⟩
    have hB : Below W7.heap.size W7 W := hB
    have h8 : vals 8 = _ := h8
    obtain ⟨b0, b1, b2⟩ := (HB8.out.below hB).cells
    dsimp only [putsL, slotOf]
    rw [h8]
    go_wp2
    exact ⟨rfl, Below.refl _ _, rfl⟩
  intro vals u8 hB hF
  have hB : Below W7.heap.size W7 u8 := hB
  have h0 : vals 0 = _ := hF 0 (by decide) (by decide)
  have h1 : vals 1 = _ := hF 1 (by decide) (by decide)
  have h2 : vals 2 = _ := hF 2 (by decide) (by decide)
  have h3 : vals 3 = _ := hF 3 (by decide) (by decide)
  have h5 : vals 5 = _ := hF 5 (by decide) (by decide)
  have h8 : vals 8 = _ := hF 8 (by decide) (by decide)
  have h9 : vals 9 = _ := hF 9 (by decide) (by decide)
  obtain ⟨pu7, cu7, h7, hz7⟩ := hF 7 (by decide) (by decide)
  clear hF
  obtain ⟨x4, h4⟩ : ∃ x, vals 4 = x := ⟨_, rfl⟩
  obtain ⟨x6, h6⟩ : ∃ x, vals 6 = x := ⟨_, rfl⟩
  dsimp only [putsL]
  rw [h0, h1, h2, h3, h4, h5, h6, h7, h8, h9]
  clear h0 h1 h2 h3 h4 h5 h6 h7 h8 h9
  simp only [List.drop_succ_cons, List.drop_zero, List.setIfInBounds_toArray, List.set_cons_succ, List.set_cons_zero]
  go_wp2_with ((at_builtin; refine wpList_append_els elK rfl (.tmp 54) (.tmp 56) rfl W7.heap.size (.slice pu7 (A.ks ++ [key]).length cu7) (A.ks ++ [key]) B.ks rfl hz7 b.pk b.ck rfl (HB8.out.below hB).s.k (by have := HL.out; (try simp only [List.length_append, List.length_cons, List.length_nil]); omega) hB.size ?_; intro v' w8 hown8 hgrow8 hv8; have HOG8 : Veil _ := ⟨(HJ7.out.lay hB (fun j hj => (hz7.lt hj).1) hgrow8 0 undef).1⟩; obtain ⟨p8, c8, e8, -, -⟩ := hown8.fit; generalize hl8 : List.length _ = l8 at e8; subst e8; obtain ⟨⟨y0, y1, y2⟩, g0, g1, g2⟩ := box3 HOG8.out; obtain ⟨W8, hW8⟩ : ∃ W8, w8.setCell ⟨G, 1, none⟩ (.slice p8 l8 c8) = W8 := ⟨_, rfl⟩; have HJ8 : Veil (BldT W6 G ⟨A.ps ++ B.ps, A.ks ++ [key] ++ B.ks, []⟩ (.slice p7 l7 c7) (.slice p8 l8 c8) (.slice none 0 0) W8) := ⟨by rw [← hW8]; exact HJ7.out.layK hB hz7 hgrow8 hown8⟩; clear y0 g0 y2 g2 hv8 hown8 hgrow8 hl8))
  clear hW8 HOG8 y1 g1
  clear hz7 hB
  have HA9 : Veil _ := ⟨HA6.out.turned HG6.out HJ8.out.x (by have := HO.out; omega)⟩
  have HB9 : Veil _ := ⟨HB6.out.turned HG6.out HJ8.out.x (by have := HO.out; omega)⟩
  refine region_new [.is (.pointer (some ⟨G, 2, none⟩)), .is (.slice none 0 0), .is (.pointer (some ⟨GA, 2, none⟩)), .is (.slice a.pd A.ds.length a.cd), .gen (fun v W => ∃ p c, v = .slice p A.ds.length c ∧ OwnE elD W W8.heap.size (.slice p A.ds.length c) A.ds) (fun v W W' hb ⟨p, c, h1, h2⟩ => ⟨p, c, h1, h2.below hb⟩), .is (.pointer (some ⟨GB, 2, none⟩)), .is (.slice b.pd B.ds.length b.cd)]
    [[], [(0, 59)], [], [(2, 61)], [(1, 60), (3, 62)], [], [(5, 64)]]
    [[], [0], [], [2], [1, 3], [], [5]]
    [(0, 59), (1, 60), (2, 61), (3, 62), (4, 63), (5, 64), (6, 65)] rfl (by kernel_rfl) ⟨?_, ?_, ?_, ?_, ?_, ?_, ?_, trivial⟩ ?_
  · intro vals W hB _
    dsimp only [putsL, slotOf]
    go_wp2
    exact ⟨rfl, Below.refl _ _, rfl⟩
  · intro vals W hB ⟨h0, _⟩
    have h0 : vals 0 = _ := h0
    have c1 := (HJ8.out.below hB).cells.1.2.2
    dsimp only [putsL, slotOf]
    rw [h0]
    go_wp2
    exact ⟨rfl, Below.refl _ _, rfl⟩
  · intro vals W hB _
    dsimp only [putsL, slotOf]
    go_wp2
    exact ⟨rfl, Below.refl _ _, rfl⟩
  · intro vals W hB ⟨h2, _⟩
    have h2 : vals 2 = _ := h2
    obtain ⟨a0, a1, a2⟩ := (HA9.out.below hB).cells
    dsimp only [putsL, slotOf]
    rw [h2]
    go_wp2
    exact ⟨rfl, Below.refl _ _, rfl⟩
  · intro vals W hB ⟨h1, h3, _⟩
    have h1 : vals 1 = _ := h1
    have h3 : vals 3 = _ := h3
    dsimp only [putsL, slotOf]
    rw [h1, h3]
    go_wp2_with ((at_builtin; refine wpList_append_els elD rfl (.tmp 60) (.tmp 62) rfl W8.heap.size (.slice none 0 0) [] A.ds rfl (OwnE.nil _ _ _) a.pd a.cd rfl (HA9.out.below hB).s.d (by have := HL.out; simp only [List.length_nil]; omega) hB.size ?_; intro v' w4 hown hgrow hv; have hb4 := grown_none hgrow; rw [List.nil_append] at hown; obtain ⟨p4, c4, rfl, -, -, -⟩ := hown.fit))
    exact ⟨rfl, hb4, ⟨p4, c4, rfl, hown⟩⟩
  · intro vals W hB _
    dsimp only [putsL, slotOf]
    go_wp2
    exact ⟨rfl, Below.refl _ _, rfl⟩
  · intro vals W hB ⟨h5, _⟩
    have h5 : vals 5 = _ := h5
    obtain ⟨b0, b1, b2⟩ := (HB9.out.below hB).cells
    dsimp only [putsL, slotOf]
    rw [h5]
    go_wp2
    exact ⟨rfl, Below.refl _ _, rfl⟩
  rintro vals u9 hB ⟨q0, q1, q2, q3, ⟨pu4, cu4, q4, hz4⟩, q5, q6, -⟩
  have h0 : vals 0 = _ := q0
  have h1 : vals 1 = _ := q1
  have h2 : vals 2 = _ := q2
  have h3 : vals 3 = _ := q3
  have h4 : vals 4 = _ := q4
  have h5 : vals 5 = _ := q5
  have h6 : vals 6 = _ := q6
  dsimp only [putsL]
  rw [h0, h1, h2, h3, h4, h5, h6]
  clear h0 q0 h1 q1 h2 q2 h3 q3 h4 q4 h5 q5 h6 q6
  simp only [List.length_cons, List.length_nil, Nat.reduceAdd, List.drop_succ_cons, List.drop_zero, List.setIfInBounds_toArray, List.set_cons_succ, List.set_cons_zero]
  go_wp2_with (first
    | (go_at_call 22; (with_reducible refine (HRx.out _ _ HN7.out.s).mono ?_); rintro e w8 ⟨rfl, hb8⟩; have HR8 : Veil _ := ⟨(hb8.block _ (lt_of_heap HR7.out)).trans HR7.out⟩; have HX8 : Veil _ := ⟨bn_then HX7.out hb8⟩; clear hb8 x0 x1 x2; obtain ⟨⟨x0, x1, x2⟩, k0, k1, k2⟩ := box3 HR8.out)
    | (at_builtin; refine wpList_append_els elD rfl (.tmp 63) (.tmp 65) rfl W8.heap.size (.slice pu4 A.ds.length cu4) (A.ds) B.ds rfl hz4 b.pd b.cd rfl (HB9.out.below hB).s.d (by have := HL.out; (try simp only [List.length_append, List.length_cons, List.length_nil]); omega) hB.size ?_; intro v' w9 hown9 hgrow9 hv9; have HOG9 : Veil _ := ⟨(HJ8.out.lay hB (fun j hj => (hz4.lt hj).1) hgrow9 0 undef).1⟩; obtain ⟨p9, c9, e9, -, -⟩ := hown9.fit; generalize hl9 : List.length _ = l9 at e9; subst e9; obtain ⟨⟨y0, y1, y2⟩, g0, g1, g2⟩ := box3 HOG9.out; obtain ⟨W9, hW9⟩ : ∃ W9, w9.setCell ⟨G, 2, none⟩ (.slice p9 l9 c9) = W9 := ⟨_, rfl⟩; have HJ9 : Veil (BldT W6 G ⟨A.ps ++ B.ps, A.ks ++ [key] ++ B.ks, A.ds ++ B.ds⟩ (.slice p7 l7 c7) (.slice p8 l8 c8) (.slice p9 l9 c9) W9) := ⟨by rw [← hW9]; exact HJ8.out.layD hB hz4 hgrow9 hown9⟩; clear y0 g0 y1 g1 hv9 hown9 hgrow9 hl9; obtain ⟨ax, -, -, -, hn, -⟩ := HJ9.out.nbox; rw [HXx.out] at hn; have HN7 : Veil (NBox W9 G x ax) := ⟨hn⟩; have HR7 : Veil _ := ⟨HJ9.out.x.heap HR6.out (show R ≠ G by have := HO.out; omega)⟩; have HX7 : Veil _ := ⟨HX6.out.trans (HJ9.out.x.toBelow HX6.out.size (fun k _ e => by have := HO.out; have := HW.out; omega))⟩; clear hn; obtain ⟨x0, x1, x2⟩ := HN7.out.cells))
  clear hW9 HOG9 y2 g2
  clear hz4 hB
  have hU := (((Turned.refl (· = R) w8).setCell (p := ⟨R, 0, none⟩) rfl (.slice none 0 0)).setCell (p := ⟨R, 1, none⟩) rfl (.slice none 0 0)).setCell (p := ⟨R, 2, none⟩) rfl (.slice none 0 0)
  have hz := HO.out
  have hz2 := HW.out
  exact bodyPost_ret (results_node2 (g := R) (y := .int .i64 60) rfl rfl rfl (heap_setCell_at (heap_setCell_at (heap_setCell_at HR8.out 0 _) 1 _) 2 _)) rfl ⟨⟨none, 0, none, 0, none, 0⟩, rfl, ⟨Els.nil _ _, Els.nil _ _, Els.nil _ _⟩, HX8.out.trans (hU.toBelow HX8.out.size (fun k _ e => by omega))⟩

end Go.Proofs.Ytalnmaoidaldhaa

/- Join, the program's and the document's own: one answer. -/
namespace Go.Proofs.Ytalnmaoidaldhaa
open Go Go.RowKit Sm

theorem joinGo_no {A B : Nd} (h : joinGo A B = false) : A.kd = 0 ∨ A.kd ≠ B.kd := by
  unfold joinGo at h
  unfold Nd.kd Nd.kind
  revert h
  cases A.right
  · exact fun _ => .inl rfl
  · cases B.right
    · intro _
      refine .inr ?_
      by_cases h1 : A.ds.length = 0
      · simp [h1]
      · simp [h1]
    · by_cases h1 : A.ds.length = 0
      · by_cases h2 : B.ds.length = 0
        · exact fun hgo => absurd hgo (by rw [decide_eq_true h1, decide_eq_true h2]; decide)
        · intro _; right; simp [h1, h2]
      · by_cases h2 : B.ds.length = 0
        · intro _; right; simp [h1, h2]
        · exact fun hgo => absurd hgo (by rw [decide_eq_false h1, decide_eq_false h2]; decide)
theorem joinGo_yes {A B : Nd} (h : joinGo A B = true) : A.right = true ∧ B.right = true ∧ ((A.ds.length = 0 ∧ B.ds.length = 0) ∨ (A.ds.length ≠ 0 ∧ B.ds.length ≠ 0)) := by
  unfold joinGo at h
  simp only [Bool.and_eq_true] at h
  obtain ⟨h1, h2, h3⟩ := h
  refine ⟨h1, h2, ?_⟩
  by_cases h4 : A.ds.length = 0
  · by_cases h5 : B.ds.length = 0
    · exact .inl ⟨h4, h5⟩
    · rw [decide_eq_true h4, decide_eq_false h5] at h3; cases h3
  · by_cases h5 : B.ds.length = 0
    · rw [decide_eq_false h4, decide_eq_true h5] at h3; cases h3
    · exact .inr ⟨h4, h5⟩
theorem joinM_ok {A B : Nd} (ha : A.Ok) (hb : B.Ok) {key : List UInt8} (hkey : key.length ≤ 1000000) (HL : A.ps.length + B.ps.length ≤ 100000 ∧ A.ks.length + B.ks.length + 1 ≤ 100000 ∧ A.ds.length + B.ds.length ≤ 100000) : (A.joinM key B).Ok := by
  unfold Nd.joinM
  have hp : ∀ x ∈ A.ps ++ B.ps, x.k.length ≤ 1000000 ∧ x.v.length ≤ 1000000 := fun x hx => by
    rcases List.mem_append.1 hx with h | h
    · exact ha.pt x h
    · exact hb.pt x h
  split
  · exact ⟨by simp only [List.length_append]; omega, Nat.zero_le _, Nat.zero_le _, hp, fun x hx => by simp at hx, fun x hx => by simp at hx⟩
  · refine ⟨by simp only [List.length_append]; omega, by simp only [List.length_append, List.length_cons, List.length_nil]; omega, by simp only [List.length_append]; omega, hp, fun x hx => ?_, fun x hx => ?_⟩
    · simp only [List.mem_append, List.mem_singleton] at hx
      rcases hx with (h | h) | h
      · exact ha.kt x h
      · rw [h]; exact hkey
      · exact hb.kt x h
    · rcases List.mem_append.1 hx with h | h
      · exact ha.dt x h
      · exact hb.dt x h
theorem joinR_no {A B : Nd} {key : List UInt8} (h : joinGo A B = false) : A.joinR key B = (Nd.zero, 60) := by rw [Nd.joinR, h]; rfl
theorem joinR_yes {A B : Nd} {key : List UInt8} (h : joinGo A B = true) : A.joinR key B = if (A.joinM key B).right = true then (A.joinM key B, 0) else (Nd.zero, 60) := by rw [Nd.joinR, h, Bool.true_and]
theorem joinR_pair {x : Nd} {r : Bool} (h : x.right = r) : (if x.right = true then (x, (0 : Int)) else (Nd.zero, 60)) = (if r = true then x else Nd.zero, if r = true then 0 else 60) := by
  rw [h]; cases r <;> rfl
theorem njoin_of {w : World} {A B : Nd} {a b : NdP} (h : NdAt w A a) (h' : NdAt w B b) (ha : Veil A.Ok) (hb : Veil B.Ok) (key : List UInt8) (hkey : key.length ≤ 1000000) (HL : Veil (A.ps.length + B.ps.length ≤ 100000 ∧ A.ks.length + B.ks.length + 1 ≤ 100000 ∧ A.ds.length + B.ds.length ≤ 100000)) :
    Calls Try.prog 8 #[A.v a, .string ⟨key.toArray⟩, B.v b] w (JoinPost w (A.joinR key B).1 (A.joinR key B).2) := by
  have hxo := joinM_ok ha.out hb.out hkey HL.out
  cases hgo : joinGo A B with
  | false => rw [joinR_no hgo]; exact join_bad h h' ha hb key (joinGo_no hgo)
  | true =>
    obtain ⟨h1, h2, h3⟩ := joinGo_yes hgo
    rw [joinR_yes hgo, joinR_pair rfl]
    rcases h3 with ⟨h3, h4⟩ | ⟨h3, h4⟩
    · have e : A.joinM key B = ⟨A.ps ++ B.ps, [], A.ds ++ B.ds⟩ := by
        rw [Nd.joinM, if_pos h3, List.eq_nil_of_length_eq_zero h3, List.eq_nil_of_length_eq_zero h4]; rfl
      rw [e] at hxo ⊢
      exact join_leaf h h' ha hb key (by rw [Nd.kd, if_pos h1, Nd.kind, if_pos h3]) (by rw [Nd.kd, if_pos h2, Nd.kind, if_pos h4]) _ rfl ⟨hxo⟩
    · have e : A.joinM key B = ⟨A.ps ++ B.ps, A.ks ++ [key] ++ B.ks, A.ds ++ B.ds⟩ := by rw [Nd.joinM, if_neg h3]
      rw [e] at hxo ⊢
      exact join_branch h h' ha hb key (by rw [Nd.kd, if_pos h1, Nd.kind, if_neg h3]) (by rw [Nd.kd, if_pos h2, Nd.kind, if_neg h4]) hkey _ rfl ⟨hxo⟩
theorem refjoin_of {w : World} {A B : Nd} {a b : NdP} (h : NdAt w A a) (h' : NdAt w B b) (ha : Veil A.Ok) (hb : Veil B.Ok) (key : List UInt8) (hkey : key.length ≤ 1000000) (HL : Veil (A.ps.length + B.ps.length ≤ 100000 ∧ A.ks.length + B.ks.length + 1 ≤ 100000 ∧ A.ds.length + B.ds.length ≤ 100000)) :
    Calls Try.prog 10 #[A.v a, .string ⟨key.toArray⟩, B.v b] w (JoinPost w (A.joinR key B).1 (A.joinR key B).2) := by
  have hxo := joinM_ok ha.out hb.out hkey HL.out
  cases hgo : joinGo A B with
  | false => rw [joinR_no hgo]; exact refjoin_bad h h' ha hb key HL hgo
  | true =>
    obtain ⟨h1, h2, h3⟩ := joinGo_yes hgo
    rw [joinR_yes hgo]
    rcases h3 with ⟨h3, h4⟩ | ⟨h3, h4⟩
    · have e : A.joinM key B = ⟨A.ps ++ B.ps, [], []⟩ := by rw [Nd.joinM, if_pos h3]
      rw [e] at hxo ⊢
      split
      · rename_i hr
        exact refjoin_leafT h h' ha hb key HL h1 h2 (by omega) (by omega) hr ⟨hxo⟩
      · rename_i hr
        exact refjoin_leafF h h' ha hb key HL h1 h2 (by omega) (by omega) (by simpa using hr) ⟨hxo⟩
    · have e : A.joinM key B = ⟨A.ps ++ B.ps, A.ks ++ [key] ++ B.ks, A.ds ++ B.ds⟩ := by rw [Nd.joinM, if_neg h3]
      rw [e] at hxo ⊢
      split
      · rename_i hr
        exact refjoin_branchT h h' ha hb key HL h1 h2 (by omega) (by omega) hr ⟨hxo⟩
      · rename_i hr
        exact refjoin_branchF h h' ha hb key HL h1 h2 (by omega) (by omega) (by simpa using hr) ⟨hxo⟩
theorem joinR_ok {A B : Nd} (ha : A.Ok) (hb : B.Ok) {key : List UInt8} (hkey : key.length ≤ 1000000) (HL : A.ps.length + B.ps.length ≤ 100000 ∧ A.ks.length + B.ks.length + 1 ≤ 100000 ∧ A.ds.length + B.ds.length ≤ 100000) : (A.joinR key B).1.Ok := by
  unfold Nd.joinR
  split
  · exact joinM_ok ha hb hkey HL
  · exact ⟨Nat.zero_le _, Nat.zero_le _, Nat.zero_le _, fun x hx => by simp [Nd.zero] at hx, fun x hx => by simp [Nd.zero] at hx, fun x hx => by simp [Nd.zero] at hx⟩
end Go.Proofs.Ytalnmaoidaldhaa

/- The law NodeSplits. -/
namespace Go.Proofs.Ytalnmaoidaldhaa
open Go Go.RowKit Sm
attribute [local go_sem] Oper.semAt_some

/-- What each operation tells: node, text, the other node, the answer, its parts, the box, the box filled. -/
def JoinF (S : World) (un : Nd) (ue v0 v1 v2 v3 : Value) : Nat → Value → Value → World → Prop
  | 0, v, _, _ => v = v0
  | 1, v, _, _ => v = v1
  | 2, v, _, _ => v = v2
  | 3, v, _, _ => v = v3
  | 4, v, _, W => ∃ a, v = .tuple #[.agg #[.slice a.pp un.ps.length a.cp, .slice a.pk un.ks.length a.ck, .slice a.pd un.ds.length a.cd], ue] ∧ NdAt W un a
  | 5, v, _, W => ∃ a, v = .tuple #[.agg #[.slice a.pp un.ps.length a.cp, .slice a.pk un.ks.length a.ck, .slice a.pd un.ds.length a.cd], ue] ∧ NdAt W un a
  | 6, v, _, W => ∃ a, v = .agg #[.slice a.pp un.ps.length a.cp, .slice a.pk un.ks.length a.ck, .slice a.pd un.ds.length a.cd] ∧ NdAt W un a
  | 7, v, _, _ => v = ue
  | 8, v, _, W => ∃ g, S.heap.size ≤ g ∧ v = .pointer (some ⟨g, 0, none⟩) ∧ Box3 W g
  | 9, _, u, W => ∃ g, S.heap.size ≤ g ∧ u = .pointer (some ⟨g, 0, none⟩) ∧ ∃ a, NBox W g un a
  | 10, v, _, _ => v = ue
  | _, _, _, _ => True
theorem JoinF_step {S : World} {un : Nd} {ue v0 v1 v2 v3 : Value} (i : Nat) (v u : Value) (W W' : World) (h : StepN S un W W') (hf : JoinF S un ue v0 v1 v2 v3 i v u W) : JoinF S un ue v0 v1 v2 v3 i v u W' := by
  match i, hf with
  | 0, hf => exact hf
  | 1, hf => exact hf
  | 2, hf => exact hf
  | 3, hf => exact hf
  | 4, ⟨a, h1, h2⟩ => exact ⟨a, h1, h.at h2⟩
  | 5, ⟨a, h1, h2⟩ => exact ⟨a, h1, h.at h2⟩
  | 6, ⟨a, h1, h2⟩ => exact ⟨a, h1, h.at h2⟩
  | 7, hf => exact hf
  | 8, ⟨g, h1, h2, h3⟩ => exact ⟨g, h1, h2, h.box h3⟩
  | 9, ⟨g, h1, h2, a, h3⟩ => exact ⟨g, h1, h2, h.nbox h3⟩
  | 10, hf => exact hf
  | _ + 11, _ => exact trivial
theorem pmJ_ok (i : Nat) : pm9 i = i ∨ pm9 i ∈ List.getD [[], [], [1], [], [0, 2, 3], [4], [5], [5], [], [0, 1, 2, 3, 4, 5, 6, 8], [0, 1, 2, 3, 4, 5, 6, 7, 8, 9]] i [] := by
  by_cases e : i = 9
  · subst e; exact .inr (by decide)
  · exact .inl (if_neg e)

set_option maxRecDepth 20000 in
set_option maxHeartbeats 4000000 in
theorem nodeSplits_any {w : World} {n m : Nd} {na ma : NdP} (h : NdIn w n na) (h' : NdIn w m ma) (key : List UInt8) (hkey : key.length ≤ 9223372036854775807) : Calls Try.prog 3 #[n.v na, m.v ma, .string ⟨key.toArray⟩] w fun e w' => e = .returned (.bool true) ∧ Below w.heap.size w w' := by
  have HC : Veil (∀ W, NdAt W n na → Calls Try.prog 5 #[n.v na] W fun e w' => ∃ v1 v2 v3, e = .returned (.agg #[v1, v2, v3]) ∧ NdOwn w' W.heap.size v1 v2 v3 n.cut ∧ Below W.heap.size W w') := ⟨fun W hW => lawcut_of hW h.f h.p h.k⟩
  have HC' : Veil (∀ W, NdAt W m ma → Calls Try.prog 5 #[m.v ma] W fun e w' => ∃ v1 v2 v3, e = .returned (.agg #[v1, v2, v3]) ∧ NdOwn w' W.heap.size v1 v2 v3 m.cut ∧ Below W.heap.size W w') := ⟨fun W hW => lawcut_of hW h'.f h'.p h'.k⟩
  have hok := h.cut_ok
  have hok' := h'.cut_ok
  have hkt : (key.take 70).length ≤ 1000000 := by simp; omega
  have HTx : Veil (∀ W, Calls Try.prog 9 #[.string ⟨key.toArray⟩] W fun e w' => e = .returned (.string ⟨(key.take 70).toArray⟩) ∧ w' = W) := ⟨fun W => lawtext_any key hkey W⟩
  have hlen : n.cut.ps.length + m.cut.ps.length ≤ 100000 ∧ n.cut.ks.length + m.cut.ks.length + 1 ≤ 100000 ∧ n.cut.ds.length + m.cut.ds.length ≤ 100000 := by
    simp only [Nd.cut, List.length_map, List.length_take]; omega
  obtain ⟨hoa, hob, hokey⟩ := spl_ok hok
  have hou := joinR_ok hok hok' hkt hlen
  have HSp : Veil (∀ W a', NdAt W n.cut a' → NdFit n.cut a' → Calls Try.prog 6 #[n.cut.v a'] W (SplPost W n.cut.splA n.cut.splB n.cut.splK n.cut.splE)) := ⟨fun W a' h hf => split_of h hf ⟨hok⟩⟩
  have HSr : Veil (∀ W a', NdAt W n.cut a' → NdFit n.cut a' → Calls Try.prog 7 #[n.cut.v a'] W (SplPost W n.cut.splA n.cut.splB n.cut.splK n.cut.splE)) := ⟨fun W a' h hf => refsplit_of h hf ⟨hok⟩⟩
  have HJp : Veil (∀ W a' b', NdAt W n.cut a' → NdAt W m.cut b' → Calls Try.prog 8 #[n.cut.v a', .string ⟨(key.take 70).toArray⟩, m.cut.v b'] W (JoinPost W (n.cut.joinR (key.take 70) m.cut).1 (n.cut.joinR (key.take 70) m.cut).2)) := ⟨fun W a' b' h1 h2 => njoin_of h1 h2 ⟨hok⟩ ⟨hok'⟩ _ hkt ⟨hlen⟩⟩
  have HJr : Veil (∀ W a' b', NdAt W n.cut a' → NdAt W m.cut b' → Calls Try.prog 10 #[n.cut.v a', .string ⟨(key.take 70).toArray⟩, m.cut.v b'] W (JoinPost W (n.cut.joinR (key.take 70) m.cut).1 (n.cut.joinR (key.take 70) m.cut).2)) := ⟨fun W a' b' h1 h2 => refjoin_of h1 h2 ⟨hok⟩ ⟨hok'⟩ _ hkt ⟨hlen⟩⟩
  have HSA : Veil (∀ W a c, NdAt W n.cut.splA a → NdAt W n.cut.splA c → Calls Try.prog 11 #[n.cut.splA.v a, n.cut.splA.v c] W fun e w' => e = .returned (.bool true) ∧ Below W.heap.size W w') := ⟨fun W a c h1 h2 => refsame_of h1 h2 ⟨hoa⟩⟩
  have HSB : Veil (∀ W a c, NdAt W n.cut.splB a → NdAt W n.cut.splB c → Calls Try.prog 11 #[n.cut.splB.v a, n.cut.splB.v c] W fun e w' => e = .returned (.bool true) ∧ Below W.heap.size W w') := ⟨fun W a c h1 h2 => refsame_of h1 h2 ⟨hob⟩⟩
  have HSU : Veil (∀ W a c, NdAt W (n.cut.joinR (key.take 70) m.cut).1 a → NdAt W (n.cut.joinR (key.take 70) m.cut).1 c → Calls Try.prog 11 #[(n.cut.joinR (key.take 70) m.cut).1.v a, (n.cut.joinR (key.take 70) m.cut).1.v c] W fun e w' => e = .returned (.bool true) ∧ Below W.heap.size W w') := ⟨fun W a c h1 h2 => refsame_of h1 h2 ⟨hou⟩⟩
  obtain ⟨W0, hW0⟩ : ∃ W0, w.alloc (.cells #[.slice na.pp n.ps.length na.cp, .slice na.pk n.ks.length na.ck, .slice na.pd n.ds.length na.cd] 26) = W0 := ⟨_, rfl⟩
  obtain ⟨W1, hW1⟩ : ∃ W1, W0.alloc (.cells #[.slice ma.pp m.ps.length ma.cp, .slice ma.pk m.ks.length ma.ck, .slice ma.pd m.ds.length ma.cd] 26) = W1 := ⟨_, rfl⟩
  have hb0 : Below w.heap.size w W0 := by rw [← hW0]; exact below_al (Below.refl _ _) _
  have hb1 : Below W0.heap.size W0 W1 := by rw [← hW1]; exact below_al (Below.refl _ _) _
  obtain ⟨GA, hGA⟩ : ∃ g, w.heap.size = g := ⟨_, rfl⟩
  obtain ⟨GB, hGB⟩ : ∃ g, W0.heap.size = g := ⟨_, rfl⟩
  have HN : Veil (NBox W1 GA n na) := ⟨by have := NBox.new h.s; rw [hW0, hGA] at this; exact this.below hb1⟩
  have HM : Veil (NBox W1 GB m ma) := ⟨by have := NBox.new (h'.s.below hb0); rwa [hW1, hGB] at this⟩
  have HX : Veil (Below w.heap.size w W1) := ⟨bn_then hb0 hb1⟩
  have HO : Veil (w.heap.size = GA ∧ GA < GB) := ⟨hGA, by rw [← hGA, ← hGB, ← hW0]; simp⟩
  clear h h' hok hok' hoa hob hokey hou hlen hkt hkey hb0 hb1
  revert HSU; revert HSB; revert HSA; revert HJr; revert HJp; revert HSr; revert HSp; revert HTx; revert HC'; revert HC
  generalize n.cut.joinR (key.take 70) m.cut = un0
  obtain ⟨un, ue⟩ := un0
  generalize n.cut.splA = A
  generalize n.cut.splB = B
  generalize n.cut.splK = sk
  generalize n.cut.splE = se
  generalize hn' : n.cut = n'
  generalize hm' : m.cut = m'
  generalize key.take 70 = key'
  dsimp only
  intro HC HC' HTx HSp HSr HJp HJr HSA HSB HSU
  clear hn' hm'
  unfold SplPost at HSp HSr
  unfold JoinPost at HJp HJr
  obtain ⟨b0, b1, b2⟩ := HN.out.cells
  obtain ⟨c0, c1, c2⟩ := HM.out.cells
  unfold Nd.v at *
  go_enter Try.func3, Try.ntmps3
  go_wp2_with (first
    | (go_at_call 7; refine (HSr.out _ _ HN.out.s HF3.out).mono ?_; rintro e w6 ⟨x, y, rfl, hx, hy, fx, fy, hb⟩; obtain ⟨u1, u2, u3, u4, hu1, hu2, hu3, hu4, hz1, hz2, HU⟩ := two_box w6 (.slice x.pp A.ps.length x.cp) (.slice x.pk A.ks.length x.ck) (.slice x.pd A.ds.length x.cd) (.slice y.pp B.ps.length y.cp) (.slice y.pk B.ks.length y.ck) (.slice y.pd B.ds.length y.cd); obtain ⟨⟨i0, i1, i2⟩, j0, j1, j2⟩ := box3 hz1; obtain ⟨⟨p0, p1, p2⟩, q0, q1, q2⟩ := box3 hz2; replace HPx : Veil _ := ⟨(HPx.out.below hb).below HU.out.2.2.1⟩; replace HPy : Veil _ := ⟨(HPy.out.below hb).below HU.out.2.2.1⟩; replace HN : Veil _ := ⟨(HN.out.below hb).below HU.out.2.2.1⟩; replace HM : Veil _ := ⟨(HM.out.below hb).below HU.out.2.2.1⟩; replace HX : Veil _ := ⟨bn_then (bn_then HX.out hb) HU.out.2.2.1⟩; have HQx : Veil (NBox u4 w6.heap.size A x) := ⟨⟨HU.out.1, hx.below HU.out.2.2.1⟩⟩; have HQy : Veil (NBox u4 u1.heap.size B y) := ⟨⟨HU.out.2.1, hy.below HU.out.2.2.1⟩⟩; clear hb hx hy fx fy hz1 hz2 b0 b1 b2 c0 c1 c2; obtain ⟨b0, b1, b2⟩ := HN.out.cells; obtain ⟨c0, c1, c2⟩ := HM.out.cells; obtain ⟨w6z, hwz⟩ : ∃ z, u4 = z := ⟨_, rfl⟩; clear hwz)
    | (go_at_call 6; refine (HSp.out _ _ HN.out.s HF3.out).mono ?_; rintro e w5 ⟨x, y, rfl, hx, hy, fx, fy, hb⟩; obtain ⟨u1, u2, u3, u4, hu1, hu2, hu3, hu4, hz1, hz2, HU⟩ := two_box w5 (.slice x.pp A.ps.length x.cp) (.slice x.pk A.ks.length x.ck) (.slice x.pd A.ds.length x.cd) (.slice y.pp B.ps.length y.cp) (.slice y.pk B.ks.length y.ck) (.slice y.pd B.ds.length y.cd); obtain ⟨⟨i0, i1, i2⟩, j0, j1, j2⟩ := box3 hz1; obtain ⟨⟨p0, p1, p2⟩, q0, q1, q2⟩ := box3 hz2; replace HN : Veil _ := ⟨(HN.out.below hb).below HU.out.2.2.1⟩; replace HM : Veil _ := ⟨(HM.out.below hb).below HU.out.2.2.1⟩; replace HX : Veil _ := ⟨bn_then (bn_then HX.out hb) HU.out.2.2.1⟩; have HPx : Veil (NBox u4 w5.heap.size A x) := ⟨⟨HU.out.1, hx.below HU.out.2.2.1⟩⟩; have HPy : Veil (NBox u4 u1.heap.size B y) := ⟨⟨HU.out.2.1, hy.below HU.out.2.2.1⟩⟩; clear hb hx hy fx fy hz1 hz2 b0 b1 b2 c0 c1 c2; obtain ⟨b0, b1, b2⟩ := HN.out.cells; obtain ⟨c0, c1, c2⟩ := HM.out.cells; obtain ⟨w5z, hwz⟩ : ∃ z, u4 = z := ⟨_, rfl⟩; clear hwz)
    | (go_at_call 5; (with_reducible refine (HC'.out _ HM.out.s).mono ?_); rintro e w4 ⟨v1, v2, v3, rfl, hown, hb3⟩; obtain ⟨ma', rfl, rfl, rfl, hat, hfit⟩ := hown.parts; have hB3 := HM.out.below hb3; obtain ⟨hN4, hT4⟩ := nbox_set hat hB3.box3; have HO4 : Veil _ := ⟨(HN.out.below hb3).turned hB3.box3 hT4 (by have := HO.out; omega)⟩; have HX4 : Veil _ := ⟨(bn_then HX.out hb3).trans (hT4.toBelow (bn_then HX.out hb3).size (fun k _ e => by have := HO.out; omega))⟩; obtain ⟨W4, hW4⟩ : ∃ W4, ((w4.setCell ⟨GB, 0, none⟩ (.slice ma'.pp m'.ps.length ma'.cp)).setCell ⟨GB, 1, none⟩ (.slice ma'.pk m'.ks.length ma'.ck)).setCell ⟨GB, 2, none⟩ (.slice ma'.pd m'.ds.length ma'.cd) = W4 := ⟨_, rfl⟩; rw [hW4] at hN4 HO4 HX4; obtain ⟨⟨i0, i1, i2⟩, k0, k1, k2⟩ := box3 hB3.b; replace HX : Veil _ := ⟨HX4.out⟩; replace HM : Veil _ := ⟨hN4⟩; replace HN : Veil _ := ⟨HO4.out⟩; have HF4 : Veil _ := ⟨hfit⟩; clear hat hown hb3 hN4 hT4 hfit HO4 HX4 hB3 b0 b1 b2 c0 c1 c2; obtain ⟨b0, b1, b2⟩ := HM.out.cells; obtain ⟨c0, c1, c2⟩ := HN.out.cells)
    | (go_at_call 5; (with_reducible refine (HC.out _ HN.out.s).mono ?_); rintro e w3 ⟨v1, v2, v3, rfl, hown, hb3⟩; obtain ⟨na', rfl, rfl, rfl, hat, hfit⟩ := hown.parts; have hB3 := HN.out.below hb3; obtain ⟨hN4, hT4⟩ := nbox_set hat hB3.box3; have HO4 : Veil _ := ⟨(HM.out.below hb3).turned hB3.box3 hT4 (by have := HO.out; omega)⟩; have HX4 : Veil _ := ⟨(bn_then HX.out hb3).trans (hT4.toBelow (bn_then HX.out hb3).size (fun k _ e => by have := HO.out; omega))⟩; obtain ⟨W4, hW4⟩ : ∃ W4, ((w3.setCell ⟨GA, 0, none⟩ (.slice na'.pp n'.ps.length na'.cp)).setCell ⟨GA, 1, none⟩ (.slice na'.pk n'.ks.length na'.ck)).setCell ⟨GA, 2, none⟩ (.slice na'.pd n'.ds.length na'.cd) = W4 := ⟨_, rfl⟩; rw [hW4] at hN4 HO4 HX4; obtain ⟨⟨i0, i1, i2⟩, k0, k1, k2⟩ := box3 hB3.b; replace HX : Veil _ := ⟨HX4.out⟩; replace HN : Veil _ := ⟨hN4⟩; replace HM : Veil _ := ⟨HO4.out⟩; have HF3 : Veil _ := ⟨hfit⟩; clear hat hown hb3 hN4 hT4 hfit HO4 HX4 hB3 b0 b1 b2 c0 c1 c2; obtain ⟨b0, b1, b2⟩ := HN.out.cells; obtain ⟨c0, c1, c2⟩ := HM.out.cells)
    | (go_at_call 4; refine (shown_any _).mono ?_; rintro e w2 ⟨rfl, hb2⟩; replace HN : Veil _ := ⟨HN.out.below hb2⟩; replace HM : Veil _ := ⟨HM.out.below hb2⟩; replace HX : Veil _ := ⟨bn_then HX.out hb2⟩; clear hb2 b0 b1 b2 c0 c1 c2; obtain ⟨b0, b1, b2⟩ := HN.out.cells; obtain ⟨c0, c1, c2⟩ := HM.out.cells))
  obtain ⟨S0, hS0⟩ : ∃ S0, u4 = S0 := ⟨_, rfl⟩
  rw [hS0] at HPx HPy HQx HQy HN HM HX
  rw [hS0]
  clear hS0 b0 b1 b2 c0 c1 c2
  clear i0 i1 i2 j0 j1 j2 p0 p1 p2 q0 q1 q2 HC HC' HSp HSr
  refine region_pair 11
    [[], [], [(1, 41)], [], [(0, 40), (2, 42), (3, 43)], [(4, 44)], [(5, 39)], [(5, 39)], [], [(6, 45), (8, 16)], [(7, 46)]]
    [[], [], [1], [], [0, 2, 3], [4], [5], [5], [], [0, 1, 2, 3, 4, 5, 6, 8], [0, 1, 2, 3, 4, 5, 6, 7, 8, 9]]
    [(0, 40), (1, 41), (2, 42), (3, 43), (4, 44), (5, 39), (6, 45), (7, 46), (8, 16), (10, 17)]
    (StepN S0 un) (fun W => Below S0.heap.size S0 W) (JoinF S0 un (.int .i64 ue) (.agg #[.slice na'.pp n'.ps.length na'.cp, .slice na'.pk n'.ks.length na'.ck, .slice na'.pd n'.ds.length na'.cd]) (.string ⟨key.toArray⟩) (.string ⟨key'.toArray⟩) (.agg #[.slice ma'.pp m'.ps.length ma'.cp, .slice ma'.pk m'.ks.length ma'.ck, .slice ma'.pd m'.ds.length ma'.cd])) pm9 pmJ_ok rfl (by kernel_rfl) _ rfl (fun _ _ hI hR => StepN.below hI hR) (fun i v u W W' _ hR hf => JoinF_step i v u W W' hR hf) (Below.refl _ _).drew ⟨?_, ?_, ?_, ?_, ?_, ?_, ?_, ?_, ?_, ?_, ?_, trivial⟩ ?_
  · intro vals W hB _
    have hB : Below S0.heap.size S0 W := hB
    obtain ⟨b0, b1, b2⟩ := (HN.out.below hB).cells
    dsimp only [putsL, slotOf]
    go_wp2
    exact ⟨rfl, .inl (Below.refl _ _), rfl⟩
  · intro vals W hB _
    have hB : Below S0.heap.size S0 W := hB
    dsimp only [putsL, slotOf]
    go_wp2
    exact ⟨rfl, .inl (Below.refl _ _), rfl⟩
  · intro vals W hB ⟨h1, _⟩
    have hB : Below S0.heap.size S0 W := hB
    have h1 : vals 1 = _ := h1
    dsimp only [putsL, slotOf]
    rw [h1]
    go_wp2_with ((go_at_call 9; refine (HTx.out _).mono ?_; rintro e w4 ⟨rfl, rfl⟩))
    exact ⟨rfl, .inl (Below.refl _ _), rfl⟩
  · intro vals W hB _
    have hB : Below S0.heap.size S0 W := hB
    obtain ⟨b0, b1, b2⟩ := (HM.out.below hB).cells
    dsimp only [putsL, slotOf]
    go_wp2
    exact ⟨rfl, .inl (Below.refl _ _), rfl⟩
  · intro vals W hB ⟨h0, h2, h3, _⟩
    have hB : Below S0.heap.size S0 W := hB
    have h0 : vals 0 = _ := h0
    have h2 : vals 2 = _ := h2
    have h3 : vals 3 = _ := h3
    dsimp only [putsL, slotOf]
    rw [h0, h2, h3]
    go_wp2_with ((go_at_call 8; refine (HJp.out _ _ _ (HN.out.below hB).s (HM.out.below hB).s).mono ?_; rintro e w4 ⟨a4, rfl, hat4, hb4⟩))
    exact ⟨rfl, .inl hb4, a4, rfl, hat4⟩
  · intro vals W hB ⟨h4, _⟩
    have hB : Below S0.heap.size S0 W := hB
    obtain ⟨a4, h4, hat4⟩ := h4
    dsimp only [putsL, slotOf]
    rw [h4]
    go_wp2
    exact ⟨rfl, .inl (Below.refl _ _), a4, rfl, hat4⟩
  · intro vals W hB ⟨h5, _⟩
    have hB : Below S0.heap.size S0 W := hB
    obtain ⟨a5, h5, hat5⟩ := h5
    dsimp only [putsL, slotOf]
    rw [h5]
    go_wp2
    exact ⟨rfl, .inl (Below.refl _ _), a5, rfl, hat5⟩
  · intro vals W hB ⟨h5, _⟩
    have hB : Below S0.heap.size S0 W := hB
    obtain ⟨a5, h5, hat5⟩ := h5
    dsimp only [putsL, slotOf]
    rw [h5]
    go_wp2
    exact ⟨rfl, .inl (Below.refl _ _), rfl⟩
  · intro vals W hB _
    have hB : Below S0.heap.size S0 W := hB
    dsimp only [putsL, slotOf]
    go_wp2
    exact ⟨rfl, .inl (below_al (Below.refl _ _) _), _, hB.size, rfl, _, _, _, _, _, _, _, _, _, heap_alloc_new _ _⟩
  · intro vals W hB ⟨_, _, _, _, _, _, h6, h8, _⟩
    have hB : Below S0.heap.size S0 W := hB
    obtain ⟨a6, h6, hat6⟩ := h6
    obtain ⟨g8, hg8, h8, hbox⟩ := h8
    have hbox' := hbox
    obtain ⟨p1, n1, c1, p2, n2, c2, p3, n3, c3, hg⟩ := hbox'
    obtain ⟨⟨b0, b1, b2⟩, k0, k1, k2⟩ := box3 hg
    dsimp only [putsL, slotOf]
    rw [h6, h8]
    go_wp2
    exact ⟨rfl, .inr ⟨g8, a6, hg8, hbox, (nbox_set hat6 hbox).1, (nbox_set hat6 hbox).2⟩, g8, hg8, h8, a6, (nbox_set hat6 hbox).1⟩
  · intro vals W hB ⟨_, _, _, _, _, _, _, h7, _, _, _⟩
    have hB : Below S0.heap.size S0 W := hB
    have h7 : vals 7 = _ := h7
    dsimp only [putsL, slotOf]
    rw [h7]
    go_wp2
    exact ⟨rfl, .inl (Below.refl _ _), rfl⟩
  intro vals W12 hB hF
  have hB : Below S0.heap.size S0 W12 := hB
  have h0 : vals 0 = _ := hF 0 (by decide)
  have h1 : vals 1 = _ := hF 1 (by decide)
  have h2 : vals 2 = _ := hF 2 (by decide)
  have h3 : vals 3 = _ := hF 3 (by decide)
  have h7 : vals 7 = _ := hF 7 (by decide)
  have h10 : vals 10 = _ := hF 10 (by decide)
  obtain ⟨a4, h4, -⟩ := hF 4 (by decide)
  obtain ⟨a5, h5, -⟩ := hF 5 (by decide)
  obtain ⟨a6, h6, -⟩ := hF 6 (by decide)
  obtain ⟨g12, -, h8, a12, hN⟩ := hF 9 (by decide)
  have h8 : vals 8 = _ := h8
  dsimp only [putsL]
  rw [h0, h1, h2, h3, h4, h5, h6, h7, h8, h10]
  clear h0 h1 h2 h3 h4 h5 h6 h7 h8 h10 hF
  simp only [List.drop_succ_cons, List.drop_zero, List.setIfInBounds_toArray, List.set_cons_succ, List.set_cons_zero]
  replace HN : Veil _ := ⟨HN.out.below hB⟩
  replace HM : Veil _ := ⟨HM.out.below hB⟩
  replace HX : Veil _ := ⟨bn_then HX.out hB⟩
  replace HPx : Veil _ := ⟨HPx.out.below hB⟩
  replace HPy : Veil _ := ⟨HPy.out.below hB⟩
  replace HQx : Veil _ := ⟨HQx.out.below hB⟩
  replace HQy : Veil _ := ⟨HQy.out.below hB⟩
  have HUx : Veil _ := ⟨hN⟩
  clear hB hN HJp
  go_wp2
  refine region_pair 11
    [[], [], [(1, 49)], [], [(0, 48), (2, 50), (3, 51)], [(4, 52)], [(5, 47)], [(5, 47)], [], [(6, 53), (8, 18)], [(7, 54)]]
    [[], [], [1], [], [0, 2, 3], [4], [5], [5], [], [0, 1, 2, 3, 4, 5, 6, 8], [0, 1, 2, 3, 4, 5, 6, 7, 8, 9]]
    [(0, 48), (1, 49), (2, 50), (3, 51), (4, 52), (5, 47), (6, 53), (7, 54), (8, 18), (10, 19)]
    (StepN W12 un) (fun W => Below W12.heap.size W12 W) (JoinF W12 un (.int .i64 ue) (.agg #[.slice na'.pp n'.ps.length na'.cp, .slice na'.pk n'.ks.length na'.ck, .slice na'.pd n'.ds.length na'.cd]) (.string ⟨key.toArray⟩) (.string ⟨key'.toArray⟩) (.agg #[.slice ma'.pp m'.ps.length ma'.cp, .slice ma'.pk m'.ks.length ma'.ck, .slice ma'.pd m'.ds.length ma'.cd])) pm9 pmJ_ok rfl (by kernel_rfl) _ rfl (fun _ _ hI hR => StepN.below hI hR) (fun i v u W W' _ hR hf => JoinF_step i v u W W' hR hf) (Below.refl _ _).drew ⟨?_, ?_, ?_, ?_, ?_, ?_, ?_, ?_, ?_, ?_, ?_, trivial⟩ ?_
  · intro vals W hB _
    have hB : Below W12.heap.size W12 W := hB
    obtain ⟨b0, b1, b2⟩ := (HN.out.below hB).cells
    dsimp only [putsL, slotOf]
    go_wp2
    exact ⟨rfl, .inl (Below.refl _ _), rfl⟩
  · intro vals W hB _
    have hB : Below W12.heap.size W12 W := hB
    dsimp only [putsL, slotOf]
    go_wp2
    exact ⟨rfl, .inl (Below.refl _ _), rfl⟩
  · intro vals W hB ⟨h1, _⟩
    have hB : Below W12.heap.size W12 W := hB
    have h1 : vals 1 = _ := h1
    dsimp only [putsL, slotOf]
    rw [h1]
    go_wp2_with ((go_at_call 9; refine (HTx.out _).mono ?_; rintro e w4 ⟨rfl, rfl⟩))
    exact ⟨rfl, .inl (Below.refl _ _), rfl⟩
  · intro vals W hB _
    have hB : Below W12.heap.size W12 W := hB
    obtain ⟨b0, b1, b2⟩ := (HM.out.below hB).cells
    dsimp only [putsL, slotOf]
    go_wp2
    exact ⟨rfl, .inl (Below.refl _ _), rfl⟩
  · intro vals W hB ⟨h0, h2, h3, _⟩
    have hB : Below W12.heap.size W12 W := hB
    have h0 : vals 0 = _ := h0
    have h2 : vals 2 = _ := h2
    have h3 : vals 3 = _ := h3
    dsimp only [putsL, slotOf]
    rw [h0, h2, h3]
    go_wp2_with ((go_at_call 10; refine (HJr.out _ _ _ (HN.out.below hB).s (HM.out.below hB).s).mono ?_; rintro e w4 ⟨a4, rfl, hat4, hb4⟩))
    exact ⟨rfl, .inl hb4, a4, rfl, hat4⟩
  · intro vals W hB ⟨h4, _⟩
    have hB : Below W12.heap.size W12 W := hB
    obtain ⟨a4, h4, hat4⟩ := h4
    dsimp only [putsL, slotOf]
    rw [h4]
    go_wp2
    exact ⟨rfl, .inl (Below.refl _ _), a4, rfl, hat4⟩
  · intro vals W hB ⟨h5, _⟩
    have hB : Below W12.heap.size W12 W := hB
    obtain ⟨a5, h5, hat5⟩ := h5
    dsimp only [putsL, slotOf]
    rw [h5]
    go_wp2
    exact ⟨rfl, .inl (Below.refl _ _), a5, rfl, hat5⟩
  · intro vals W hB ⟨h5, _⟩
    have hB : Below W12.heap.size W12 W := hB
    obtain ⟨a5, h5, hat5⟩ := h5
    dsimp only [putsL, slotOf]
    rw [h5]
    go_wp2
    exact ⟨rfl, .inl (Below.refl _ _), rfl⟩
  · intro vals W hB _
    have hB : Below W12.heap.size W12 W := hB
    dsimp only [putsL, slotOf]
    go_wp2
    exact ⟨rfl, .inl (below_al (Below.refl _ _) _), _, hB.size, rfl, _, _, _, _, _, _, _, _, _, heap_alloc_new _ _⟩
  · intro vals W hB ⟨_, _, _, _, _, _, h6, h8, _⟩
    have hB : Below W12.heap.size W12 W := hB
    obtain ⟨a6, h6, hat6⟩ := h6
    obtain ⟨g8, hg8, h8, hbox⟩ := h8
    have hbox' := hbox
    obtain ⟨p1, n1, c1, p2, n2, c2, p3, n3, c3, hg⟩ := hbox'
    obtain ⟨⟨b0, b1, b2⟩, k0, k1, k2⟩ := box3 hg
    dsimp only [putsL, slotOf]
    rw [h6, h8]
    go_wp2
    exact ⟨rfl, .inr ⟨g8, a6, hg8, hbox, (nbox_set hat6 hbox).1, (nbox_set hat6 hbox).2⟩, g8, hg8, h8, a6, (nbox_set hat6 hbox).1⟩
  · intro vals W hB ⟨_, _, _, _, _, _, _, h7, _, _, _⟩
    have hB : Below W12.heap.size W12 W := hB
    have h7 : vals 7 = _ := h7
    dsimp only [putsL, slotOf]
    rw [h7]
    go_wp2
    exact ⟨rfl, .inl (Below.refl _ _), rfl⟩
  intro vals W15 hB hF
  have hB : Below W12.heap.size W12 W15 := hB
  have h0 : vals 0 = _ := hF 0 (by decide)
  have h1 : vals 1 = _ := hF 1 (by decide)
  have h2 : vals 2 = _ := hF 2 (by decide)
  have h3 : vals 3 = _ := hF 3 (by decide)
  have h7 : vals 7 = _ := hF 7 (by decide)
  have h10 : vals 10 = _ := hF 10 (by decide)
  obtain ⟨a4, h4, -⟩ := hF 4 (by decide)
  obtain ⟨a5, h5, -⟩ := hF 5 (by decide)
  obtain ⟨a6, h6, -⟩ := hF 6 (by decide)
  obtain ⟨g15, -, h8, a15, hN⟩ := hF 9 (by decide)
  have h8 : vals 8 = _ := h8
  dsimp only [putsL]
  rw [h0, h1, h2, h3, h4, h5, h6, h7, h8, h10]
  clear h0 h1 h2 h3 h4 h5 h6 h7 h8 h10 hF
  simp only [List.drop_succ_cons, List.drop_zero, List.setIfInBounds_toArray, List.set_cons_succ, List.set_cons_zero]
  replace HX : Veil _ := ⟨bn_then HX.out hB⟩
  replace HPx : Veil _ := ⟨HPx.out.below hB⟩
  replace HPy : Veil _ := ⟨HPy.out.below hB⟩
  replace HQx : Veil _ := ⟨HQx.out.below hB⟩
  replace HQy : Veil _ := ⟨HQy.out.below hB⟩
  replace HUx : Veil _ := ⟨HUx.out.below hB⟩
  have HVx : Veil _ := ⟨hN⟩
  clear hB hN HJr HN HM
  obtain ⟨x0, x1, x2⟩ := HPx.out.cells
  obtain ⟨y0, y1, y2⟩ := HQx.out.cells
  go_wp2_with (first
    | (go_at_call 11; (with_reducible refine (HSU.out _ _ _ HUx.out.s HVx.out.s).mono ?_); rintro e w19 ⟨rfl, hb⟩; replace HX : Veil _ := ⟨bn_then HX.out hb⟩; clear hb)
    | (go_at_call 11; (with_reducible refine (HSB.out _ _ _ HPy.out.s HQy.out.s).mono ?_); rintro e w18 ⟨rfl, hb⟩; replace HX : Veil _ := ⟨bn_then HX.out hb⟩; replace HUx : Veil _ := ⟨HUx.out.below hb⟩; replace HVx : Veil _ := ⟨HVx.out.below hb⟩; clear hb x0 x1 x2 y0 y1 y2; obtain ⟨x0, x1, x2⟩ := HUx.out.cells; obtain ⟨y0, y1, y2⟩ := HVx.out.cells)
    | (go_at_call 11; (with_reducible refine (HSA.out _ _ _ HPx.out.s HQx.out.s).mono ?_); rintro e w17 ⟨rfl, hb⟩; replace HX : Veil _ := ⟨bn_then HX.out hb⟩; replace HPy : Veil _ := ⟨HPy.out.below hb⟩; replace HQy : Veil _ := ⟨HQy.out.below hb⟩; replace HUx : Veil _ := ⟨HUx.out.below hb⟩; replace HVx : Veil _ := ⟨HVx.out.below hb⟩; clear hb x0 x1 x2 y0 y1 y2; obtain ⟨x0, x1, x2⟩ := HPy.out.cells; obtain ⟨y0, y1, y2⟩ := HQy.out.cells))
  go_ret
  exact ⟨rfl, HX.out⟩
end Go.Proofs.Ytalnmaoidaldhaa
