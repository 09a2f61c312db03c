/- Trees, by the program: the node of a page of the work. -/
import Derived.Test.YtokbmimbbeedcaaGreatDoorKT6
import Derived.Test.YtokbmimbbeedcaaGreatDoorKU3
import Derived.Test.YtokbmimbbeedcaaGreatDoorKN1
namespace Go.Proofs.YtokbmimbbeedcaaGreatDoor
open Go Go.RowKit Sm
attribute [local go_sem] Oper.semAt_some

set_option maxRecDepth 20000 in
set_option maxHeartbeats 4000000 in
theorem wnode_own {w : World} {Wb : Nat} {k : Wk} {root : Nat} {al : Al} {p : Option Addr} {cp : Nat} {told : Int} (hwb : w.heap[Wb]? = some (.cells (wkCells k root al p cp told) 78 (0, 0))) (ho : MapAt w k.bo Pg.v k.own) (id level : Nat) (hid : id ≠ 0) (hlv : level ≤ 64) {n : Nd} (hr : n.right = true) (hf : n.fits = true) (hok : Veil n.Ok) (tx pid : Nat) (hg : mget k.own id = some ⟨(n.kind : Nat), pid, tx, n.enc⟩) : Calls Tryz.prog 48 #[.pointer (some ⟨Wb, 0, none⟩), .int .u32 id, .int .i64 level] w fun e w' => ∃ v1 v2 v3, e = .returned (.tuple #[.agg #[v1, v2, v3], .nilIface]) ∧ NdOwn w' w.heap.size v1 v2 v3 n ∧ Below w.heap.size w w' := by
  have HO : Veil _ := ⟨ho⟩
  have HG : Veil _ := ⟨hg⟩
  have w7 := (wk_cells hwb).1 7
  simp only [List.getElem?_cons_zero, List.getElem?_cons_succ] at w7
  have hlw : Wb < w.heap.size := lt_of_heap hwb
  have HDe : Veil (∀ W, Calls Tryz.prog 71 #[.int .i64 (n.kind : Nat), .string ⟨n.enc.toArray⟩] W fun e w' => ∃ v1 v2 v3, e = .returned (.tuple #[.agg #[v1, v2, v3], .int .i64 0]) ∧ NdOwn w' W.heap.size v1 v2 v3 n ∧ Below W.heap.size W w') := ⟨fun W => decode_own hr hf hok⟩
  have HTo : Veil (∀ W, Calls Tryz.prog 45 #[.int .i64 0] W fun e w' => e = .returned .nilIface ∧ w' = W) := ⟨fun W => torn_any 0 W⟩
  have hid2 : ((id : Int) == 0) = false := by rw [beq_eq_false_iff_ne]; omega
  have hlv2 : ¬ (64 : Int) < level := by omega
  have HB1 : Veil (Below w.heap.size w (w.alloc (.cells #[.slice none 0 0, .slice none 0 0, .slice none 0 0] 92))) := ⟨below_al (Below.refl _ _) _⟩
  have HX1 : Veil ((w.alloc (.cells #[.slice none 0 0, .slice none 0 0, .slice none 0 0] 92)).heap[w.heap.size]? = some (.cells #[.slice none 0 0, .slice none 0 0, .slice none 0 0] 92 (0, 0))) := ⟨heap_alloc_new _ _⟩
  clear hwb ho hg hr hf hok
  revert HG HDe
  generalize n.kind = kd
  generalize n.enc = en
  intro HG HDe
  go_enter Tryz.func48, Tryz.ntmps48
  go_wp2_with (first
    | (go_at_call 71; refine (HDe.out _).mono ?_; rintro e w5 ⟨v1, v2, v3, rfl, hown, hb5⟩; obtain ⟨a, rfl, rfl, rfl, hat, hfa⟩ := hown.parts; have hb2 := below_al HB1.out (.cells #[.int .i64 kd, .int .u32 pid, .int .u64 tx, .string ⟨en.toArray⟩] 114); have HB5 : Veil _ := ⟨alb_then hb2 hb5⟩; have HX5 : Veil _ := ⟨(hb5.block _ (lt_of_heap ((below_al (Below.refl _ _) _).block _ (lt_of_heap HX1.out) |>.trans HX1.out))).trans (((below_al (Below.refl _ _) (.cells #[.int .i64 kd, .int .u32 pid, .int .u64 tx, .string ⟨en.toArray⟩] 114)).block _ (lt_of_heap HX1.out)).trans HX1.out)⟩; have HOw : Veil _ := ⟨hown⟩; clear hown hb5 hb2 hat hfa)
    | (at_lookup; refine wpList_mget_some rfl _ _ 75 true rfl _ _ Tryz.underlying75 Tryz.underlying23 _ (zero_page _) rfl (HO.out.below HB1.out) id rfl _ HG.out (.agg #[.int .i64 kd, .int .u32 pid, .int .u64 tx, .string ⟨en.toArray⟩]) rfl ?_))
  have HBx : Veil ((w5.alloc (.cells #[.slice a.pp n.ps.length a.cp, .slice a.pk n.ks.length a.ck, .slice a.pd n.ds.length a.cd] 92)).heap[w5.heap.size]? = some (.cells #[.slice a.pp n.ps.length a.cp, .slice a.pk n.ks.length a.ck, .slice a.pd n.ds.length a.cd] 92 (0, 0))) := ⟨heap_alloc_new _ _⟩
  refine region_new [.is (.agg #[.slice a.pp n.ps.length a.cp, .slice a.pk n.ks.length a.ck, .slice a.pd n.ds.length a.cd]), .is (.int .i64 0), .is .nilIface]
    [[], [], [(1, 54)]]
    [[], [], [1]]
    [(0, 53), (1, 54), (2, 55)] rfl (by kernel_rfl) ⟨?_, ?_, ?_, trivial⟩ ?_
  · intro vals W hB _
    obtain ⟨⟨b0, b1, b2⟩, -⟩ := box3 ((hB.block _ (lt_of_heap HBx.out)).trans HBx.out)
    dsimp only [putsL, slotOf]
    go_wp2
    exact ⟨rfl, Below.refl _ _, rfl⟩
  · intro vals W hB _
    dsimp only [putsL, slotOf]
    go_wp2
    exact ⟨rfl, Below.refl _ _, rfl⟩
  · intro vals W hB ⟨h1, _⟩
    have h1 : vals 1 = _ := h1
    dsimp only [putsL, slotOf]
    rw [h1]
    go_wp2_with (go_at_call 45; refine (HTo.out _).mono ?_; rintro e w4 ⟨rfl, rfl⟩; have hb4 := Below.refl w4.heap.size w4)
    exact ⟨rfl, hb4, rfl⟩
  rintro vals W hB ⟨q0, q1, q2, -⟩
  have h0 : vals 0 = _ := q0
  have h1 : vals 1 = _ := q1
  have h2 : vals 2 = _ := q2
  dsimp only [putsL]
  rw [h0, h1, h2]
  clear h0 q0 h1 q1 h2 q2
  simp only [List.length_cons, List.length_nil, Nat.reduceAdd, List.drop_succ_cons, List.drop_zero, List.setIfInBounds_toArray, List.set_cons_succ, List.set_cons_zero]
  have hb6 : Below w5.heap.size w5 W := (below_al (Below.refl _ _) (.cells #[.slice a.pp n.ps.length a.cp, .slice a.pk n.ks.length a.ck, .slice a.pd n.ds.length a.cd] 92)).trans (hB.mono (by simp))
  have hx := (hb6.block _ (lt_of_heap HX5.out)).trans HX5.out
  have hlx := lt_of_heap hx
  obtain ⟨⟨b0, b1, b2⟩, k0, k1, k2⟩ := box3 hx
  have HX : Veil _ := ⟨hx⟩
  have HB6 : Veil _ := ⟨hb6⟩
  clear hx hb6
  go_wp2
  have hT : Turned (· = w.heap.size) W (((W.setCell ⟨w.heap.size, 0, none⟩ (.slice a.pp n.ps.length a.cp)).setCell ⟨w.heap.size, 1, none⟩ (.slice a.pk n.ks.length a.ck)).setCell ⟨w.heap.size, 2, none⟩ (.slice a.pd n.ds.length a.cd)) := (((Turned.refl (· = w.heap.size) W).setCell (p := ⟨w.heap.size, 0, none⟩) rfl _).setCell (p := ⟨w.heap.size, 1, none⟩) rfl _).setCell (p := ⟨w.heap.size, 2, none⟩) rfl _
  have hres : (((W.setCell ⟨w.heap.size, 0, none⟩ (.slice a.pp n.ps.length a.cp)).setCell ⟨w.heap.size, 1, none⟩ (.slice a.pk n.ks.length a.ck)).setCell ⟨w.heap.size, 2, none⟩ (.slice a.pd n.ds.length a.cd)).heap[w.heap.size]? = some (.cells #[.slice a.pp n.ps.length a.cp, .slice a.pk n.ks.length a.ck, .slice a.pd n.ds.length a.cd] 92 (0, 0)) := heap_setCell_at (heap_setCell_at (heap_setCell_at HX.out 0 _) 1 _) 2 _
  have hb : Below w.heap.size w W := alb_then HB5.out HB6.out
  have hz : w.heap.size + 1 ≤ ((w.alloc (.cells #[.slice none 0 0, .slice none 0 0, .slice none 0 0] 92)).alloc (.cells #[.int .i64 kd, .int .u32 pid, .int .u64 tx, .string ⟨en.toArray⟩] 114)).heap.size := by simp
  refine bodyPost_ret (results_node2 rfl rfl rfl hres) rfl ?_
  exact ⟨_, _, _, rfl, ((HOw.out.below HB6.out).kept hT (fun j hj e => by have e : j = w.heap.size := e; omega)).less (by omega), hb.trans (hT.toBelow hb.size (fun j _ e => by have e : j = w.heap.size := e; omega))⟩
end Go.Proofs.YtokbmimbbeedcaaGreatDoor

/- Trees, by the program: the node that stands nowhere; a change begun; what a call is refused for. -/
namespace Go.Proofs.YtokbmimbbeedcaaGreatDoor
open Go Go.RowKit Sm
attribute [local go_sem] Oper.semAt_some

set_option maxRecDepth 20000 in
theorem wnode_none (w : World) (Wb level : Nat) : Calls Tryz.prog 48 #[.pointer (some ⟨Wb, 0, none⟩), .int .u32 0, .int .i64 level] w fun e w' => e = .returned (.tuple #[.agg #[.slice none 0 0, .slice none 0 0, .slice none 0 0], .nilIface]) ∧ Below w.heap.size w w' := by
  have HX1 : Veil ((w.alloc (.cells #[.slice none 0 0, .slice none 0 0, .slice none 0 0] 92)).heap[w.heap.size]? = some (.cells #[.slice none 0 0, .slice none 0 0, .slice none 0 0] 92 (0, 0)) ∧ Below w.heap.size w (w.alloc (.cells #[.slice none 0 0, .slice none 0 0, .slice none 0 0] 92))) := ⟨heap_alloc_new _ _, below_al (Below.refl _ _) _⟩
  go_enter Tryz.func48, Tryz.ntmps48
  go_wp2
  refine bodyPost_ret (results_node2 rfl rfl rfl HX1.out.1) rfl ?_
  exact ⟨rfl, HX1.out.2⟩
set_option maxRecDepth 20000 in
theorem ended_any {w : World} {Wb : Nat} {k : Wk} {root : Nat} {al : Al} {p : Option Addr} {cp : Nat} {told : Int} (hwb : w.heap[Wb]? = some (.cells (wkCells k root al p cp told) 78 (0, 0))) : Calls Tryz.prog 36 #[.pointer (some ⟨Wb, 0, none⟩)] w fun e w' => e = .returned (.int .i64 told) ∧ w' = w := by
  have w9 := (wk_cells hwb).1 9
  simp only [List.getElem?_cons_zero, List.getElem?_cons_succ] at w9
  have hlw : Wb < w.heap.size := lt_of_heap hwb
  clear hwb
  go_enter Tryz.func36, Tryz.ntmps36
  go_wp2
  go_ret
  exact ⟨rfl, rfl⟩
theorem ended_nil (w : World) : Calls Tryz.prog 36 #[.pointer none] w fun e w' => e = .returned (.int .i64 1) ∧ w' = w := by
  go_enter Tryz.func36, Tryz.ntmps36
  go_wp2
  go_ret
  exact ⟨rfl, rfl⟩
set_option maxRecDepth 20000 in
theorem begin_any {w : World} {Wb : Nat} {k : Wk} {root : Nat} {al : Al} {p : Option Addr} {cp : Nat} {told : Int} (hwb : w.heap[Wb]? = some (.cells (wkCells k root al p cp told) 78 (0, 0))) : Calls Tryz.prog 28 #[.pointer (some ⟨Wb, 0, none⟩)] w fun e w' => e = .returned (.pointer (some ⟨w.heap.size + 1, 0, none⟩)) ∧ w' = (w.alloc (.map #[] 0)).alloc (.cells (chCells Wb ⟨root, al, p, cp, [], w.heap.size, .slice none 0 0, .nilIface⟩) 120) := by
  have hw := (wk_cells hwb).1
  have w1 := hw 1
  have w2 := hw 2
  have w3 := hw 3
  have w4 := hw 4
  simp only [List.getElem?_cons_zero, List.getElem?_cons_succ] at w1 w2 w3 w4
  have hlw : Wb < w.heap.size := lt_of_heap hwb
  clear hwb hw
  have hmk : (Instr.makeMap 75 none).run Tryz.prog w = .ok (.map (some w.heap.size)) (w.alloc (.map #[] 0)) := rfl
  go_enter Tryz.func28, Tryz.ntmps28
  go_wp2
  go_ret
  exact ⟨rfl, rfl⟩
/-- A change begun, of a work that stands. -/
theorem begin_at {w : World} {Wb : Nat} {k : Wk} {root : Nat} {al : Al} {p : Option Addr} {cp : Nat} {told : Int} (hwb : w.heap[Wb]? = some (.cells (wkCells k root al p cp told) 78 (0, 0))) (hal : AlAt w al p cp) (ho : MapAt w k.bo Pg.v k.own) : Calls Tryz.prog 28 #[.pointer (some ⟨Wb, 0, none⟩)] w fun e w' => e = .returned (.pointer (some ⟨w.heap.size + 1, 0, none⟩)) ∧ ChAt w' (w.heap.size + 1) Wb k ⟨root, al, p, cp, [], w.heap.size, .slice none 0 0, .nilIface⟩ ∧ Below w.heap.size w w' := by
  refine (begin_any hwb).mono ?_
  rintro e w' ⟨rfl, rfl⟩
  have hlw : Wb < w.heap.size := lt_of_heap hwb
  have hlo := ho.lt
  have hb1 : Below w.heap.size w (w.alloc (.map #[] 0)) := below_al (Below.refl _ _) _
  have hb2 := below_al hb1 (.cells (chCells Wb ⟨root, al, p, cp, [], w.heap.size, .slice none 0 0, .nilIface⟩) 120)
  have hz1 : (w.alloc (.map #[] 0)).heap.size = w.heap.size + 1 := by simp
  refine ⟨rfl, ⟨?_, ⟨root, al, p, cp, told, (hb2.block _ hlw).trans hwb⟩, hal.below hb2, (MapAt.made w Pg.v).below (below_al (Below.refl _ _) _), ho.below hb2, fun a ha => ?_, ?_⟩, hb2⟩
  · rw [← hz1]; exact heap_alloc_new _ _
  · have := (hal.old a ha).1
    dsimp only
    omega
  · dsimp only
    omega
end Go.Proofs.YtokbmimbbeedcaaGreatDoor

/- Trees, by the program: a way in memory; the path that it goes; the node of a page, or of none. -/
namespace Go.Proofs.YtokbmimbbeedcaaGreatDoor
open Go Go.RowKit Sm
attribute [local go_sem] Oper.semAt_some

/-- Pointers to steps, by their blocks. -/
def elS : El Nat where
  enc s := [.pointer (some ⟨s, 0, none⟩)]
  z := 1
  ty := 89
  sl := 86
  bytes := 8
  zero := .pointer none
  d := 0
  len _ := rfl
  one x v hv := by
    simp only [List.mem_cons, List.not_mem_nil, or_false] at hv
    subst hv; rfl
  pos := by decide
  under := by kernel_rfl
  info := by kernel_rfl
  zlen := rfl
  few := by decide
/-- A step in a block of its own, its node's lists in others: all of them from B on, ahead of E, none of them A. -/
structure SpAt (w : World) (A B E s : Nat) (n : Nd) (i : Nat) (v1 v2 v3 : Value) : Prop where
  lo : B ≤ s
  hi : s < E
  na : s ≠ A
  c : w.heap[s]? = some (.cells #[v1, v2, v3, .int .i64 i] 94 (0, 0))
  m : NdOwn w B v1 v2 v3 n
  o : ∀ j, (v1.ownBlock = some j ∨ v2.ownBlock = some j ∨ v3.ownBlock = some j) → j < E ∧ j ≠ s ∧ j ≠ A
theorem SpAt.kept {w w' : World} {A A' B E s : Nat} {n : Nd} {i : Nat} {v1 v2 v3 : Value} {F : Nat → Prop} (h : SpAt w A B E s n i v1 v2 v3) (ht : Turned F w w') (hF : ∀ x, x < E → x ≠ A → ¬ F x) (hA : A' = A ∨ E ≤ A') : SpAt w' A' B E s n i v1 v2 v3 := by
  refine ⟨h.lo, h.hi, ?_, ht.heap h.c (hF s h.hi h.na), h.m.apart ht (fun k hk => ?_), fun j hj => ?_⟩
  · have := h.na; have := h.hi; omega
  · have := h.o k hk
    exact hF k this.1 this.2.2
  · have := h.o j hj
    omega
/-- The steps of a way, one behind the other. -/
def WayAt (w : World) (A : Nat) : Nat → List (Nat × Nd × Nat) → Nat → Prop
  | B, [], E => B ≤ E
  | B, (s, n, i) :: r, E => ∃ M v1 v2 v3, B ≤ M ∧ SpAt w A B M s n i v1 v2 v3 ∧ WayAt w A M r E
theorem WayAt.le {w : World} {A : Nat} : ∀ {l : List (Nat × Nd × Nat)} {B E : Nat}, WayAt w A B l E → B ≤ E
  | [], _, _, h => h
  | (_, _, _) :: _, _, _, ⟨_, _, _, _, h1, _, h3⟩ => Nat.le_trans h1 (WayAt.le h3)
theorem WayAt.kept {w w' : World} {A A' : Nat} {F : Nat → Prop} (ht : Turned F w w') : ∀ {l : List (Nat × Nd × Nat)} {B E : Nat}, WayAt w A B l E → (∀ x, x < E → x ≠ A → ¬ F x) → (A' = A ∨ E ≤ A') → WayAt w' A' B l E
  | [], _, _, h, _, _ => h
  | (_, _, _) :: r, _, _, ⟨M, v1, v2, v3, h1, h2, h3⟩, hF, hA => by
    have hl := WayAt.le h3
    exact ⟨M, v1, v2, v3, h1, h2.kept ht (fun x hx => hF x (by omega)) (by omega), WayAt.kept ht h3 hF hA⟩
theorem WayAt.snoc {w : World} {A : Nat} {s : Nat} {n : Nd} {i : Nat} {v1 v2 v3 : Value} : ∀ {l : List (Nat × Nd × Nat)} {B M E : Nat}, WayAt w A B l M → M ≤ E → SpAt w A M E s n i v1 v2 v3 → WayAt w A B (l ++ [(s, n, i)]) E
  | [], B, M, E, h, hE, hs => by
    have h : B ≤ M := h
    refine ⟨E, v1, v2, v3, by omega, ?_, Nat.le_refl _⟩
    exact ⟨by have := hs.lo; omega, hs.hi, hs.na, hs.c, hs.m.less h, hs.o⟩
  | (_, _, _) :: r, _, _, _, ⟨M', u1, u2, u3, h1, h2, h3⟩, hE, hs => ⟨M', u1, u2, u3, h1, h2, WayAt.snoc h3 hE hs⟩

/-- What node tells of a page of the work, or of none. -/
def NodeIs (k : Wk) (id : Nat) (n : Nd) : Prop := id = 0 ∧ n = Nd.zero ∨ id ≠ 0 ∧ n.right = true ∧ n.fits = true ∧ Veil n.Ok ∧ ∃ pid tx, mget k.own id = some ⟨(n.kind : Nat), pid, tx, n.enc⟩
theorem wnode_any {w : World} {Wb : Nat} {k : Wk} {root : Nat} {al : Al} {p : Option Addr} {cp : Nat} {told : Int} (hwb : w.heap[Wb]? = some (.cells (wkCells k root al p cp told) 78 (0, 0))) (ho : MapAt w k.bo Pg.v k.own) (id level : Nat) (hlv : level ≤ 64) {n : Nd} (hn : NodeIs k id n) : Calls Tryz.prog 48 #[.pointer (some ⟨Wb, 0, none⟩), .int .u32 id, .int .i64 level] w fun e w' => ∃ v1 v2 v3, e = .returned (.tuple #[.agg #[v1, v2, v3], .nilIface]) ∧ NdOwn w' w.heap.size v1 v2 v3 n ∧ Below w.heap.size w w' := by
  rcases hn with ⟨rfl, rfl⟩ | ⟨h0, hr, hf, hok, pid, tx, hg⟩
  · refine (wnode_none w Wb level).mono ?_
    rintro e w' ⟨rfl, hb⟩
    exact ⟨_, _, _, rfl, NdOwn.zero _ _, hb⟩
  · exact wnode_own hwb ho id level h0 hlv hr hf hok tx pid hg
/-- The path of a key: each node with the key's place in it. -/
def PathS (k : Wk) (key : List UInt8) : Nat → List (Nd × Nat) → Prop
  | _, [] => False
  | id, [(n, i)] => NodeIs k id n ∧ i = n.place key ∧ n.ds.length = 0
  | id, (n, i) :: y :: r => NodeIs k id n ∧ i = n.place key ∧ i < n.ds.length ∧ PathS k key (n.ds.getD i 0) (y :: r)
theorem NodeIs.ok {k : Wk} {id : Nat} {n : Nd} (h : NodeIs k id n) : Veil n.Ok := by
  rcases h with ⟨-, rfl⟩ | ⟨-, -, -, h, -⟩
  · exact ⟨by
      refine ⟨?_, ?_, ?_, ?_, ?_, ?_⟩ <;> simp [Nd.zero]⟩
  · exact h
end Go.Proofs.YtokbmimbbeedcaaGreatDoor

/- Trees, by the program: a way, step by step (facts). -/
namespace Go.Proofs.YtokbmimbbeedcaaGreatDoor
open Go Go.RowKit Sm

theorem own_block {α : Type} (E : El α) {w : World} {base g : Nat} {L : List α} (h : w.heap[g]? = some (.cells (elCells E L).toArray E.ty (0, 0))) (hb : base ≤ g) (hl : L.length ≤ 1000) : OwnE E w base (.slice (some ⟨g, 0, none⟩) L.length L.length) L :=
  ⟨elCells_len E L, .inr ⟨g, L.length, _, rfl, hb, h, Nat.le_refl _, by unfold maxLen; omega, by simp [elCells_len], by exact List.take_of_length_le (by rw [elCells_len]; exact Nat.le_refl _)⟩⟩
structure WayI (w : World) (k : Wk) (key : List UInt8) (root : Nat) (path : List (Nd × Nat)) (l : List (Nat × Nd × Nat)) (rest : List (Nd × Nat)) (id : Nat) (v : Value) (A E : Nat) (wr : World) : Prop where
  o : OwnE elS wr w.heap.size v (l.map (·.1))
  a : ∀ j, v.ownBlock = some j → j = A
  al : A < wr.heap.size
  y : WayAt wr A w.heap.size l E
  e : E ≤ wr.heap.size
  t : Below w.heap.size w wr
  p : PathS k key id rest
  q : l.map (·.2) ++ rest = (⟨[], [], [root]⟩, 0) :: path
/-- The steps behind one more round. -/
structure WayN (w : World) (l : List (Nat × Nd × Nat)) (v : Value) (A E : Nat) (wr : World) : Prop where
  o : OwnE elS wr w.heap.size v (l.map (·.1))
  a : ∀ j, v.ownBlock = some j → j = A
  al : A < wr.heap.size
  y : WayAt wr A w.heap.size l E
  e : E ≤ wr.heap.size
  t : Below w.heap.size w wr
theorem WayI.next {w : World} {k : Wk} {key : List UInt8} {root : Nat} {path : List (Nd × Nat)} {l : List (Nat × Nd × Nat)} {rest : List (Nd × Nat)} {id : Nat} {v : Value} {A E : Nat} {wr w4 W w9 : World} {n : Nd} {i g5 : Nat} {v1 v2 v3 v9 : Value}
    (h : WayI w k key root path l rest id v A E wr) (hm : NdOwn w4 wr.heap.size v1 v2 v3 n) (hb4 : Below wr.heap.size wr w4) (hbW : Below w4.heap.size w4 W) (hg5 : w4.heap.size ≤ g5) (hc : W.heap[g5]? = some (.cells #[v1, v2, v3, .int .i64 i] 94 (0, 0)))
    (ho9 : OwnE elS w9 w.heap.size v9 (l.map (·.1) ++ [g5])) (hgr : W.grownBy w9 v.ownBlock) (hv9 : ∀ k, v9.ownBlock = some k → v.ownBlock = some k ∨ W.heap.size ≤ k) : ∃ A' E', WayN w (l ++ [(g5, n, i)]) v9 A' E' w9 := by
  have hz4 := hb4.size
  have hzW := hbW.size
  have hbw : Below wr.heap.size wr W := hb4.trans (hbW.mono hz4)
  have hlg := lt_of_heap hc
  have hT : Turned (fun j => v.ownBlock = some j) W w9 := Turned.grown hgr (fun j hj _ => hj)
  have hz9 := hT.size
  have hT9 : Turned (· = A) wr w9 := (Turned.new hbw : Turned (· = A) wr W).trans (hT.wider fun j _ e => h.a j e)
  obtain ⟨A', hA1, hA2, hA3⟩ : ∃ A', (∀ j, v9.ownBlock = some j → j = A') ∧ (A' = A ∨ W.heap.size ≤ A') ∧ A' < w9.heap.size := by
    cases hv : v9.ownBlock with
    | none => exact ⟨A, fun j hj => by (cases hj), .inl rfl, by have := h.al; omega⟩
    | some m =>
      refine ⟨m, fun j hj => by cases hj; rfl, ?_, (ho9.lt hv).2⟩
      rcases hv9 m hv with h1 | h1
      · exact .inl (h.a m h1)
      · exact .inr h1
  have hal := h.al
  have he := h.e
  have hmW := hm.below hbW
  have ownlt : ∀ j, (v1.ownBlock = some j ∨ v2.ownBlock = some j ∨ v3.ownBlock = some j) → wr.heap.size ≤ j ∧ j < w4.heap.size := fun j hj => by
    rcases hj with hj | hj | hj
    · exact hm.p.lt hj
    · exact hm.k.lt hj
    · exact hm.d.lt hj
  have hm9 : NdOwn w9 wr.heap.size v1 v2 v3 n := hmW.apart hT (fun j hj e => by have := ownlt j hj; have := h.a j e; omega)
  have hc9 : w9.heap[g5]? = some (.cells #[v1, v2, v3, .int .i64 i] 94 (0, 0)) := hT.heap hc (fun e => by have := h.a _ e; omega)
  have hy9 : WayAt w9 A' w.heap.size l E := h.y.kept hT9 (fun x _ hx e => hx e) (by omega)
  refine ⟨A', W.heap.size, by rw [List.map_append]; exact ho9, hA1, hA3, hy9.snoc (by omega) ⟨by omega, hlg, by omega, hc9, hm9.less he, fun j hj => ?_⟩, hz9, h.t.trans (((Turned.new hbw : Turned (fun j => v.ownBlock = some j) wr W).trans hT).toBelow h.t.size (fun j hj e => ?_))⟩
  · have := ownlt j hj
    omega
  · exact (h.o.lt e).1
theorem WayN.below {w : World} {l : List (Nat × Nd × Nat)} {v : Value} {A E : Nat} {wr W : World} (h : WayN w l v A E wr) (hb : Below wr.heap.size wr W) : WayN w l v A E W :=
  ⟨h.o.below hb, h.a, Nat.lt_of_lt_of_le h.al hb.size, h.y.kept (Turned.new hb : Turned (fun _ => False) wr W) (fun _ _ _ e => e) (.inl rfl), Nat.le_trans h.e hb.size, h.t.trans (hb.mono h.t.size)⟩
theorem WayN.more {w : World} {k : Wk} {key : List UInt8} {root : Nat} {path : List (Nd × Nat)} {l : List (Nat × Nd × Nat)} {rest : List (Nd × Nat)} {id : Nat} {v : Value} {A E : Nat} {wr : World} (h : WayN w l v A E wr) (hp : PathS k key id rest) (hq : l.map (·.2) ++ rest = (⟨[], [], [root]⟩, 0) :: path) : WayI w k key root path l rest id v A E wr := ⟨h.o, h.a, h.al, h.y, h.e, h.t, hp, hq⟩
end Go.Proofs.YtokbmimbbeedcaaGreatDoor

/- Trees, by the program: the way down to a key. -/
namespace Go.Proofs.YtokbmimbbeedcaaGreatDoor
open Go Go.RowKit Sm
attribute [local go_sem] Oper.semAt_some

theorem PathS.head {k : Wk} {key : List UInt8} {id : Nat} {n : Nd} {i : Nat} {r : List (Nd × Nat)} (h : PathS k key id ((n, i) :: r)) : NodeIs k id n ∧ i = n.place key ∧ (r = [] ∧ n.ds.length = 0 ∨ i < n.ds.length ∧ PathS k key (n.ds.getD i 0) r) := by
  cases r with
  | nil => exact ⟨h.1, h.2.1, .inl ⟨rfl, h.2.2⟩⟩
  | cons y r => exact ⟨h.1, h.2.1, .inr ⟨h.2.2.1, h.2.2.2⟩⟩
def slLen : Value → Nat
  | .slice _ n _ => n
  | _ => 0
set_option maxRecDepth 20000 in
set_option maxHeartbeats 4000000 in
theorem way_any {w : World} {Wb : Nat} {k : Wk} {root : Nat} {al : Al} {p : Option Addr} {cp : Nat} {told : Int} (hwb : w.heap[Wb]? = some (.cells (wkCells k root al p cp told) 78 (0, 0))) (ho : MapAt w k.bo Pg.v k.own) (key : List UInt8) (hkey : key.length ≤ 1000000) (path : List (Nd × Nat)) (hp : PathS k key root path) (hlen : path.length ≤ 64) : Calls Tryz.prog 32 #[.pointer (some ⟨Wb, 0, none⟩), .string ⟨key.toArray⟩] w fun e w' => ∃ l v A E, e = .returned (.tuple #[v, .nilIface]) ∧ WayN w l v A E w' ∧ l.map (·.2) = (⟨[], [], [root]⟩, 0) :: path := by
  have hlw : Wb < w.heap.size := lt_of_heap hwb
  have hw1 := (wk_cells hwb).1 1
  simp only [List.getElem?_cons_zero, List.getElem?_cons_succ] at hw1
  have HNo : Veil (∀ W, Below w.heap.size w W → ∀ (id level : Nat) (n : Nd), level ≤ 64 → NodeIs k id n → Calls Tryz.prog 48 #[.pointer (some ⟨Wb, 0, none⟩), .int .u32 id, .int .i64 level] W fun e w' => ∃ v1 v2 v3, e = .returned (.tuple #[.agg #[v1, v2, v3], .nilIface]) ∧ NdOwn w' W.heap.size v1 v2 v3 n ∧ Below W.heap.size W w') := ⟨fun W hW id level n hlv hn => wnode_any ((hW.block _ hlw).trans hwb) (ho.below hW) id level hlv hn⟩
  have HPlace : Veil (∀ (n : Nd) (a : NdP) W, Veil n.Ok → NdAt W n a → Calls Tryz.prog 49 #[.agg #[.slice a.pp n.ps.length a.cp, .slice a.pk n.ks.length a.ck, .slice a.pd n.ds.length a.cd], .string ⟨key.toArray⟩] W fun e w' => e = .returned (.int .i64 (n.place key)) ∧ Below W.heap.size W w') := ⟨fun n a W hok h => nplace_of h hok key hkey⟩
  have HI0 : Veil (∃ A E, WayI w k key root path [(w.heap.size + 1, ⟨[], [], [root]⟩, 0)] path root (.slice (some ⟨w.heap.size + 1 + 1, 0, none⟩) 1 1) A E (((w.alloc (.cells #[.int .u32 root] 23)).alloc (.cells #[.slice none 0 0, .slice none 0 0, .slice (some ⟨w.heap.size, 0, none⟩) 1 1, .int .i64 0] 94)).alloc (.cells #[.pointer (some ⟨w.heap.size + 1, 0, none⟩)] 89))) := ⟨by
    obtain ⟨u1, h1⟩ : ∃ u1, w.alloc (.cells #[.int .u32 root] 23) = u1 := ⟨_, rfl⟩
    have z1 : u1.heap.size = w.heap.size + 1 := by rw [← h1]; simp
    have k1 : Below w.heap.size w u1 := by rw [← h1]; exact below_al (Below.refl _ _) _
    have c1 : u1.heap[w.heap.size]? = some (.cells (elCells elD [root]).toArray elD.ty (0, 0)) := by rw [← h1]; exact heap_alloc_new _ _
    rw [h1]
    obtain ⟨u2, h2⟩ : ∃ u2, u1.alloc (.cells #[.slice none 0 0, .slice none 0 0, .slice (some ⟨w.heap.size, 0, none⟩) 1 1, .int .i64 0] 94) = u2 := ⟨_, rfl⟩
    have z2 : u2.heap.size = w.heap.size + 2 := by rw [← h2]; simp [z1]
    have k2 : Below u1.heap.size u1 u2 := by rw [← h2]; exact below_al (Below.refl _ _) _
    have c2 : u2.heap[w.heap.size + 1]? = some (.cells #[.slice none 0 0, .slice none 0 0, .slice (some ⟨w.heap.size, 0, none⟩) 1 1, .int .i64 0] 94 (0, 0)) := by rw [← z1, ← h2]; exact heap_alloc_new _ _
    rw [h2]
    obtain ⟨u3, h3⟩ : ∃ u3, u2.alloc (.cells #[.pointer (some ⟨w.heap.size + 1, 0, none⟩)] 89) = u3 := ⟨_, rfl⟩
    have z3 : u3.heap.size = w.heap.size + 3 := by rw [← h3]; simp [z2]
    have k3 : Below u2.heap.size u2 u3 := by rw [← h3]; exact below_al (Below.refl _ _) _
    have c3 : u3.heap[w.heap.size + 2]? = some (.cells (elCells elS [w.heap.size + 1]).toArray elS.ty (0, 0)) := by rw [← z2, ← h3]; exact heap_alloc_new _ _
    rw [h3]
    have k12 := k1.trans (k2.mono (by omega))
    have k13 := k12.trans (k3.mono (by omega))
    refine ⟨w.heap.size + 2, w.heap.size + 2, own_block elS c3 (by omega) (by simp), fun j hj => by cases hj; rfl, by omega, ⟨w.heap.size + 2, .slice none 0 0, .slice none 0 0, .slice (some ⟨w.heap.size, 0, none⟩) 1 1, by omega, ⟨by omega, by omega, by omega, (k3.block _ (by omega)).trans c2, ⟨OwnE.nil _ _ _, OwnE.nil _ _ _, own_block elD (((k3.block _ (by omega)).trans (k2.block _ (by omega))).trans c1) (Nat.le_refl _) (by simp), fun _ h => (by cases h), fun _ h => (by cases h), fun _ h => (by cases h)⟩, fun j hj => ?_⟩, Nat.le_refl _⟩, by omega, k13, hp, rfl⟩
    rcases hj with hj | hj | hj
    · cases hj
    · cases hj
    · cases hj; dsimp only; omega⟩
  have hw3 : (((w.alloc (.cells #[.int .u32 root] 23)).alloc (.cells #[.slice none 0 0, .slice none 0 0, .slice (some ⟨w.heap.size, 0, none⟩) 1 1, .int .i64 0] 94)).alloc (.cells #[.pointer (some ⟨w.heap.size + 1, 0, none⟩)] 89)).cell? ⟨Wb, 1, none⟩ = some (.int .u32 root) := (((below_al (below_al (below_al (Below.refl w.heap.size w) _) _) _)).cell hlw).trans hw1
  clear hwb ho hp hkey
  go_enter Tryz.func32, Tryz.ntmps32
  go_wp2
  go_loopw [6, 7] (fun v id wr => ∃ l rest idn A E, id = .int .u32 (idn : Nat) ∧ Veil (WayI w k key root path l rest idn v A E wr)) (fun v _ _ => 70 - slLen v)
  case atStart =>
    obtain ⟨A, E, h⟩ := HI0.out
    exact ⟨_, _, root, A, E, rfl, ⟨h⟩⟩
  case round =>
    obtain ⟨l, rest, idn, A, E, rfl, hI⟩ := hrel
    have hl0 := hI.out.p
    cases rest with
    | nil => exact hl0.elim
    | cons ni r =>
      obtain ⟨n, i⟩ := ni
      obtain ⟨hN, hi, hcase⟩ := hl0.head
      have hll : l.length ≤ 64 := by
        have := congrArg List.length hI.out.q
        simp at this
        omega
      have hok := hN.ok
      have HN : Veil _ := ⟨hN⟩
      have HPl : Veil (∀ (a : NdP) W, NdAt W n a → Calls Tryz.prog 49 #[.agg #[.slice a.pp n.ps.length a.cp, .slice a.pk n.ks.length a.ck, .slice a.pd n.ds.length a.cd], .string ⟨key.toArray⟩] W fun e w' => e = .returned (.int .i64 i) ∧ Below W.heap.size W w') := ⟨fun a W h => by rw [hi]; exact HPlace.out n a W hok h⟩
      obtain ⟨pa, ca, hv, -⟩ := hI.out.o.form
      subst hv
      rw [List.length_map] at hI
      have HIp : Veil _ := ⟨hi⟩
      have HCase : Veil _ := ⟨hcase⟩
      clear hl0 hN hi hcase
      go_wp2_with (go_at_call 48; refine (HNo.out _ hI.out.t idn l.length n hll HN.out).mono ?_; rintro e w4 ⟨v1, v2, v3, rfl, hm4, hb4⟩; obtain ⟨a, rfl, rfl, rfl, hat, hfa⟩ := hm4.parts; have HM4 : Veil _ := ⟨And.intro hm4 hb4⟩; have HAt0 : Veil _ := ⟨hat⟩; clear hm4 hb4 hat hfa)
      have HBx : Veil ((w4.alloc (.cells #[.slice a.pp n.ps.length a.cp, .slice a.pk n.ks.length a.ck, .slice a.pd n.ds.length a.cd] 92)).heap[w4.heap.size]? = some (.cells #[.slice a.pp n.ps.length a.cp, .slice a.pk n.ks.length a.ck, .slice a.pd n.ds.length a.cd] 92 (0, 0))) := ⟨heap_alloc_new _ _⟩
      have HAt : Veil (NdAt (w4.alloc (.cells #[.slice a.pp n.ps.length a.cp, .slice a.pk n.ks.length a.ck, .slice a.pd n.ds.length a.cd] 92)) n a) := ⟨HAt0.out.below (below_al (Below.refl _ _) _)⟩
      have HB45 : Veil (Below w4.heap.size w4 (w4.alloc (.cells #[.slice a.pp n.ps.length a.cp, .slice a.pk n.ks.length a.ck, .slice a.pd n.ds.length a.cd] 92)) ∧ w4.heap.size + 1 = (w4.alloc (.cells #[.slice a.pp n.ps.length a.cp, .slice a.pk n.ks.length a.ck, .slice a.pd n.ds.length a.cd] 92)).heap.size) := ⟨below_al (Below.refl _ _) _, by simp⟩
      generalize w4.alloc (.cells #[.slice a.pp n.ps.length a.cp, .slice a.pk n.ks.length a.ck, .slice a.pd n.ds.length a.cd] 92) = w5 at HBx HAt HB45 ⊢
      refine region_new [.is (.agg #[.slice a.pp n.ps.length a.cp, .slice a.pk n.ks.length a.ck, .slice a.pd n.ds.length a.cd]), .is (.agg #[.slice a.pp n.ps.length a.cp, .slice a.pk n.ks.length a.ck, .slice a.pd n.ds.length a.cd]), .is (.string ⟨key.toArray⟩), .is (.int .i64 i), .is (.agg #[.slice a.pp n.ps.length a.cp, .slice a.pk n.ks.length a.ck, .slice a.pd n.ds.length a.cd, .int .i64 i]), .row w5.heap.size (fun g => .pointer (some ⟨g, 0, none⟩)) #[.slice a.pp n.ps.length a.cp, .slice a.pk n.ks.length a.ck, .slice a.pd n.ds.length a.cd, .int .i64 i] 94]
        [[], [], [], [(1, 38), (2, 39)], [(0, 37), (3, 40)], [(4, 41)]]
        [[], [], [], [1, 2], [0, 3], [4]]
        [(0, 37), (1, 38), (2, 39), (3, 40), (4, 41), (5, 42)] rfl (by kernel_rfl) ⟨?_, ?_, ?_, ?_, ?_, ?_, trivial⟩ ?_
      · intro vals W hB _
        obtain ⟨⟨b0, b1, b2⟩, -⟩ := box3 ((hB.block _ (lt_of_heap HBx.out)).trans HBx.out)
        dsimp only [putsL, slotOf]
        go_wp2
        exact ⟨rfl, Below.refl _ _, rfl⟩
      · intro vals W hB _
        obtain ⟨⟨b0, b1, b2⟩, -⟩ := box3 ((hB.block _ (lt_of_heap HBx.out)).trans HBx.out)
        dsimp only [putsL, slotOf]
        go_wp2
        exact ⟨rfl, Below.refl _ _, rfl⟩
      · intro vals W hB _
        dsimp only [putsL, slotOf]
        go_wp2
        exact ⟨rfl, Below.refl _ _, rfl⟩
      · intro vals W hB ⟨h1, h2, _⟩
        have h1 : vals 1 = _ := h1
        have h2 : vals 2 = _ := h2
        dsimp only [putsL, slotOf]
        rw [h1, h2]
        go_wp2_with (go_at_call 49; refine (HPl.out _ _ (HAt.out.below hB)).mono ?_; rintro e w8 ⟨rfl, hb4⟩)
        exact ⟨rfl, hb4, rfl⟩
      · intro vals W hB ⟨h0, h3, _⟩
        have h0 : vals 0 = _ := h0
        have h3 : vals 3 = _ := h3
        dsimp only [putsL, slotOf]
        rw [h0, h3]
        go_wp2
        exact ⟨rfl, Below.refl _ _, rfl⟩
      · intro vals W hB ⟨h4, _⟩
        have h4 : vals 4 = _ := h4
        dsimp only [putsL, slotOf]
        rw [h4]
        go_wp2
        exact ⟨rfl, below_al (Below.refl _ _) _, _, hB.size, rfl, heap_alloc_new _ _⟩
      rintro vals W hB ⟨q0, q1, q2, q3, q4, ⟨g5, hw5, q5, hg5⟩, -⟩
      have h0 : vals 0 = _ := q0
      have h1 : vals 1 = _ := q1
      have h2 : vals 2 = _ := q2
      have h3 : vals 3 = _ := q3
      have h4 : vals 4 = _ := q4
      have h5 : vals 5 = _ := q5
      dsimp only [putsL]
      rw [h0, h1, h2, h3, h4, h5]
      clear h0 q0 h1 q1 h2 q2 h3 q3 h4 q4 h5 q5
      simp only [List.length_cons, List.length_nil, Nat.reduceAdd, List.drop_succ_cons, List.drop_zero, List.setIfInBounds_toArray, List.set_cons_succ, List.set_cons_zero]
      obtain ⟨hb45, hz45⟩ := HB45.out
      have hb4W : Below w4.heap.size w4 W := hb45.trans (hB.mono (by omega))
      have HHw : Veil (Below w4.heap.size w4 W ∧ w4.heap.size ≤ g5 ∧ W.heap[g5]? = some (.cells #[.slice a.pp n.ps.length a.cp, .slice a.pk n.ks.length a.ck, .slice a.pd n.ds.length a.cd, .int .i64 i] 94 (0, 0))) := ⟨hb4W, by omega, hg5⟩
      have HBw : Veil (W.heap[w4.heap.size]? = some (.cells #[.slice a.pp n.ps.length a.cp, .slice a.pk n.ks.length a.ck, .slice a.pd n.ds.length a.cd] 92 (0, 0))) := ⟨(hB.block _ (lt_of_heap HBx.out)).trans HBx.out⟩
      have HOw : Veil (OwnE elS (W.alloc (.cells #[.pointer (some ⟨g5, 0, none⟩)] 89)) w.heap.size (.slice pa l.length ca) (l.map (·.1))) := ⟨(hI.out.o.below ((HM4.out.2.trans (hb4W.mono HM4.out.2.size)))).below (below_al (Below.refl _ _) _)⟩
      have HHy : Veil (∀ v9 w9, OwnE elS w9 w.heap.size v9 (l.map (·.1) ++ [g5]) → (W.alloc (.cells #[.pointer (some ⟨g5, 0, none⟩)] 89)).grownBy w9 (Value.slice pa l.length ca).ownBlock → (∀ k, v9.ownBlock = some k → (Value.slice pa l.length ca).ownBlock = some k ∨ (W.alloc (.cells #[.pointer (some ⟨g5, 0, none⟩)] 89)).heap.size ≤ k) → (∃ A' E', WayN w (l ++ [(g5, n, i)]) v9 A' E' w9) ∧ w9.heap[w4.heap.size]? = some (.cells #[.slice a.pp n.ps.length a.cp, .slice a.pk n.ks.length a.ck, .slice a.pd n.ds.length a.cd] 92 (0, 0)) ∧ w9.heap[g5]? = some (.cells #[.slice a.pp n.ps.length a.cp, .slice a.pk n.ks.length a.ck, .slice a.pd n.ds.length a.cd, .int .i64 i] 94 (0, 0)) ∧ NdAt w9 n a) := ⟨fun v9 w9 h1 h2 h3 => by
        have k1 : Below W.heap.size W (W.alloc (.cells #[.pointer (some ⟨g5, 0, none⟩)] 89)) := below_al (Below.refl _ _) _
        obtain ⟨q1, q2, q3⟩ := HHw.out
        have c5 := (k1.block _ (lt_of_heap q3)).trans q3
        have c4 := (k1.block _ (lt_of_heap HBw.out)).trans HBw.out
        have k2 := q1.trans (k1.mono q1.size)
        have hT : Turned (fun j => (Value.slice pa l.length ca).ownBlock = some j) (W.alloc (.cells #[.pointer (some ⟨g5, 0, none⟩)] 89)) w9 := Turned.grown h2 (fun j hj _ => hj)
        have hlt : ∀ j, (Value.slice pa l.length ca).ownBlock = some j → j < w4.heap.size := fun j hj => Nat.lt_of_lt_of_le (hI.out.o.lt hj).2 HM4.out.2.size
        obtain ⟨a', e1, e2, e3, hat', -⟩ := ((HM4.out.1.below k2).apart hT (fun j hj e => by
          have := (hI.out.o.lt e).2
          rcases hj with hj | hj | hj
          · have := (HM4.out.1.p.lt hj).1; omega
          · have := (HM4.out.1.k.lt hj).1; omega
          · have := (HM4.out.1.d.lt hj).1; omega)).parts
        refine ⟨hI.out.next HM4.out.1 HM4.out.2 k2 q2 c5 h1 h2 h3, hT.heap c4 (fun e => by have := hlt _ e; omega), hT.heap c5 (fun e => by have := hlt _ e; omega), ?_⟩
        obtain ⟨app, acp, apk, ack, apd, acd⟩ := a
        obtain ⟨bpp, bcp, bpk, bck, bpd, bcd⟩ := a'
        simp only [Value.slice.injEq] at e1 e2 e3
        obtain ⟨rfl, -, rfl⟩ := e1
        obtain ⟨rfl, -, rfl⟩ := e2
        obtain ⟨rfl, -, rfl⟩ := e3
        exact hat'⟩
      have hln : (l.map (·.1)).length ≤ 1000000 := by rw [List.length_map]; omega
      clear hg5 hb45 hz45 hB hb4W HBx HAt HB45 HAt0
      go_wp2_with (at_builtin; refine wpList_append_el elS rfl _ _ rfl w.heap.size (.slice pa l.length ca) (l.map (·.1)) g5 rfl HOw.out W.heap.size rfl (heap_alloc_new _ _) hln (by have := HHw.out.1.size; have := HM4.out.2.size; have := hI.out.t.size; simp; omega) ?_; intro v9 w9 ho9 hgr9 hv9; obtain ⟨⟨A', E', hN9⟩, hbx9, hc9, hat9⟩ := HHy.out v9 w9 ho9 hgr9 hv9; obtain ⟨p9, c9, hv9', -⟩ := ho9.form; subst hv9'; obtain ⟨⟨b0, b1, b2⟩, -⟩ := box3 hbx9; have hlb := lt_of_heap hbx9; have HN9 : Veil _ := ⟨hN9⟩; have HBy : Veil _ := ⟨hbx9⟩; have HCy : Veil _ := ⟨hc9⟩; have HAy : Veil _ := ⟨hat9⟩; clear hN9 hbx9 hc9 hat9 ho9 hgr9 hv9)
      · refine bodyPost_ret (results_two rfl rfl rfl) rfl ?_
        have e := HN9.out
        rw [List.length_append, List.length_map] at e
        refine ⟨_, _, A', E', rfl, e, ?_⟩
        rw [← hI.out.q, List.map_append]
        rcases HCase.out with ⟨rfl, -⟩ | ⟨h1, -⟩
        · rfl
        · have e0 : (((n.ds.length : Nat) : Int) == 0) = true := by assumption
          have := eq_of_beq e0
          omega
      · have hds : n.ds ≠ [] := fun e => by simp [e] at *
        obtain ⟨db, d0, hpd, hcs⟩ := HAy.out.d hds
        obtain ⟨hil, hnx⟩ : i < n.ds.length ∧ PathS k key (n.ds.getD i 0) r := by
          rcases HCase.out with ⟨-, h1⟩ | h1
          · exact absurd (List.eq_nil_of_length_eq_zero h1) hds
          · exact h1
        have HDp : Veil _ := ⟨hpd⟩
        obtain ⟨dd, hdd⟩ : ∃ dd, n.ds.getD i 0 = dd := ⟨_, rfl⟩
        rw [hdd] at hnx
        have HDc : Veil (w9.cell? ⟨db, d0 + i, none⟩ = some (.int .u32 (dd : Nat))) := ⟨by
          have := hcs i 0 hil (by decide)
          simp only [elD, Nat.mul_one, Nat.add_zero] at this
          rw [this, hdd]; rfl⟩
        have HNx : Veil _ := ⟨hnx⟩
        have hds0 : ¬ ((n.ds.length : Nat) : Int) = 0 := by omega
        clear hpd hcs hnx b0 b1 b2 hds hdd
        refine region_new [.is (.pointer (some ⟨w4.heap.size, 2, none⟩)), .is (.slice (some ⟨db, d0, none⟩) n.ds.length a.cd), .is (.pointer (some ⟨g5, 0, none⟩)), .is (.pointer (some ⟨g5, 0, none⟩)), .is (.pointer (some ⟨g5, 3, none⟩)), .is (.int .i64 i), .is (.pointer (some ⟨db, d0 + i, none⟩)), .is (.int .u32 dd)]
          [[], [(0, 52)], [], [(2, 54)], [(3, 55)], [(4, 56)], [(1, 53), (5, 57)], [(6, 58)]]
          [[], [0], [], [2], [3], [4], [1, 5], [6]]
          [(0, 52), (1, 53), (2, 54), (3, 55), (4, 56), (5, 57), (6, 58), (7, 59)] rfl (by kernel_rfl) ⟨?_, ?_, ?_, ?_, ?_, ?_, ?_, ?_, trivial⟩ ?_
        · intro vals W hB _
          dsimp only [putsL, slotOf]
          go_wp2
          exact ⟨rfl, Below.refl _ _, rfl⟩
        · intro vals W hB ⟨h0, _⟩
          have h0 : vals 0 = _ := h0
          obtain ⟨⟨b0, b1, b2⟩, -⟩ := box3 ((hB.block _ (lt_of_heap HBy.out)).trans HBy.out); rw [HDp.out] at b2
          dsimp only [putsL, slotOf]
          rw [h0]
          go_wp2
          exact ⟨rfl, Below.refl _ _, rfl⟩
        · intro vals W hB _
          dsimp only [putsL, slotOf]
          go_wp2
          exact ⟨rfl, Below.refl _ _, rfl⟩
        · intro vals W hB ⟨h2, _⟩
          have h2 : vals 2 = _ := h2
          dsimp only [putsL, slotOf]
          rw [h2]
          go_wp2
          exact ⟨rfl, Below.refl _ _, rfl⟩
        · intro vals W hB ⟨h3, _⟩
          have h3 : vals 3 = _ := h3
          dsimp only [putsL, slotOf]
          rw [h3]
          go_wp2
          exact ⟨rfl, Below.refl _ _, rfl⟩
        · intro vals W hB ⟨h4, _⟩
          have h4 : vals 4 = _ := h4
          have b3 : W.cell? ⟨g5, 3, none⟩ = some (.int .i64 i) := cell_whole (cur := [_, _, _, _]) ((hB.block _ (lt_of_heap HCy.out)).trans HCy.out) 3
          dsimp only [putsL, slotOf]
          rw [h4]
          go_wp2
          exact ⟨rfl, Below.refl _ _, rfl⟩
        · intro vals W hB ⟨h1, h5, _⟩
          have h1 : vals 1 = _ := h1
          have h5 : vals 5 = _ := h5
          have hi1 : (i : Int) < n.ds.length := by omega
          dsimp only [putsL, slotOf]
          rw [h1, h5]
          go_wp2
          exact ⟨rfl, Below.refl _ _, rfl⟩
        · intro vals W hB ⟨h6, _⟩
          have h6 : vals 6 = _ := h6
          have b4 : W.cell? ⟨db, d0 + i, none⟩ = some (.int .u32 dd) := (hB.cell (World.block_lt_of_cell? _ _ HDc.out)).trans HDc.out
          dsimp only [putsL, slotOf]
          rw [h6]
          go_wp2
          exact ⟨rfl, Below.refl _ _, rfl⟩
        rintro vals W hB ⟨q0, q1, q2, q3, q4, q5, q6, q7, -⟩
        have h0 : vals 0 = _ := q0
        have h1 : vals 1 = _ := q1
        have h2 : vals 2 = _ := q2
        have h3 : vals 3 = _ := q3
        have h4 : vals 4 = _ := q4
        have h5 : vals 5 = _ := q5
        have h6 : vals 6 = _ := q6
        have h7 : vals 7 = _ := q7
        dsimp only [putsL]
        rw [h0, h1, h2, h3, h4, h5, h6, h7]
        clear h0 q0 h1 q1 h2 q2 h3 q3 h4 q4 h5 q5 h6 q6 h7 q7
        simp only [List.length_cons, List.length_nil, Nat.reduceAdd, List.drop_succ_cons, List.drop_zero, List.setIfInBounds_toArray, List.set_cons_succ, List.set_cons_zero]
        have HW : Veil _ := ⟨HN9.out.below hB⟩
        clear hB
        go_wp2
        have e := HW.out
        rw [List.length_append, List.length_map] at e
        refine ⟨⟨l ++ [(g5, n, i)], r, dd, A', E', rfl, ⟨e.more HNx.out ?_⟩⟩, ?_⟩
        · rw [← hI.out.q, List.map_append, List.append_assoc]
          rfl
        · simp only [slLen, List.length_map]
          omega
end Go.Proofs.YtokbmimbbeedcaaGreatDoor

/- Trees, by the program: what a call is refused for. -/
namespace Go.Proofs.YtokbmimbbeedcaaGreatDoor
open Go Go.RowKit Sm
attribute [local go_sem] Oper.semAt_some

def refS (told : Int) (key : List UInt8) (vs : List (List UInt8)) : Int := if told ≠ 0 then told else if key.length < 1 ∨ 24 < key.length then 71 else if vs.any (fun v => decide (60 < v.length)) then 71 else 0
set_option maxRecDepth 20000 in
set_option maxHeartbeats 2000000 in
theorem refusal_of {w : World} {P : Value} {told : Int} (HEn : Veil (Calls Tryz.prog 36 #[P] w fun e w' => e = .returned (.int .i64 told) ∧ w' = w)) (key : List UInt8) (q : Option Addr) (c : Nat) (vs : List (List UInt8)) (he : Els elK w q vs) (hv : vs.length ≤ 1000) : Calls Tryz.prog 27 #[P, .string ⟨key.toArray⟩, .slice q vs.length c] w fun e w' => e = .returned (.int .i64 (refS told key vs)) ∧ w' = w := by
  by_cases ht : told = 0
  · subst ht
    by_cases hk1 : key.length < 1
    · have e : refS 0 key vs = 71 := by unfold refS; rw [if_neg (by simp), if_pos (.inl hk1)]
      rw [e]
      have hk : (key.length : Int) < 1 := by omega
      clear he hv e hk1
      go_enter Tryz.func27, Tryz.ntmps27
      go_wp2_with (go_at_call 36; refine HEn.out.mono ?_; rintro e w2 ⟨rfl, rfl⟩)
      go_ret
      exact ⟨rfl, rfl⟩
    · by_cases hk2 : 24 < key.length
      · have e : refS 0 key vs = 71 := by unfold refS; rw [if_neg (by simp), if_pos (.inr hk2)]
        rw [e]
        have hk : ¬ (key.length : Int) < 1 := by omega
        have hk' : (24 : Int) < key.length := by omega
        clear he hv e hk1 hk2
        go_enter Tryz.func27, Tryz.ntmps27
        go_wp2_with (go_at_call 36; refine HEn.out.mono ?_; rintro e w2 ⟨rfl, rfl⟩)
        go_ret
        exact ⟨rfl, rfl⟩
      · have e : refS 0 key vs = if vs.any (fun v => decide (60 < v.length)) then 71 else 0 := by unfold refS; rw [if_neg (by simp), if_neg (by omega)]
        rw [e]
        obtain ⟨R, hR⟩ : ∃ R, (if vs.any (fun v => decide (60 < v.length)) then (71 : Int) else 0) = R := ⟨_, rfl⟩
        rw [hR]
        have HR : Veil _ := ⟨hR⟩
        clear hR
        have hk : ¬ (key.length : Int) < 1 := by omega
        have hk' : ¬ (24 : Int) < key.length := by omega
        have HV : Veil _ := ⟨he⟩
        clear he e hk1 hk2
        go_enter Tryz.func27, Tryz.ntmps27
        go_wp2_with (go_at_call 36; refine HEn.out.mono ?_; rintro e w2 ⟨rfl, rfl⟩)
        go_loop [9, 25] (fun _ i => ∃ m : Nat, m ≤ vs.length ∧ i = .int .i64 m ∧ Veil (∀ j, j < m → ¬ 60 < (vs.getD j []).length)) (fun _ i => vs.length - (intOf i).toNat)
        case atStart => exact ⟨0, Nat.zero_le _, rfl, ⟨fun j hj => absurd hj (by omega)⟩⟩
        case round =>
          obtain ⟨m, hm, rfl, hno⟩ := hrel
          by_cases hlt : m < vs.length
          · obtain ⟨b, o, hq, hcs⟩ := HV.out (fun e => by rw [e] at hlt; simp at hlt)
            subst hq
            have hc1 := hcs m 0 hlt (by decide)
            simp only [elK, Nat.mul_one, Nat.add_zero, List.getElem?_cons_zero, sv] at hc1
            obtain ⟨s, hs⟩ : ∃ s, vs.getD m [] = s := ⟨_, rfl⟩
            rw [hs] at hc1
            clear hcs
            by_cases h60 : 60 < s.length
            · have e : (if vs.any (fun v => decide (60 < v.length)) then (71 : Int) else 0) = 71 := if_pos (List.any_eq_true.2 ⟨s, by rw [← hs]; exact getD_mem hlt [], by simpa using h60⟩)
              have h60' : (60 : Int) < s.length := by omega
              have HE : Veil _ := ⟨e⟩
              clear e hs h60
              go_wp2
              go_ret
              exact ⟨by rw [← HR.out, HE.out]; rfl, rfl⟩
            · have h60' : ¬ (60 : Int) < s.length := by omega
              have hno2 : Veil (∀ j, j < m + 1 → ¬ 60 < (vs.getD j []).length) := ⟨fun j hj => by
                rcases Nat.lt_or_ge j m with h1 | h1
                · exact hno.out j h1
                · obtain rfl : j = m := by omega
                  rw [hs]; exact h60⟩
              clear hs hno h60
              go_wp2
              refine ⟨⟨m + 1, by omega, by go_num, hno2⟩, ?_⟩
              simp only [intOf]; omega
          · obtain rfl : m = vs.length := by omega
            have e : (if vs.any (fun v => decide (60 < v.length)) then (71 : Int) else 0) = 0 := if_neg (fun h => by
              obtain ⟨x, hx, hx2⟩ := List.any_eq_true.1 h
              obtain ⟨j, hj, rfl⟩ := List.getElem_of_mem hx
              have := hno.out j hj
              rw [getD_of hj] at this
              simp at hx2
              omega)
            have HE : Veil _ := ⟨e⟩
            clear e hno
            go_wp2
            go_ret
            exact ⟨by rw [← HR.out, HE.out]; rfl, rfl⟩
  · have e : refS told key vs = told := if_pos ht
    rw [e]
    have hb : (told == 0) = false := by rw [beq_eq_false_iff_ne]; exact ht
    clear he hv e
    go_enter Tryz.func27, Tryz.ntmps27
    go_wp2_with (go_at_call 36; refine HEn.out.mono ?_; rintro e w2 ⟨rfl, rfl⟩)
    go_ret
    exact ⟨rfl, rfl⟩
end Go.Proofs.YtokbmimbbeedcaaGreatDoor

/- Trees, by the program: the crown of a way. -/
namespace Go.Proofs.YtokbmimbbeedcaaGreatDoor
open Go Go.RowKit Sm
attribute [local go_sem] Oper.semAt_some

/-- The root is another one. -/
theorem ChAt.root' {w : World} {C Wb : Nat} {k : Wk} {c : Ch} (h : ChAt w C Wb k c) (W : World) (hW : Below w.heap.size w W) (r : Nat) : ChAt (W.setCell ⟨C, 1, none⟩ (.int .u32 r)) C Wb k { c with root := r } ∧ Turned (· = C) w (W.setCell ⟨C, 1, none⟩ (.int .u32 r)) := by
  have hT : Turned (· = C) w (W.setCell ⟨C, 1, none⟩ (.int .u32 r)) := (Turned.new hW : Turned (· = C) w W).setCell (p := ⟨C, 1, none⟩) rfl _
  refine ⟨h.frame (c' := { c with root := r }) hT (fun _ e => e) ?_ (h.al.turnedC hT fun a ha => (h.old a ha).1) h.old rfl rfl, hT⟩
  exact heap_setCell_at ((hW.block _ (lt_of_heap h.cb)).trans h.cb) 1 _

set_option maxRecDepth 20000 in
set_option maxHeartbeats 2000000 in
theorem crown_one {w : World} {C Wb : Nat} {k : Wk} {c : Ch} (h : ChAt w C Wb k c) {A len cap s0 db d0 d i : Nat} {p1 p2 : Option Addr} {n1 n2 c1 c2 cd : Nat} (hl : 1 ≤ len) (hA : w.cell? ⟨A, 0, none⟩ = some (.pointer (some ⟨s0, 0, none⟩))) (hs : w.heap[s0]? = some (.cells #[.slice p1 n1 c1, .slice p2 n2 c2, .slice (some ⟨db, d0, none⟩) 1 cd, .int .i64 i] 94 (0, 0))) (hd : w.cell? ⟨db, d0, none⟩ = some (.int .u32 d)) : Calls Tryz.prog 47 #[.pointer (some ⟨C, 0, none⟩), .slice (some ⟨A, 0, none⟩) len cap] w fun e w' => e = .returned .nilIface ∧ ChAt w' C Wb k { c with root := d } ∧ Turned (· = C) w w' := by
  have hlc : C < w.heap.size := lt_of_heap h.cb
  have HE : Veil _ := ⟨fun (W : World) hW => h.root' W hW d⟩
  have HW1 : Veil (∀ W, Below w.heap.size w W → (W.cell? ⟨C, 1, none⟩ = some (.int .u32 c.root) ∧ W.frozen? ⟨C, 1, none⟩ = false) ∧ W.cell? ⟨db, d0, none⟩ = some (.int .u32 d)) := ⟨fun W hW => ⟨⟨(ch_cells ((hW.block _ hlc).trans h.cb)).1 1, (ch_cells ((hW.block _ hlc).trans h.cb)).2 1⟩, (hW.cell (World.block_lt_of_cell? _ _ hd)).trans hd⟩⟩
  have b0 : w.cell? ⟨s0, 0, none⟩ = some (.slice p1 n1 c1) := cell_whole (cur := [_, _, _, _]) hs 0
  have b1 : w.cell? ⟨s0, 1, none⟩ = some (.slice p2 n2 c2) := cell_whole (cur := [_, _, _, _]) hs 1
  have b2 : w.cell? ⟨s0, 2, none⟩ = some (.slice (some ⟨db, d0, none⟩) 1 cd) := cell_whole (cur := [_, _, _, _]) hs 2
  have HB1 : Veil (Below w.heap.size w (w.alloc (.cells #[.slice p1 n1 c1, .slice p2 n2 c2, .slice (some ⟨db, d0, none⟩) 1 cd] 92))) := ⟨below_al (Below.refl _ _) _⟩
  have hl' : (0 : Int) < len := by omega
  have HX := HW1.out _ HB1.out
  obtain ⟨⟨x1, x2⟩, x3⟩ := HX
  clear h hs hd HW1
  go_enter Tryz.func47, Tryz.ntmps47
  go_wp2
  go_ret
  obtain ⟨e1, e2⟩ := HE.out w (Below.refl _ _)
  exact ⟨rfl, e1.below (below_al (Below.refl _ _) _), e2.alloc _⟩

set_option maxRecDepth 20000 in
set_option maxHeartbeats 4000000 in
theorem crown_more {w : World} {C Wb : Nat} {k : Wk} {c : Ch} (h : ChAt w C Wb k c) {A len cap s0 i : Nat} {n : Nd} {a : NdP} (hl : 1 ≤ len) (hl2 : len ≤ 64) (hA : w.cell? ⟨A, 0, none⟩ = some (.pointer (some ⟨s0, 0, none⟩))) (hs : w.heap[s0]? = some (.cells #[.slice a.pp n.ps.length a.cp, .slice a.pk n.ks.length a.ck, .slice a.pd n.ds.length a.cd, .int .i64 i] 94 (0, 0))) (hn : NdAt w n a) (hf : SlOk a.pk n.ks.length a.ck) (hok : Veil n.Ok) (hfit : n.fits = true) (hds : n.ds.length ≠ 1) : Calls Tryz.prog 47 #[.pointer (some ⟨C, 0, none⟩), .slice (some ⟨A, 0, none⟩) len cap] w fun e w' => ∃ p cp, e = .returned .nilIface ∧ ChAt w' C Wb k { c.wrote k 0 n p cp with root := c.copyId k 0 } ∧ Turned (fun x => x = C ∨ x = c.bp) w w' := by
  have HWr : Veil (∀ W, Below w.heap.size w W → Calls Tryz.prog 66 #[.pointer (some ⟨C, 0, none⟩), .int .u32 0, .agg #[.slice a.pp n.ps.length a.cp, .slice a.pk n.ks.length a.ck, .slice a.pd n.ds.length a.cd]] W fun e w' => ∃ p cp, e = .returned (.tuple #[.int .u32 (c.copyId k 0), .nilIface]) ∧ ChAt w' C Wb k (c.wrote k 0 n p cp) ∧ Turned (fun x => x = C ∨ x = c.bp) W w') := ⟨fun W hW => cwrite_any (h.below hW) 0 (.inr rfl) (hn.below hW) hf hok hfit⟩
  have HE : Veil (∀ p cp W, ChAt W C Wb k (c.wrote k 0 n p cp) → ((W.cell? ⟨C, 1, none⟩ = some (.int .u32 (c.wrote k 0 n p cp).root) ∧ W.frozen? ⟨C, 1, none⟩ = false) ∧ C < W.heap.size) ∧ ChAt (W.setCell ⟨C, 1, none⟩ (.int .u32 (c.copyId k 0))) C Wb k { c.wrote k 0 n p cp with root := c.copyId k 0 } ∧ Turned (· = C) W (W.setCell ⟨C, 1, none⟩ (.int .u32 (c.copyId k 0)))) := ⟨fun p cp W hW => ⟨⟨⟨(ch_cells hW.cb).1 1, (ch_cells hW.cb).2 1⟩, lt_of_heap hW.cb⟩, hW.root' W (Below.refl _ _) _⟩⟩
  have b0 : w.cell? ⟨s0, 0, none⟩ = some (.slice a.pp n.ps.length a.cp) := cell_whole (cur := [_, _, _, _]) hs 0
  have b1 : w.cell? ⟨s0, 1, none⟩ = some (.slice a.pk n.ks.length a.ck) := cell_whole (cur := [_, _, _, _]) hs 1
  have b2 : w.cell? ⟨s0, 2, none⟩ = some (.slice a.pd n.ds.length a.cd) := cell_whole (cur := [_, _, _, _]) hs 2
  have HB1 : Veil (Below w.heap.size w (w.alloc (.cells #[.slice a.pp n.ps.length a.cp, .slice a.pk n.ks.length a.ck, .slice a.pd n.ds.length a.cd] 92))) := ⟨below_al (Below.refl _ _) _⟩
  have hl' : (0 : Int) < len := by omega
  have hl2' : ¬ (64 : Int) < len := by omega
  have hd1 : (((n.ds.length : Nat) : Int) == 1) = false := by rw [beq_eq_false_iff_ne]; omega
  clear h hs hn hf hok hfit hds
  revert HWr HE
  generalize c.copyId k 0 = ci
  intro HWr HE
  go_enter Tryz.func47, Tryz.ntmps47
  go_wp2_with (go_at_call 66; refine (HWr.out _ HB1.out).mono ?_; rintro e w4 ⟨p4, cp4, rfl, hA4, hT4⟩; obtain ⟨⟨⟨x1, x2⟩, x3⟩, h4⟩ := HE.out p4 cp4 _ hA4; have H4 : Veil _ := ⟨And.intro hT4 h4⟩; clear hA4 hT4 h4)
  go_ret
  obtain ⟨e1, e2, e3⟩ := H4.out
  exact ⟨p4, cp4, rfl, e2, (Turned.new HB1.out : Turned (fun x => x = C ∨ x = c.bp) w _).trans (e1.trans (e3.wider fun _ _ e => .inl e))⟩
end Go.Proofs.YtokbmimbbeedcaaGreatDoor

/- Trees, by the program: kids, and its iterator. -/
namespace Go.Proofs.YtokbmimbbeedcaaGreatDoor
open Go Go.RowKit Sm
attribute [local go_sem] Oper.semAt_some

theorem tkids_any (v1 v2 v3 : Value) (w : World) : Calls Tryz.prog 55 #[.agg #[v1, v2, v3]] w fun e w' => e = .returned (.func (.func 80) #[] #[.pointer (some ⟨w.heap.size, 0, none⟩)]) ∧ w.alloc (.cells #[v1, v2, v3] 92) = w' := by
  go_enter Tryz.func55, Tryz.ntmps55
  go_wp2
  go_ret
  exact ⟨rfl, rfl⟩
def handsD (L : List Nat) (k : Nat) : Array Value := #[.int .u32 (L.getD k 0)]
def ReadsD (Bx : Nat) (v1 v2 : Value) (p : Option Addr) (L : List Nat) (cap : Nat) (W : World) : Prop := W.heap[Bx]? = some (.cells #[v1, v2, .slice p L.length cap] 92 (0, 0)) ∧ Els elD W p L
theorem els_atD {w : World} {p : Option Addr} {L : List Nat} (h : Els elD w p L) {k : Nat} (hk : k < L.length) : ∃ b o, p = some ⟨b, o, none⟩ ∧ w.cell? ⟨b, o + k, none⟩ = some (.int .u32 (L.getD k 0)) := by
  obtain ⟨b, o, hp, hc⟩ := h (by rintro rfl; simp at hk)
  have := hc k 0 hk (by decide)
  exact ⟨b, o, hp, by rwa [show o + k * elD.z + 0 = o + k from by show o + k * 1 + 0 = o + k; omega] at this⟩

set_option maxRecDepth 20000 in
set_option maxHeartbeats 1000000 in
theorem tkids_seq (Bx : Nat) (v1 v2 : Value) (p : Option Addr) (L : List Nat) (cap : Nat) (hl : L.length ≤ 1000000) :
    Seq Tryz.prog 80 #[.pointer (some ⟨Bx, 0, none⟩)] (handsD L) L.length (ReadsD Bx v1 v2 p L cap) := by
  intro l n J Jx W hJ hJx hF hY h0
  obtain ⟨hf1, -⟩ := hF 0 W h0
  obtain ⟨⟨-, -, b2⟩, -⟩ := box3 hf1
  clear hf1
  refine callsIn_of_wp Tryz.func80 rfl trivial ?_
  simp only [Tryz.ntmps80, List.size_toArray, List.length_cons, List.length_nil, Nat.reduceAdd, Nat.reduceSub, Array.replicate_succ, Array.replicate_zero, List.push_toArray, List.append_toArray, List.nil_append, List.cons_append]
  gi_wp2
  gi_loopw [8] (fun i wr => ∃ k : Nat, k ≤ L.length ∧ i = .int .i64 k ∧ J k wr) (fun i _ => L.length - (intOf i).toNat)
  case atStart => exact ⟨0, Nat.zero_le _, rfl, h0⟩
  case round =>
    obtain ⟨k, hk, rfl, hj⟩ := hrel
    clear b2
    by_cases hlt : k < L.length
    · obtain ⟨-, hs⟩ := hF k wr hj
      obtain ⟨b, o, rfl, c1⟩ := els_atD hs hlt
      have hYk := fun A hA => hY k A hlt hA
      simp only [handsD] at hYk
      have HY := Lib.hid hYk
      clear hs hY hF hYk hJ hJx
      revert c1 HY
      generalize L.getD k 0 = s
      intro c1 HY
      obtain ⟨fn, tmps, assign, body, hy, hR⟩ := HY.out _ hj
      gi_wp2
      refine hR.mono ?_
      rintro e W3 (⟨rfl, hj'⟩ | ⟨rfl, hjx⟩)
      · gi_wp2
        go_roundw
        case rel => exact ⟨k + 1, by omega, by go_num, hj'⟩
        case measure => simp [intOf]; omega
      · gi_wp2
        refine bodyPost_ret (results_none rfl _ _ _) rfl ?_
        exact ⟨⟨_, rfl⟩, .inr ⟨k, hlt, hjx⟩⟩
    · obtain rfl : k = L.length := by omega
      gi_wp2
      go_end0
      exact ⟨⟨_, rfl⟩, .inl hj⟩
end Go.Proofs.YtokbmimbbeedcaaGreatDoor

/- Trees, by the program: what All looks up (reckoning and facts). -/
namespace Go.Proofs.YtokbmimbbeedcaaGreatDoor
open Go Go.RowKit Sm

/-- What stands below a page: its height, its node, its pairs. -/
def Tr (pg : Nat → Option Nd) : Nat → Nat → Nd → List Pr → Prop
  | 0, id, n, L => pg id = some n ∧ n.ds = [] ∧ L = n.ps
  | h + 1, id, n, L => pg id = some n ∧ n.ps = [] ∧ n.ds ≠ [] ∧ ∃ (ms : List Nd) (Ls : List (List Pr)), ms.length = n.ds.length ∧ Ls.length = n.ds.length ∧ (∀ j, j < n.ds.length → Tr pg h (n.ds.getD j 0) (ms.getD j Nd.zero) (Ls.getD j [])) ∧ L = Ls.flatten
section
variable {pg : Nat → Option Nd}
theorem Tr.page : ∀ {h id : Nat} {n : Nd} {L : List Pr}, Tr pg h id n L → pg id = some n
  | 0, _, _, _, h => h.1
  | _ + 1, _, _, _, h => h.1
theorem list_getD_ext {α : Type} {a b : List α} (d : α) (hl : a.length = b.length) (h : ∀ j, j < a.length → a.getD j d = b.getD j d) : a = b := by
  apply List.ext_getElem hl
  intro i h1 h2
  have := h i h1
  simpa [List.getD, h1, h2] using this
theorem Tr.det : ∀ {h : Nat} {h' id : Nat} {n n' : Nd} {L L' : List Pr}, Tr pg h id n L → Tr pg h' id n' L' → h = h' ∧ n = n' ∧ L = L'
  | 0, 0, _, _, _, _, _, ha, hb => by
    obtain ⟨a1, a2, a3⟩ := ha
    obtain ⟨b1, b2, b3⟩ := hb
    rw [a1] at b1
    cases b1
    exact ⟨rfl, rfl, by rw [a3, b3]⟩
  | 0, _ + 1, _, _, _, _, _, ha, hb => by
    obtain ⟨a1, a2, -⟩ := ha
    obtain ⟨b1, -, b3, -⟩ := hb
    rw [a1] at b1
    cases b1
    exact absurd a2 b3
  | _ + 1, 0, _, _, _, _, _, ha, hb => by
    obtain ⟨a1, -, a2, -⟩ := ha
    obtain ⟨b1, b3, -⟩ := hb
    rw [a1] at b1
    cases b1
    exact absurd b3 a2
  | h + 1, h' + 1, _, n, _, _, _, ha, hb => by
    obtain ⟨a1, -, a2, ms, Ls, a3, a4, a5, rfl⟩ := ha
    obtain ⟨b1, -, b2, ms', Ls', b3, b4, b5, rfl⟩ := hb
    rw [a1] at b1
    cases b1
    have h0 : 0 < n.ds.length := by cases hd : n.ds with | nil => exact absurd hd a2 | cons => simp
    have e := (Tr.det (a5 0 h0) (b5 0 h0)).1
    subst e
    refine ⟨rfl, rfl, ?_⟩
    rw [list_getD_ext [] (by omega) (fun j hj => (Tr.det (a5 j (by omega)) (b5 j (by omega))).2.2)]
end
/-- A sight, as memory holds it. -/
structure Sg where
  v1 : Value
  v2 : Value
  v3 : Value
  n : Nd
  h : Nat
  L : List Pr
def Sg.v (s : Sg) : Value := .agg #[s.v1, s.v2, s.v3, .int .i64 ((s.h + 1 : Nat) : Int), .bool s.L.isEmpty]
def seesG (pg : Nat → Option Nd) (B0 : Nat) (m : List (Nat × Sg)) (W : World) (x : Nat) (s : Sg) : Prop := Tr pg s.h x s.n s.L ∧ NdOwn W B0 s.v1 s.v2 s.v3 s.n ∧ ∀ d ∈ s.n.ds, (mget m d).isSome = true
/-- What was seen so far: nodes in blocks from B0 on. -/
structure Sv (pg : Nat → Option Nd) (B0 Mb : Nat) (m : List (Nat × Sg)) (W : World) : Prop where
  map : MapAt W Mb Sg.v m
  e : ∀ x s, mget m x = some s → seesG pg B0 m W x s
  lo : Mb < B0
  hi : B0 ≤ W.heap.size
section
variable {pg : Nat → Option Nd} {B0 Mb : Nat} {m : List (Nat × Sg)} {W W' : World}
theorem NdOwn.booked {B base : Nat} {v1 v2 v3 : Value} {n : Nd} (h : NdOwn W base v1 v2 v3 n) (hb : Booked B W W') : NdOwn W' base v1 v2 v3 n := ⟨hb.ownsRow h.p, hb.ownsRow h.k, hb.ownsRow h.d, h.pk, h.pd, h.kd⟩
theorem MapAt.booked {V : Type} {enc : V → Value} {b B : Nat} {m : List (Nat × V)} (h : MapAt W b enc m) (hb : Booked B W W') (hB : b < B) : MapAt W' b enc m := by
  obtain ⟨es, c, h1, hs, he⟩ := h.row
  exact ⟨h.nodup, es, c, hb.old h1 hB, hs, he⟩
theorem Sv.booked {B : Nat} (h : Sv pg B0 Mb m W) (hb : Booked B W W') (hB : Mb < B) : Sv pg B0 Mb m W' :=
  ⟨h.map.booked hb hB, fun x s hs => ⟨(h.e x s hs).1, (h.e x s hs).2.1.booked hb, (h.e x s hs).2.2⟩, h.lo, Nat.le_trans h.hi hb.size⟩
theorem Sv.below (h : Sv pg B0 Mb m W) (hb : Below W.heap.size W W') : Sv pg B0 Mb m W' :=
  ⟨h.map.below hb, fun x s hs => ⟨(h.e x s hs).1, (h.e x s hs).2.1.below hb, (h.e x s hs).2.2⟩, h.lo, Nat.le_trans h.hi hb.size⟩
/-- Blocks that hold none of it are turned. -/
theorem Sv.turned {F : Nat → Prop} (h : Sv pg B0 Mb m W) (ht : Turned F W W') (hM : ¬ F Mb) (hF : ∀ x s, mget m x = some s → ∀ j, (s.v1.ownBlock = some j ∨ s.v2.ownBlock = some j ∨ s.v3.ownBlock = some j) → ¬ F j) : Sv pg B0 Mb m W' :=
  ⟨h.map.turned ht hM, fun x s hs => ⟨(h.e x s hs).1, (h.e x s hs).2.1.apart ht (hF x s hs), (h.e x s hs).2.2⟩, h.lo, Nat.le_trans h.hi ht.size⟩
theorem Sv.old (h : Sv pg B0 Mb m W) {x : Nat} {s : Sg} (hs : mget m x = some s) {j : Nat} (hj : s.v1.ownBlock = some j ∨ s.v2.ownBlock = some j ∨ s.v3.ownBlock = some j) : B0 ≤ j ∧ j < W.heap.size := by
  obtain ⟨-, hn, -⟩ := h.e x s hs
  rcases hj with hj | hj | hj
  · exact hn.p.lt hj
  · exact hn.k.lt hj
  · exact hn.d.lt hj
/-- One more page, whose kids were seen. -/
theorem Sv.put (h : Sv pg B0 Mb m W) {x : Nat} {s : Sg} (hT : Tr pg s.h x s.n s.L) (hn : NdOwn W B0 s.v1 s.v2 s.v3 s.n) (hd : ∀ d ∈ s.n.ds, (mget m d).isSome = true) (hM : MapAt W' Mb Sg.v (mput m x s)) (ht : Turned (· = Mb) W W') : Sv pg B0 Mb (mput m x s) W' := by
  have hmo : ∀ d, (mget m d).isSome = true → (mget (mput m x s) d).isSome = true := fun d hd => by
    rw [mget_put]
    split
    · rfl
    · exact hd
  have hlo := h.lo
  refine ⟨hM, fun y t ht' => ?_, h.lo, Nat.le_trans h.hi ht.size⟩
  rw [mget_put] at ht'
  split at ht'
  · rename_i e
    subst e
    cases ht'
    exact ⟨hT, hn.kept ht (fun k hk e => by omega), fun d hd' => hmo d (hd d hd')⟩
  · obtain ⟨a, b, c⟩ := h.e y t ht'
    exact ⟨a, b.kept ht (fun k hk e => by omega), fun d hd' => hmo d (c d hd')⟩
theorem flatten_take_succ {α : Type} (Ls : List (List α)) (k : Nat) (hk : k < Ls.length) : (Ls.take (k + 1)).flatten = (Ls.take k).flatten ++ Ls.getD k [] := by
  rw [List.take_add_one, List.flatten_append]
  simp [List.getD, hk]
end
end Go.Proofs.YtokbmimbbeedcaaGreatDoor

/- Trees, by the program: a way of pages of the work is copied to itself. -/
namespace Go.Proofs.YtokbmimbbeedcaaGreatDoor
open Go Go.RowKit Sm
attribute [local go_sem] Oper.semAt_some

/-- A cell that is laid anew as it was. -/
theorem same_cell {w : World} {b o : Nat} {v : Value} (h : w.cell? ⟨b, o, none⟩ = some v) : Below w.heap.size w (w.setCell ⟨b, o, none⟩ v) := by
  have hT : Turned (· = b) w (w.setCell ⟨b, o, none⟩ v) := (Turned.refl (· = b) w).setCell (p := ⟨b, o, none⟩) rfl _
  have hT2 : Turned (fun _ => False) w (w.setCell ⟨b, o, none⟩ v) := by
    refine ⟨hT.os, hT.tape, hT.output, hT.size, fun k hk _ => ?_⟩
    by_cases e : k = b
    · subst e
      cases hk : w.heap[k]? with
      | none => simp [World.cell?, hk] at h
      | some ob =>
        cases ob with
        | cells cur t fr =>
          rw [heap_setCell_at hk o v]
          have hc : cur[o]? = some v := by simpa [World.cell?, hk] using h
          obtain ⟨ho, hv⟩ := Array.getElem?_eq_some_iff.1 hc
          have : cur.setIfInBounds o v = cur := by
            apply Array.ext
            · simp
            · intro i h1 h2
              rw [Array.getElem_setIfInBounds (by simpa using h1)]
              split
              · rename_i e; subst e; exact hv.symm
              · rfl
          rw [this]
        | _ => simp [World.cell?, hk] at h
    · exact hT.block k hk e
  exact hT2.toBelow (Nat.le_refl _) (fun _ _ e => e.elim)
set_option maxRecDepth 20000 in
theorem ccopied_mine {w : World} {C Wb : Nat} {k : Wk} {c : Ch} (h : ChAt w C Wb k c) (id : Nat) (hm : mineC k c id = true) : Calls Tryz.prog 77 #[.pointer (some ⟨C, 0, none⟩), .int .u32 id] w fun e w' => e = .returned (.int .u32 id) ∧ Below w.heap.size w w' := by
  have hmi := mine_any h id
  rw [hm] at hmi
  have HMi : Veil _ := ⟨hmi⟩
  clear hmi hm h
  go_enter Tryz.func77, Tryz.ntmps77
  go_wp2_with (go_at_call 91; refine HMi.out.mono ?_; rintro e w1 ⟨rfl, hb1⟩; have HB1 : Veil _ := ⟨hb1⟩; clear hb1)
  go_ret
  exact ⟨rfl, HB1.out⟩
/-- A step whose kid on the way is a page of the work. -/
def StepM (w : World) (A j s : Nat) (k : Wk) (c : Ch) : Prop := ∃ db d0 nl cd a id : Nat, w.cell? ⟨A, j, none⟩ = some (.pointer (some ⟨s, 0, none⟩)) ∧ w.cell? ⟨s, 2, none⟩ = some (.slice (some ⟨db, d0, none⟩) nl cd) ∧ w.cell? ⟨s, 3, none⟩ = some (.int .i64 a) ∧ w.cell? ⟨db, d0 + a, none⟩ = some (.int .u32 id) ∧ w.frozen? ⟨db, d0 + a, none⟩ = false ∧ a < nl ∧ nl ≤ 1000000 ∧ mineC k c id = true

set_option maxRecDepth 20000 in
set_option maxHeartbeats 4000000 in
theorem copyWay_mine {w : World} {C Wb : Nat} {k : Wk} {c : Ch} (h : ChAt w C Wb k c) {A len cap : Nat} (hl : 1 ≤ len) (hl2 : len ≤ 1000) (hcap : len ≤ cap) (hc2 : cap ≤ 9223372036854775807) (ss : Nat → Nat) (hst : ∀ j, j + 1 < len → StepM w A j (ss j) k c) : Calls Tryz.prog 52 #[.pointer (some ⟨C, 0, none⟩), .slice (some ⟨A, 0, none⟩) len cap] w fun e w' => e = .returned (.tuple #[]) ∧ Below w.heap.size w w' := by
  have HCp : Veil (∀ id, mineC k c id = true → ∀ W, Below w.heap.size w W → Calls Tryz.prog 77 #[.pointer (some ⟨C, 0, none⟩), .int .u32 id] W fun e w' => e = .returned (.int .u32 id) ∧ Below W.heap.size W w') := ⟨fun id hm W hW => ccopied_mine (h.below hW) id hm⟩
  have HSt : Veil _ := ⟨hst⟩
  clear h hst
  go_enter Tryz.func52, Tryz.ntmps52
  go_wp2
  go_loopw [5, 12] (fun _ i wr => ∃ m : Nat, m + 1 ≤ len ∧ i = .int .i64 m ∧ Veil (Below w.heap.size w wr)) (fun _ i _ => len - (intOf i).toNat)
  case atStart => exact ⟨0, hl, rfl, ⟨Below.refl _ _⟩⟩
  case round =>
    obtain ⟨m, hm, rfl, hW⟩ := hrel
    by_cases hlt : m + 1 < len
    · obtain ⟨db, d0, nl, cd, a, id, y1, y2, y3, y4, y5, ha, hnl, hmn⟩ := HSt.out m hlt
      obtain ⟨s, hs⟩ : ∃ s, ss m = s := ⟨_, rfl⟩
      rw [hs] at y1 y2 y3
      have z1 : wr.cell? ⟨A, m, none⟩ = some (.pointer (some ⟨s, 0, none⟩)) := hW.out.cell (World.block_lt_of_cell? _ _ y1) |>.trans y1
      have HS : Veil (∀ W, Below wr.heap.size wr W → W.cell? ⟨s, 2, none⟩ = some (.slice (some ⟨db, d0, none⟩) nl cd) ∧ W.cell? ⟨s, 3, none⟩ = some (.int .i64 a) ∧ W.cell? ⟨db, d0 + a, none⟩ = some (.int .u32 id) ∧ W.frozen? ⟨db, d0 + a, none⟩ = false) := ⟨fun W hB => by
        have hw := alb_then hW.out hB
        exact ⟨(hw.cell (World.block_lt_of_cell? _ _ y2)).trans y2, (hw.cell (World.block_lt_of_cell? _ _ y3)).trans y3, (hw.cell (World.block_lt_of_cell? _ _ y4)).trans y4, (hw.frozen (World.block_lt_of_cell? _ _ y4)).trans y5⟩⟩
      have HCo : Veil (∀ W, Below wr.heap.size wr W → Calls Tryz.prog 77 #[.pointer (some ⟨C, 0, none⟩), .int .u32 id] W fun e w' => e = .returned (.int .u32 id) ∧ Below W.heap.size W w') := ⟨fun W hB => HCp.out id hmn W (alb_then hW.out hB)⟩
      have hm1 : (m : Int) < (len : Int) - 1 := by omega
      have ha1 : (a : Int) < nl := by omega
      clear y1 y2 y3 y4 y5 hs hmn
      go_wp2
      refine region_new [.is (.pointer (some ⟨s, 0, none⟩)), .is (.pointer (some ⟨s, 0, none⟩)), .is (.pointer (some ⟨s, 0, none⟩)), .is (.pointer (some ⟨s, 2, none⟩)), .is (.slice (some ⟨db, d0, none⟩) nl cd), .is (.pointer (some ⟨s, 0, none⟩)), .is (.pointer (some ⟨s, 0, none⟩)), .is (.pointer (some ⟨s, 3, none⟩)), .is (.int .i64 a), .is (.pointer (some ⟨C, 0, none⟩)), .is (.pointer (some ⟨s, 0, none⟩)), .is (.pointer (some ⟨s, 0, none⟩)), .is (.pointer (some ⟨s, 0, none⟩)), .is (.pointer (some ⟨s, 2, none⟩)), .is (.slice (some ⟨db, d0, none⟩) nl cd), .is (.pointer (some ⟨s, 0, none⟩)), .is (.pointer (some ⟨s, 0, none⟩)), .is (.pointer (some ⟨s, 3, none⟩)), .is (.int .i64 a), .is (.pointer (some ⟨db, d0 + a, none⟩)), .is (.int .u32 id), .is (.int .u32 id)]
        [[], [(0, 16)], [(1, 17)], [(2, 18)], [(3, 19)], [], [(5, 21)], [(6, 22)], [(7, 23)], [], [], [(10, 26)], [(11, 27)], [(12, 28)], [(13, 29)], [], [(15, 31)], [(16, 32)], [(17, 33)], [(14, 30), (18, 34)], [(19, 35)], [(9, 25), (20, 36)]]
        [[], [0], [1], [2], [3], [], [5], [6], [7], [], [], [10], [11], [12], [13], [], [15], [16], [17], [14, 18], [19], [9, 20]]
        [(0, 16), (1, 17), (2, 18), (3, 19), (4, 20), (5, 21), (6, 22), (7, 23), (8, 24), (9, 25), (10, 26), (11, 27), (12, 28), (13, 29), (14, 30), (15, 31), (16, 32), (17, 33), (18, 34), (19, 35), (20, 36), (21, 37)] rfl (by kernel_rfl) ⟨?_, ?_, ?_, ?_, ?_, ?_, ?_, ?_, ?_, ?_, ?_, ?_, ?_, ?_, ?_, ?_, ?_, ?_, ?_, ?_, ?_, ?_, trivial⟩ ?_
      · intro vals W hB _
        dsimp only [putsL, slotOf]
        go_wp2
        exact ⟨rfl, Below.refl _ _, rfl⟩
      · intro vals W hB ⟨h0, _⟩
        have h0 : vals 0 = _ := h0
        dsimp only [putsL, slotOf]
        rw [h0]
        go_wp2
        exact ⟨rfl, Below.refl _ _, rfl⟩
      · intro vals W hB ⟨h1, _⟩
        have h1 : vals 1 = _ := h1
        dsimp only [putsL, slotOf]
        rw [h1]
        go_wp2
        exact ⟨rfl, Below.refl _ _, rfl⟩
      · intro vals W hB ⟨h2, _⟩
        have h2 : vals 2 = _ := h2
        dsimp only [putsL, slotOf]
        rw [h2]
        go_wp2
        exact ⟨rfl, Below.refl _ _, rfl⟩
      · intro vals W hB ⟨h3, _⟩
        have h3 : vals 3 = _ := h3
        obtain ⟨x2, x3, x4, x5⟩ := HS.out W hB
        dsimp only [putsL, slotOf]
        rw [h3]
        go_wp2
        exact ⟨rfl, Below.refl _ _, rfl⟩
      · intro vals W hB _
        dsimp only [putsL, slotOf]
        go_wp2
        exact ⟨rfl, Below.refl _ _, rfl⟩
      · intro vals W hB ⟨h5, _⟩
        have h5 : vals 5 = _ := h5
        dsimp only [putsL, slotOf]
        rw [h5]
        go_wp2
        exact ⟨rfl, Below.refl _ _, rfl⟩
      · intro vals W hB ⟨h6, _⟩
        have h6 : vals 6 = _ := h6
        dsimp only [putsL, slotOf]
        rw [h6]
        go_wp2
        exact ⟨rfl, Below.refl _ _, rfl⟩
      · intro vals W hB ⟨h7, _⟩
        have h7 : vals 7 = _ := h7
        obtain ⟨x2, x3, x4, x5⟩ := HS.out W hB
        dsimp only [putsL, slotOf]
        rw [h7]
        go_wp2
        exact ⟨rfl, Below.refl _ _, rfl⟩
      · intro vals W hB _
        dsimp only [putsL, slotOf]
        go_wp2
        exact ⟨rfl, Below.refl _ _, rfl⟩
      · intro vals W hB _
        dsimp only [putsL, slotOf]
        go_wp2
        exact ⟨rfl, Below.refl _ _, rfl⟩
      · intro vals W hB ⟨h10, _⟩
        have h10 : vals 10 = _ := h10
        dsimp only [putsL, slotOf]
        rw [h10]
        go_wp2
        exact ⟨rfl, Below.refl _ _, rfl⟩
      · intro vals W hB ⟨h11, _⟩
        have h11 : vals 11 = _ := h11
        dsimp only [putsL, slotOf]
        rw [h11]
        go_wp2
        exact ⟨rfl, Below.refl _ _, rfl⟩
      · intro vals W hB ⟨h12, _⟩
        have h12 : vals 12 = _ := h12
        dsimp only [putsL, slotOf]
        rw [h12]
        go_wp2
        exact ⟨rfl, Below.refl _ _, rfl⟩
      · intro vals W hB ⟨h13, _⟩
        have h13 : vals 13 = _ := h13
        obtain ⟨x2, x3, x4, x5⟩ := HS.out W hB
        dsimp only [putsL, slotOf]
        rw [h13]
        go_wp2
        exact ⟨rfl, Below.refl _ _, rfl⟩
      · intro vals W hB _
        dsimp only [putsL, slotOf]
        go_wp2
        exact ⟨rfl, Below.refl _ _, rfl⟩
      · intro vals W hB ⟨h15, _⟩
        have h15 : vals 15 = _ := h15
        dsimp only [putsL, slotOf]
        rw [h15]
        go_wp2
        exact ⟨rfl, Below.refl _ _, rfl⟩
      · intro vals W hB ⟨h16, _⟩
        have h16 : vals 16 = _ := h16
        dsimp only [putsL, slotOf]
        rw [h16]
        go_wp2
        exact ⟨rfl, Below.refl _ _, rfl⟩
      · intro vals W hB ⟨h17, _⟩
        have h17 : vals 17 = _ := h17
        obtain ⟨x2, x3, x4, x5⟩ := HS.out W hB
        dsimp only [putsL, slotOf]
        rw [h17]
        go_wp2
        exact ⟨rfl, Below.refl _ _, rfl⟩
      · intro vals W hB ⟨h14, h18, _⟩
        have h14 : vals 14 = _ := h14
        have h18 : vals 18 = _ := h18
        dsimp only [putsL, slotOf]
        rw [h14, h18]
        go_wp2
        exact ⟨rfl, Below.refl _ _, rfl⟩
      · intro vals W hB ⟨h19, _⟩
        have h19 : vals 19 = _ := h19
        obtain ⟨x2, x3, x4, x5⟩ := HS.out W hB
        dsimp only [putsL, slotOf]
        rw [h19]
        go_wp2
        exact ⟨rfl, Below.refl _ _, rfl⟩
      · intro vals W hB ⟨h9, h20, _⟩
        have h9 : vals 9 = _ := h9
        have h20 : vals 20 = _ := h20
        dsimp only [putsL, slotOf]
        rw [h9, h20]
        go_wp2_with (go_at_call 77; refine (HCo.out _ hB).mono ?_; rintro e w4 ⟨rfl, hb4⟩)
        exact ⟨rfl, hb4, rfl⟩
      rintro vals W hB ⟨q0, q1, q2, q3, q4, q5, q6, q7, q8, q9, q10, q11, q12, q13, q14, q15, q16, q17, q18, q19, q20, q21, -⟩
      have h0 : vals 0 = _ := q0
      have h1 : vals 1 = _ := q1
      have h2 : vals 2 = _ := q2
      have h3 : vals 3 = _ := q3
      have h4 : vals 4 = _ := q4
      have h5 : vals 5 = _ := q5
      have h6 : vals 6 = _ := q6
      have h7 : vals 7 = _ := q7
      have h8 : vals 8 = _ := q8
      have h9 : vals 9 = _ := q9
      have h10 : vals 10 = _ := q10
      have h11 : vals 11 = _ := q11
      have h12 : vals 12 = _ := q12
      have h13 : vals 13 = _ := q13
      have h14 : vals 14 = _ := q14
      have h15 : vals 15 = _ := q15
      have h16 : vals 16 = _ := q16
      have h17 : vals 17 = _ := q17
      have h18 : vals 18 = _ := q18
      have h19 : vals 19 = _ := q19
      have h20 : vals 20 = _ := q20
      have h21 : vals 21 = _ := q21
      dsimp only [putsL]
      rw [h0, h1, h2, h3, h4, h5, h6, h7, h8, h9, h10, h11, h12, h13, h14, h15, h16, h17, h18, h19, h20, h21]
      clear h0 q0 h1 q1 h2 q2 h3 q3 h4 q4 h5 q5 h6 q6 h7 q7 h8 q8 h9 q9 h10 q10 h11 q11 h12 q12 h13 q13 h14 q14 h15 q15 h16 q16 h17 q17 h18 q18 h19 q19 h20 q20 h21 q21
      simp only [List.length_cons, List.length_nil, Nat.reduceAdd, List.drop_succ_cons, List.drop_zero, List.setIfInBounds_toArray, List.set_cons_succ, List.set_cons_zero]
      obtain ⟨x2, x3, x4, x5⟩ := HS.out W hB
      have HBW : Veil _ := ⟨alb_then hW.out hB⟩
      have HSm : Veil _ := ⟨same_cell x4⟩
      clear hB
      go_wp2
      refine ⟨⟨m + 1, by omega, by go_num, ⟨alb_then HBW.out HSm.out⟩⟩, ?_⟩
      simp only [intOf]; omega
    · obtain rfl : len = m + 1 := by omega
      go_wp2
      go_end0
      exact ⟨rfl, hW.out⟩
end Go.Proofs.YtokbmimbbeedcaaGreatDoor

/- Trees, by the program: what a work that is nil tells; a work's root. -/
namespace Go.Proofs.YtokbmimbbeedcaaGreatDoor
open Go Go.RowKit Sm
attribute [local go_sem] Oper.semAt_some

theorem root_nil (w : World) : Calls Tryz.prog 18 #[.pointer none] w fun e w' => e = .returned (.int .u32 0) ∧ w' = w := by
  go_enter Tryz.func18, Tryz.ntmps18
  go_wp2
  go_ret
  exact ⟨rfl, rfl⟩
theorem gone_nil (w : World) : Calls Tryz.prog 20 #[.pointer none] w fun e w' => e = .returned (.slice none 0 0) ∧ w' = w := by
  go_enter Tryz.func20, Tryz.ntmps20
  go_wp2
  go_ret
  exact ⟨rfl, rfl⟩
theorem pages_nil (w : World) : Calls Tryz.prog 21 #[.pointer none] w fun e w' => e = .returned (.slice none 0 0) ∧ w' = w := by
  go_enter Tryz.func21, Tryz.ntmps21
  go_wp2
  go_ret
  exact ⟨rfl, rfl⟩
theorem all_nil (w : World) : Calls Tryz.prog 15 #[.pointer none] w fun e w' => e = .returned (.tuple #[.slice none 0 0, .int .i64 1]) ∧ w' = w := by
  have HEn : Veil _ := ⟨ended_nil w⟩
  go_enter Tryz.func15, Tryz.ntmps15
  go_wp2_with (go_at_call 36; refine HEn.out.mono ?_; rintro e w2 ⟨rfl, rfl⟩)
  refine bodyPost_ret (results_two rfl rfl rfl) rfl ?_
  exact ⟨rfl, rfl⟩
theorem get_nil (w : World) (key : List UInt8) : Calls Tryz.prog 13 #[.pointer none, .string ⟨key.toArray⟩] w fun e w' => e = .returned (.tuple #[.string ⟨#[]⟩, .bool false, .int .i64 1]) ∧ w' = w := by
  have HRf : Veil (Calls Tryz.prog 27 #[.pointer none, .string ⟨key.toArray⟩, .slice none 0 0] w fun e w' => e = .returned (.int .i64 1) ∧ w' = w) := ⟨refusal_of (vs := []) ⟨ended_nil w⟩ key none 0 (Els.nil _ _) (by decide)⟩
  go_enter Tryz.func13, Tryz.ntmps13
  go_wp2_with (go_at_call 27; refine HRf.out.mono ?_; rintro e w2 ⟨rfl, rfl⟩)
  refine bodyPost_ret (results_three rfl rfl rfl rfl) rfl ?_
  exact ⟨rfl, rfl⟩
end Go.Proofs.YtokbmimbbeedcaaGreatDoor

/- Trees, by the program: a call that is refused. -/
namespace Go.Proofs.YtokbmimbbeedcaaGreatDoor
open Go Go.RowKit Sm
attribute [local go_sem] Oper.semAt_some

theorem results_errno {fn : Func} {p : Tmp} {tmps : Array Value} {w : World} {g : Nat} {x : Value} (h : fn.results = #[.cell p 26]) (hp : tmps.getD p undef = .pointer (some ⟨g, 0, none⟩)) (hg : w.heap[g]? = some (.cells #[x] 26 (0, 0))) : (results fn tmps).run Tryz.prog w = .ok x w := by
  have hp' : tmps[p]?.getD undef = .pointer (some ⟨g, 0, none⟩) := by simpa using hp
  have c0 := cell_row1 hg
  simp [results, h, go_sem, hp', c0]
theorem results_bool_errno {fn : Func} {p q : Tmp} {tmps : Array Value} {w : World} {g k : Nat} {x y : Value} (h : fn.results = #[.cell p 4, .cell q 26]) (hp : tmps.getD p undef = .pointer (some ⟨g, 0, none⟩)) (hq : tmps.getD q undef = .pointer (some ⟨k, 0, none⟩)) (hg : w.heap[g]? = some (.cells #[x] 4 (0, 0))) (hk : w.heap[k]? = some (.cells #[y] 26 (0, 0))) : (results fn tmps).run Tryz.prog w = .ok (.tuple #[x, y]) w := by
  have hp' : tmps[p]?.getD undef = .pointer (some ⟨g, 0, none⟩) := by simpa using hp
  have hq' : tmps[q]?.getD undef = .pointer (some ⟨k, 0, none⟩) := by simpa using hq
  have c0 := cell_row1 hg
  have c1 := cell_row1 hk
  simp [results, h, go_sem, hp', hq', c0, c1]
theorem delete_refused {w : World} {P : Value} {er : Int} (hne : er ≠ 0) (key : List UInt8) (HRf : Veil (∀ W, Below w.heap.size w W → Calls Tryz.prog 27 #[P, .string ⟨key.toArray⟩, .slice none 0 0] W fun e w' => e = .returned (.int .i64 er) ∧ w' = W)) : Calls Tryz.prog 14 #[P, .string ⟨key.toArray⟩] w fun e w' => e = .returned (.tuple #[.bool false, .int .i64 er]) ∧ Below w.heap.size w w' := by
  obtain ⟨u1, h1⟩ : ∃ u1, w.alloc (.cells #[.bool false] 4) = u1 := ⟨_, rfl⟩
  have z1 : u1.heap.size = w.heap.size + 1 := by rw [← h1]; simp
  have hb0 : u1.heap[w.heap.size]? = some (.cells #[.bool false] 4 (0, 0)) := by rw [← h1]; exact heap_alloc_new _ _
  have hB1 : Below w.heap.size w u1 := by rw [← h1]; exact below_al (Below.refl _ _) _
  have HB : Veil (Below w.heap.size w ((w.alloc (.cells #[.bool false] 4)).alloc (.cells #[.int .i64 0] 26))) := ⟨by rw [h1]; exact below_al hB1 _⟩
  have HX : Veil (((w.alloc (.cells #[.bool false] 4)).alloc (.cells #[.int .i64 er] 26)).heap[w.heap.size]? = some (.cells #[.bool false] 4 (0, 0)) ∧ ((w.alloc (.cells #[.bool false] 4)).alloc (.cells #[.int .i64 er] 26)).heap[w.heap.size + 1]? = some (.cells #[.int .i64 er] 26 (0, 0)) ∧ Below w.heap.size w ((w.alloc (.cells #[.bool false] 4)).alloc (.cells #[.int .i64 er] 26))) := ⟨by
    rw [h1]
    exact ⟨((below_al (Below.refl u1.heap.size u1) _).block _ (lt_of_heap hb0)).trans hb0, by rw [← z1]; exact heap_alloc_new _ _, below_al hB1 _⟩⟩
  have he : (er == 0) = false := by rw [beq_eq_false_iff_ne]; exact hne
  clear h1 z1 hb0 hB1
  go_enter Tryz.func14, Tryz.ntmps14
  go_wp2_with (go_at_call 27; refine (HRf.out _ HB.out).mono ?_; rintro e w2 ⟨rfl, rfl⟩)
  generalize ((w.alloc (.cells #[.bool false] 4)).alloc (.cells #[.int .i64 er] 26)) = u2 at HX ⊢
  have HD : Veil (∀ W, Below u2.heap.size u2 W → (W.heap[w.heap.size]? = some (.cells #[.bool false] 4 (0, 0)) ∧ W.heap[w.heap.size + 1]? = some (.cells #[.int .i64 er] 26 (0, 0))) ∧ W.cell? ⟨w.heap.size + 1, 0, none⟩ = some (.int .i64 er) ∧ W.cell? ⟨w.heap.size, 0, none⟩ = some (.bool false) ∧ W.frozen? ⟨w.heap.size, 0, none⟩ = false ∧ w.heap.size < W.heap.size) := ⟨fun W hW => by
    obtain ⟨x1, x2, -⟩ := HX.out
    have y1 := (hW.block _ (lt_of_heap x1)).trans x1
    have y2 := (hW.block _ (lt_of_heap x2)).trans x2
    exact ⟨⟨y1, y2⟩, cell_row1 y2, cell_row1 y1, frozen_whole y1 _, lt_of_heap y1⟩⟩
  refine region_new [.is (.int .i64 er), .any]
    [[], []]
    [[], []]
    [(0, 13)] rfl (by kernel_rfl) ⟨?_, ?_, trivial⟩ ?_
  · intro vals W hB _
    have b0 := (HD.out W hB).2.1
    dsimp only [putsL, slotOf]
    go_wp2
    exact ⟨rfl, Below.refl _ _, rfl⟩
  · intro vals W hB _
    obtain ⟨-, -, b1, f1, z1⟩ := HD.out W hB
    dsimp only [putsL, slotOf]
    go_wp2
    exact ⟨rfl, same_cell b1, trivial⟩
  rintro vals W hB ⟨q0, -, -⟩
  have h0 : vals 0 = _ := q0
  dsimp only [putsL]
  rw [h0]
  clear h0 q0
  simp only [List.length_cons, List.length_nil, Nat.reduceAdd, List.drop_succ_cons, List.drop_zero, List.setIfInBounds_toArray, List.set_cons_succ, List.set_cons_zero]
  obtain ⟨⟨y1, y2⟩, b0, b1, f1, zz⟩ := HD.out W hB
  have f0 : W.frozen? ⟨w.heap.size + 1, 0, none⟩ = false := frozen_whole y2 _
  have hz2 := lt_of_heap y2
  have HS : Veil _ := ⟨same_cell b0⟩
  have HY : Veil _ := ⟨And.intro y1 y2⟩
  have HW : Veil _ := ⟨alb_then HX.out.2.2 hB⟩
  clear y1 y2 hB
  go_wp2
  refine bodyPost_ret (results_bool_errno rfl rfl rfl ((HS.out.block _ (lt_of_heap HY.out.1)).trans HY.out.1) ((HS.out.block _ (lt_of_heap HY.out.2)).trans HY.out.2)) rfl ?_
  exact ⟨rfl, alb_then HW.out HS.out⟩

theorem delete_nil (w : World) (key : List UInt8) : Calls Tryz.prog 14 #[.pointer none, .string ⟨key.toArray⟩] w fun e w' => e = .returned (.tuple #[.bool false, .int .i64 1]) ∧ Below w.heap.size w w' :=
  delete_refused (by decide) key ⟨fun W _ => refusal_of (vs := []) ⟨ended_nil W⟩ key none 0 (Els.nil _ _) (by decide)⟩
end Go.Proofs.YtokbmimbbeedcaaGreatDoor

/- Trees, by the program: a put that is refused. -/
namespace Go.Proofs.YtokbmimbbeedcaaGreatDoor
open Go Go.RowKit Sm
attribute [local go_sem] Oper.semAt_some

/-- What comes of the number's cell. -/
structure NumC (w : World) (er : Int) (W : World) : Prop where
  b : W.heap[w.heap.size + 1]? = some (.cells #[.int .i64 0] 26 (0, 0))
  t : Below w.heap.size w W
theorem NumC.set {w : World} {er : Int} {W : World} (h : NumC w er W) : (W.setCell ⟨w.heap.size + 1, 0, none⟩ (.int .i64 er)).heap[w.heap.size + 1]? = some (.cells #[.int .i64 er] 26 (0, 0)) ∧ Below w.heap.size w (W.setCell ⟨w.heap.size + 1, 0, none⟩ (.int .i64 er)) := by
  have hT : Turned (· = w.heap.size + 1) W (W.setCell ⟨w.heap.size + 1, 0, none⟩ (.int .i64 er)) := (Turned.refl (· = w.heap.size + 1) W).setCell (p := ⟨w.heap.size + 1, 0, none⟩) rfl _
  exact ⟨heap_setCell_at h.b 0 _, h.t.trans (hT.toBelow h.t.size (fun j _ e => by have e : j = w.heap.size + 1 := e; omega))⟩
set_option maxRecDepth 20000 in
set_option maxHeartbeats 2000000 in
theorem put_refused {w : World} {P : Value} {er : Int} (hne : er ≠ 0) (k v : List UInt8) (HRf : Veil (∀ W g, Below w.heap.size w W → W.heap[g]? = some (.cells #[.string ⟨v.toArray⟩] 9 (0, 0)) → Calls Tryz.prog 27 #[P, .string ⟨k.toArray⟩, .slice (some ⟨g, 0, none⟩) 1 1] W fun e w' => e = .returned (.int .i64 er) ∧ w' = W)) : Calls Tryz.prog 12 #[P, .agg #[.string ⟨k.toArray⟩, .string ⟨v.toArray⟩]] w fun e w' => e = .returned (.int .i64 er) ∧ Below w.heap.size w w' := by
  have HL : Veil (∀ W, W = ((w.alloc (.cells #[.string ⟨k.toArray⟩, .string ⟨v.toArray⟩] 37)).alloc (.cells #[.int .i64 0] 26)) → W.cell? ⟨w.heap.size, 0, none⟩ = some (.string ⟨k.toArray⟩) ∧ W.cell? ⟨w.heap.size, 1, none⟩ = some (.string ⟨v.toArray⟩) ∧ NumC w er (W.alloc (.cells #[.string ⟨v.toArray⟩] 9)) ∧ (W.alloc (.cells #[.string ⟨v.toArray⟩] 9)).heap[w.heap.size + 1 + 1]? = some (.cells #[.string ⟨v.toArray⟩] 9 (0, 0))) := ⟨fun W hW => by
    have k1 : Below w.heap.size w (w.alloc (.cells #[.string ⟨k.toArray⟩, .string ⟨v.toArray⟩] 37)) := below_al (Below.refl _ _) _
    have x1 : (w.alloc (.cells #[.string ⟨k.toArray⟩, .string ⟨v.toArray⟩] 37)).heap[w.heap.size]? = some (.cells #[.string ⟨k.toArray⟩, .string ⟨v.toArray⟩] 37 (0, 0)) := heap_alloc_new _ _
    have z1 : (w.alloc (.cells #[.string ⟨k.toArray⟩, .string ⟨v.toArray⟩] 37)).heap.size = w.heap.size + 1 := by simp
    generalize w.alloc (.cells #[.string ⟨k.toArray⟩, .string ⟨v.toArray⟩] 37) = u1 at k1 x1 z1 hW
    have x2 : W.heap[w.heap.size + 1]? = some (.cells #[.int .i64 0] 26 (0, 0)) := by rw [hW, ← z1]; exact heap_alloc_new _ _
    have z2 : W.heap.size = w.heap.size + 1 + 1 := by rw [hW]; simp [z1]
    have k2 : Below u1.heap.size u1 W := by rw [hW]; exact below_al (Below.refl _ _) _
    have k3 : Below W.heap.size W (W.alloc (.cells #[.string ⟨v.toArray⟩] 9)) := below_al (Below.refl _ _) _
    have x3 := (k2.block _ (lt_of_heap x1)).trans x1
    exact ⟨cell_whole (cur := [_, _]) x3 0, cell_whole (cur := [_, _]) x3 1, ⟨(k3.block _ (lt_of_heap x2)).trans x2, (k1.trans (k2.mono (by omega))).trans (k3.mono (by have := k2.size; omega))⟩, by rw [← z2]; exact heap_alloc_new _ _⟩⟩
  have he : (er == 0) = false := by rw [beq_eq_false_iff_ne]; exact hne
  have HF : Veil (∀ W, NumC w er W → (W.cell? ⟨w.heap.size + 1, 0, none⟩ = some (.int .i64 0) ∧ W.frozen? ⟨w.heap.size + 1, 0, none⟩ = false ∧ w.heap.size + 1 < W.heap.size) ∧ ((W.setCell ⟨w.heap.size + 1, 0, none⟩ (.int .i64 er)).cell? ⟨w.heap.size + 1, 0, none⟩ = some (.int .i64 er) ∧ (W.setCell ⟨w.heap.size + 1, 0, none⟩ (.int .i64 er)).frozen? ⟨w.heap.size + 1, 0, none⟩ = false ∧ w.heap.size + 1 < (W.setCell ⟨w.heap.size + 1, 0, none⟩ (.int .i64 er)).heap.size) ∧ (W.setCell ⟨w.heap.size + 1, 0, none⟩ (.int .i64 er)).heap[w.heap.size + 1]? = some (.cells #[.int .i64 er] 26 (0, 0)) ∧ Below w.heap.size w (W.setCell ⟨w.heap.size + 1, 0, none⟩ (.int .i64 er))) := ⟨fun W h => by
    obtain ⟨h1, h2⟩ := h.set
    exact ⟨⟨cell_row1 h.b, frozen_whole h.b _, lt_of_heap h.b⟩, ⟨cell_row1 h1, frozen_whole h1 _, lt_of_heap h1⟩, h1, h2⟩⟩
  obtain ⟨p0, p1, hn, hg⟩ := HL.out _ rfl
  have HN : Veil _ := ⟨And.intro hn hg⟩
  clear HL hn hg
  go_enter Tryz.func12, Tryz.ntmps12
  go_wp2_with (go_at_call 27; refine (HRf.out _ _ HN.out.1.t HN.out.2).mono ?_; rintro e w2 ⟨rfl, hw⟩; have HNC : Veil (NumC w er w2) := ⟨by rw [hw]; exact HN.out.1⟩; clear hw HN HRf p0 p1; obtain ⟨⟨x0, f0, z0⟩, ⟨y0, g0, y9⟩, -⟩ := HF.out _ HNC.out)
  have h3 := same_cell y0
  obtain ⟨h1, h2⟩ := HNC.out.set
  refine bodyPost_ret (results_errno rfl rfl ((h3.block _ (lt_of_heap h1)).trans h1)) rfl ?_
  exact ⟨rfl, alb_then h2 h3⟩
/-- A put into no work. -/
theorem put_nil (w : World) (k v : List UInt8) : Calls Tryz.prog 12 #[.pointer none, .agg #[.string ⟨k.toArray⟩, .string ⟨v.toArray⟩]] w fun e w' => e = .returned (.int .i64 1) ∧ Below w.heap.size w w' :=
  put_refused (by decide) k v ⟨fun W g _ hg => refusal_of (vs := [v]) ⟨ended_nil W⟩ k (some ⟨g, 0, none⟩) 1 (fun _ => ⟨g, 0, rfl, fun i j hi hj => by
    have h1 : i = 0 := by simpa using hi
    have h2 : j = 0 := by have : j < 1 := hj; omega
    subst h1; subst h2
    exact cell_row1 hg⟩) (by simp)⟩
end Go.Proofs.YtokbmimbbeedcaaGreatDoor
