/- Trees, by the program: Delete's deferred call. -/
import Derived.Test.YtokbmimbbeedcaaGreatDoorKU7
import Derived.Test.YtokbmimbbeedcaaGreatDoorKTN
import Derived.Test.YtokbmimbbeedcaaGreatDoorKOB
import Derived.Test.YtokbmimbbeedcaaGreatDoorKTX
import Derived.Test.YtokbmimbbeedcaaGreatDoorKTD
import Derived.Test.YtokbmimbbeedcaaGreatDoorKA4
import Derived.Test.YtokbmimbbeedcaaGreatDoorKD4
namespace Go.Proofs.YtokbmimbbeedcaaGreatDoor
open Go Go.RowKit Sm
attribute [local go_sem] Oper.semAt_some

set_option maxRecDepth 20000 in
set_option maxHeartbeats 1000000 in
theorem deld_any {w : World} {C Wb : Nat} {k : Wk} {c : Ch} (h : ChAt w C Wb k c) {root : Nat} {al : Al} {p : Option Addr} {cp : Nat} {told : Int} (hwb : w.heap[Wb]? = some (.cells (wkCells k root al p cp told) 78 (0, 0))) (hf : c.full = .nilIface) (hg : c.vg = .slice none 0 0)
    (b7 b6 b5 b4 : Nat) (t7 t6 t5 t4 : TypeId) (x : Value) (was : Bool) (h7 : w.heap[b7]? = some (.cells #[.pointer (some ⟨C, 0, none⟩)] t7 (0, 0))) (h6 : w.heap[b6]? = some (.cells #[.nilIface] t6 (0, 0))) (h5 : w.heap[b5]? = some (.cells #[x] t5 (0, 0))) (h4 : w.heap[b4]? = some (.cells #[.bool was] t4 (0, 0))) (n45 : b4 ≠ b5) (u : FrameMode) :
    CallsD Tryz.prog 34 #[.pointer (some ⟨b7, 0, none⟩), .pointer (some ⟨b6, 0, none⟩), .pointer (some ⟨b5, 0, none⟩), .pointer (some ⟨b4, 0, none⟩)] u w fun e u' w' => u' = u ∧ (e = .returned (.tuple #[]) ∧ w'.heap[b4]? = some (.cells #[.bool was] t4 (0, 0)) ∧ w'.heap[b5]? = some (.cells #[.int .i64 0] t5 (0, 0)) ∧ EndQ Wb k c (fun x => x = b4 ∨ x = b5) w w') := by
  have HE : Veil _ := ⟨cend_any h hwb hf hg⟩
  have e7 := cell_row1 h7
  have e6 := cell_row1 h6
  obtain ⟨es, cl, hmo, -⟩ := h.own.row
  have n1 : b4 ≠ Wb := cells_ne h4 hwb (by simp [wkCells])
  have n2 : b4 ≠ k.bo := map_ne_cells h4 hmo
  have n3 : b5 ≠ Wb := cells_ne h5 hwb (by simp [wkCells])
  have n4 : b5 ≠ k.bo := map_ne_cells h5 hmo
  have HN : Veil _ := ⟨And.intro n1 (And.intro n2 (And.intro n3 n4))⟩
  have H4 : Veil _ := ⟨And.intro h4 h5⟩
  have n54 : b5 ≠ b4 := n45.symm
  clear h hwb hf hg h7 h6 h5 h4 hmo n1 n2 n3 n4
  go_enter_d Tryz.func34, Tryz.ntmps34
  cases was
  all_goals
    go_wp2_with (go_at_call 30; refine HE.out.mono ?_; rintro e w2 ⟨rfl, own', q1, q2, q3, q4⟩; have HQ : Veil _ := ⟨And.intro q1 (And.intro q2 (And.intro q3 q4))⟩; have h42 := q4.heap H4.out.1 (fun e => by rcases e with e | e; exact HN.out.1 e; exact HN.out.2.1 e); have h52 := q4.heap H4.out.2 (fun e => by rcases e with e | e; exact HN.out.2.2.1 e; exact HN.out.2.2.2 e); have H42 : Veil _ := ⟨And.intro h42 h52⟩; have c4 := cell_row1 h42; have f4 : w2.frozen? ⟨b4, 0, none⟩ = false := frozen_whole h42 _; have c5 := cell_row1 h52; have f5 : w2.frozen? ⟨b5, 0, none⟩ = false := frozen_whole h52 _; clear q1 q2 q3 q4 h42 h52)
    go_end0
    obtain ⟨q1, q2, q3, q4⟩ := HQ.out
    have hT : ∀ y, Turned (fun x => x = b4 ∨ x = b5) w2 ((w2.setCell ⟨b5, 0, none⟩ (.int .i64 0)).setCell ⟨b4, 0, none⟩ y) := fun y => ((Turned.refl (fun x => x = b4 ∨ x = b5) w2).setCell (p := ⟨b5, 0, none⟩) (.inr rfl) _).setCell (p := ⟨b4, 0, none⟩) (.inl rfl) _
    have hT5 : Turned (· = b5) w2 (w2.setCell ⟨b5, 0, none⟩ (.int .i64 0)) := (Turned.refl (· = b5) w2).setCell (p := ⟨b5, 0, none⟩) rfl _
    have hT4 : ∀ y, Turned (· = b4) (w2.setCell ⟨b5, 0, none⟩ (.int .i64 0)) ((w2.setCell ⟨b5, 0, none⟩ (.int .i64 0)).setCell ⟨b4, 0, none⟩ y) := fun y => (Turned.refl (· = b4) _).setCell (p := ⟨b4, 0, none⟩) rfl _
    exact ⟨rfl, heap_setCell_at (hT5.heap H42.out.1 n45) 0 _, (hT4 _).heap (heap_setCell_at H42.out.2 0 _) n54, ⟨own', (hT _).heap q1 (fun e => by rcases e with e | e; exact HN.out.1 e.symm; exact HN.out.2.2.1 e.symm), q2.turned (hT _) (fun e => by rcases e with e | e; exact HN.out.2.1 e.symm; exact HN.out.2.2.2 e.symm), q3⟩, (q4.wider fun y _ e => by rcases e with e | e; exact .inl e; exact .inr (.inl e)).trans ((hT _).wider fun y _ e => .inr (.inr e))⟩
end Go.Proofs.YtokbmimbbeedcaaGreatDoor

/- Trees, by the program: Delete, whole. -/
namespace Go.Proofs.YtokbmimbbeedcaaGreatDoor
open Go Go.RowKit Sm
attribute [local go_sem] Oper.semAt_some

theorem ChAt.one {w w' : World} {C Wb : Nat} {k : Wk} {c : Ch} {b : Nat} {x : Value} {t : TypeId} (h : ChAt w C Wb k c) (hb : w.heap[b]? = some (.cells #[x] t (0, 0))) (ht : Turned (· = b) w w') : ChAt w' C Wb k c := by
  obtain ⟨root, al, p, cp, told, hw⟩ := h.wb
  obtain ⟨es, cl, hmo, -⟩ := h.own.row
  obtain ⟨es2, cl2, hmp, -⟩ := h.pages.row
  have n1 : b ≠ C := cells_ne hb h.cb (by simp [chCells])
  have n2 : b ≠ Wb := cells_ne hb hw (by simp [wkCells])
  have n3 : b ≠ k.bo := map_ne_cells hb hmo
  have n4 : b ≠ c.bp := map_ne_cells hb hmp
  exact ⟨ht.heap h.cb (fun e => n1 e.symm), ⟨root, al, p, cp, told, ht.heap hw (fun e => n2 e.symm)⟩, h.al.kept ht (fun hn y hy e => al_apart_one h.al hb hn y hy e), h.pages.turned ht (fun e => n4 e.symm), h.own.turned ht (fun e => n3 e.symm), h.old, h.ne⟩
/-- Delete's boxes: whether there was one, the number, the error. -/
structure DbI (w : World) (b6 : Nat) (was : Bool) (W : World) : Prop where
  b4 : W.heap[w.heap.size]? = some (.cells #[.bool was] 4 (0, 0))
  b5 : W.heap[w.heap.size + 1]? = some (.cells #[.int .i64 0] 26 (0, 0))
  e6 : W.heap[b6]? = some (.cells #[.nilIface] 81 (0, 0))
  ne : w.heap.size + 1 < b6
section
variable {w : World} {b6 : Nat} {was : Bool} {W W' : World}
theorem DbI.kept {F : Nat → Prop} (h : DbI w b6 was W) (ht : Turned F W W') (h1 : ∀ x, F x → x ≠ w.heap.size ∧ x ≠ w.heap.size + 1 ∧ x ≠ b6) : DbI w b6 was W' :=
  ⟨ht.heap h.b4 (fun e => (h1 _ e).1 rfl), ht.heap h.b5 (fun e => (h1 _ e).2.1 rfl), ht.heap h.e6 (fun e => (h1 _ e).2.2 rfl), h.ne⟩
theorem DbI.below (h : DbI w b6 was W) (hb : Below W.heap.size W W') : DbI w b6 was W' := h.kept (Turned.new hb : Turned (fun _ => False) W W') (fun _ e => e.elim)
theorem DbI.lay (h : DbI w b6 was W) (y : Bool) : DbI w b6 y (W.setCell ⟨w.heap.size, 0, none⟩ (.bool y)) ∧ Turned (· = w.heap.size) W (W.setCell ⟨w.heap.size, 0, none⟩ (.bool y)) := by
  have hT : Turned (· = w.heap.size) W (W.setCell ⟨w.heap.size, 0, none⟩ (.bool y)) := (Turned.refl (· = w.heap.size) W).setCell (p := ⟨w.heap.size, 0, none⟩) rfl _
  have := h.ne
  exact ⟨⟨heap_setCell_at h.b4 0 _, hT.heap h.b5 (by omega), hT.heap h.e6 (by omega), h.ne⟩, hT⟩
end
/-- The two boxes that Delete begins with. -/
structure Db0 (w W : World) : Prop where
  b4 : W.heap[w.heap.size]? = some (.cells #[.bool false] 4 (0, 0))
  b5 : W.heap[w.heap.size + 1]? = some (.cells #[.int .i64 0] 26 (0, 0))
  t : Below w.heap.size w W
theorem db0_made (w : World) : Db0 w ((w.alloc (.cells #[.bool false] 4)).alloc (.cells #[.int .i64 0] 26)) := by
  refine ⟨heap_alloc2_old _ _ _, heap_alloc2_new _ _ _, below_al (below_al (Below.refl _ _) _) _⟩
theorem Db0.next {w W : World} (h : Db0 w W) : DbI w W.heap.size false ((W.setCell ⟨w.heap.size + 1, 0, none⟩ (.int .i64 0)).alloc (.cells #[.nilIface] 81)) ∧ Below w.heap.size w ((W.setCell ⟨w.heap.size + 1, 0, none⟩ (.int .i64 0)).alloc (.cells #[.nilIface] 81)) := by
  have hb := same_cell (cell_row1 h.b5)
  have hz : (W.setCell ⟨w.heap.size + 1, 0, none⟩ (.int .i64 0)).heap.size = W.heap.size := by simp
  have h4 := (hb.block _ (lt_of_heap h.b4)).trans h.b4
  have h5 := (hb.block _ (lt_of_heap h.b5)).trans h.b5
  have hb2 : Below (W.setCell ⟨w.heap.size + 1, 0, none⟩ (.int .i64 0)).heap.size _ ((W.setCell ⟨w.heap.size + 1, 0, none⟩ (.int .i64 0)).alloc (.cells #[.nilIface] 81)) := below_al (Below.refl _ _) _
  have hbw := h.t.trans (hb.mono h.t.size)
  exact ⟨⟨(hb2.block _ (lt_of_heap h4)).trans h4, (hb2.block _ (lt_of_heap h5)).trans h5, by rw [← hz]; exact heap_alloc_new _ _, lt_of_heap h.b5⟩, hbw.trans (hb2.mono hbw.size)⟩
/-- What stands behind Delete's change. -/
theorem del_then {w u1 w3 w7 : World} {Wb C bp b6 : Nat} {k : Wk} {root : Nat} {al : Al} {p : Option Addr} {cp : Nat} (hW : WrkAt w Wb k root al p cp) (hP : DbI w b6 false u1) (hb : Below w.heap.size w u1) (hc : ChAt w3 C Wb k ⟨root, al, p, cp, [], bp, .slice none 0 0, .nilIface⟩) (hbp : u1.heap.size ≤ bp) (hC : u1.heap.size ≤ C) (hb3 : Below u1.heap.size u1 w3) (hz : b6 < u1.heap.size)
    (ht : Turned (fun x => x = C ∨ x = bp) (w3.alloc (.cells #[.pointer (some ⟨C, 0, none⟩)] 82)) w7) : DbI w b6 false w7 ∧ w7.heap[w3.heap.size]? = some (.cells #[.pointer (some ⟨C, 0, none⟩)] 82 (0, 0)) ∧ Turned (fun x => w.heap.size ≤ x) w w7 ∧ w7.heap[Wb]? = some (.cells (wkCells k root al p cp 0) 78 (0, 0)) := by
  have hb6 : Below w3.heap.size w3 (w3.alloc (.cells #[.pointer (some ⟨C, 0, none⟩)] 82)) := below_al (Below.refl _ _) _
  have hwb6 := (((hW.below hb).below hb3).below hb6).wb
  have hn := heap_alloc_new w3 (.cells #[.pointer (some ⟨C, 0, none⟩)] 82)
  have hP6 := (hP.below hb3).below hb6
  have hl1 := lt_of_heap hc.cb
  have hl2 := hc.pages.lt
  have hl3 := lt_of_heap hW.wb
  have hsz := hb.size
  have hsz3 := hb3.size
  have hne := hP.ne
  dsimp only at hl2
  refine ⟨hP6.kept ht (fun x e => by rcases e with e | e <;> (subst e; refine ⟨?_, ?_, ?_⟩ <;> omega)), ht.heap hn (fun e => by rcases e with e | e <;> omega), ?_, ht.heap hwb6 (fun e => by rcases e with e | e <;> omega)⟩
  refine ((Turned.new ((hb.trans (hb3.mono hsz)).trans (hb6.mono (Nat.le_trans hsz hsz3))))).trans (ht.wider fun x _ e => ?_)
  rcases e with e | e <;> (show w.heap.size ≤ x; omega)
end Go.Proofs.YtokbmimbbeedcaaGreatDoor

/- Trees, by the program: Delete, whole. -/
namespace Go.Proofs.YtokbmimbbeedcaaGreatDoor
open Go Go.RowKit Sm
attribute [local go_sem] Oper.semAt_some

set_option maxRecDepth 20000 in
set_option maxHeartbeats 4000000 in
/-- Delete, out of what its change comes to. -/
theorem wdel_of {w : World} {Wb : Nat} {k : Wk} {root : Nat} {al : Al} {p : Option Addr} {cp : Nat} (h : WrkAt w Wb k root al p cp) (key : List UInt8) (hr : refS 0 key [] = 0) (was : Bool) (Q : Nat → Ch → Prop)
    (hrem : ∀ W C bp, ChAt W C Wb k ⟨root, al, p, cp, [], bp, .slice none 0 0, .nilIface⟩ → W.heap[Wb]? = some (.cells (wkCells k root al p cp 0) 78 (0, 0)) → Calls Tryz.prog 35 #[.pointer (some ⟨C, 0, none⟩), .string ⟨key.toArray⟩] W fun e w' => e = .returned (.tuple #[.bool was, .nilIface]) ∧ ∃ c2, Q bp c2 ∧ ChAt w' C Wb k c2 ∧ c2.full = .nilIface ∧ c2.vg = .slice none 0 0 ∧ Turned (fun x => x = C ∨ x = bp) W w') :
    Calls Tryz.prog 14 #[.pointer (some ⟨Wb, 0, none⟩), .string ⟨key.toArray⟩] w fun e w' => e = .returned (.tuple #[.bool was, .int .i64 0]) ∧ ∃ bp c2 own', Q bp c2 ∧ WrkAt w' Wb { k with own := own' } c2.root c2.al c2.p c2.cp ∧ (∀ id, mget own' id = doneC c2.pages k.own id) ∧ Turned (fun x => x = Wb ∨ x = k.bo) w w' := by
  have HW : Veil _ := ⟨h⟩
  have HRf : Veil (∀ W, Below w.heap.size w W → Calls Tryz.prog 27 #[.pointer (some ⟨Wb, 0, none⟩), .string ⟨key.toArray⟩, .slice none 0 0] W fun e w' => e = .returned (.int .i64 0) ∧ w' = W) := ⟨fun W hb => by
    have := refusal_of (vs := []) ⟨ended_any (h.below hb).wb⟩ key none 0 (Els.nil _ _) (by simp)
    rw [hr] at this
    exact this⟩
  have HBg : Veil (∀ W, Below w.heap.size w W → Calls Tryz.prog 28 #[.pointer (some ⟨Wb, 0, none⟩)] W fun e w' => ∃ C bp, e = .returned (.pointer (some ⟨C, 0, none⟩)) ∧ ChAt w' C Wb k ⟨root, al, p, cp, [], bp, .slice none 0 0, .nilIface⟩ ∧ W.heap.size ≤ bp ∧ W.heap.size ≤ C ∧ Below W.heap.size W w') := ⟨fun W hb => (begin_at (h.below hb).wb (h.below hb).al (h.below hb).own).mono (by
    rintro e w' ⟨rfl, h1, h2⟩
    exact ⟨_, _, rfl, h1, Nat.le_refl _, by omega, h2⟩)⟩
  have HRem : Veil _ := ⟨hrem⟩
  have H0 : Veil _ := ⟨db0_made w⟩
  clear hrem hr h
  go_enter_defers Tryz.func14, Tryz.ntmps14
  go_wp2_with (first
    | (go_at_call 35; refine (HRem.out _ _ _ HC6.out.1 HC6.out.2).mono ?_; rintro e w7 ⟨rfl, c2, hQ7, hc7, hf7, hg7, ht7⟩; obtain ⟨hp7, hb7, ha7, hd7⟩ := HK7.out w7 ht7; have HQ7 : Veil _ := ⟨And.intro hQ7 (And.intro hc7 (And.intro hf7 hg7))⟩; have HP7 : Veil _ := ⟨And.intro hp7 (And.intro hb7 (And.intro ha7 hd7))⟩; have m6 := cell_row1 hp7.e6; have g6 : w7.frozen? ⟨w2.heap.size, 0, none⟩ = false := frozen_whole hp7.e6 _; have m4 := cell_row1 hp7.b4; have g4 : w7.frozen? ⟨w.heap.size, 0, none⟩ = false := frozen_whole hp7.b4 _; have l6 := lt_of_heap hp7.e6; have l4 := lt_of_heap hp7.b4; have n64 : w2.heap.size ≠ w.heap.size := (by have := hp7.ne; omega); have n46 : w.heap.size ≠ w2.heap.size := n64.symm; clear hQ7 hc7 hf7 hg7 ht7 hp7 hb7 ha7 hd7)
    | (go_at_call 28; refine (HBg.out _ HP5.out.2).mono ?_; rintro e w3 ⟨C, bp, rfl, hc3, hbp3, hC3, hb3⟩; have HC3 : Veil _ := ⟨And.intro hc3 (And.intro hbp3 (And.intro hC3 hb3))⟩; have hb6 : Below w3.heap.size w3 (w3.alloc (.cells #[.pointer (some ⟨C, 0, none⟩)] 82)) := below_al (Below.refl _ _) _; have hwb6 := (((HW.out.below HP5.out.2).below hb3).below hb6).wb; have HC6 : Veil _ := ⟨And.intro (hc3.below hb6) hwb6⟩; have hn6 := heap_alloc_new w3 (.cells #[.pointer (some ⟨C, 0, none⟩)] 82); have HK7 : Veil (∀ w7, Turned (fun x => x = C ∨ x = bp) (w3.alloc (.cells #[.pointer (some ⟨C, 0, none⟩)] 82)) w7 → DbI w w2.heap.size false w7 ∧ w7.heap[w3.heap.size]? = some (.cells #[.pointer (some ⟨C, 0, none⟩)] 82 (0, 0)) ∧ Turned (fun x => w.heap.size ≤ x) w w7 ∧ w7.heap[Wb]? = some (.cells (wkCells k root al p cp 0) 78 (0, 0))) := ⟨fun w7 ht => del_then HW.out HP5.out.1 HP5.out.2 HC3.out.1 HC3.out.2.1 HC3.out.2.2.1 HC3.out.2.2.2 (by rw [World.size_alloc, World.size_setCell]; exact Nat.lt_succ_self _) ht⟩; clear hc3 hbp3 hC3 hb3 hb6 hwb6 hn6)
    | (go_at_call 27; refine (HRf.out _ H0.out.t).mono ?_; rintro e w2 ⟨rfl, hw⟩; have H2 : Veil (Db0 w w2) := ⟨by rw [hw]; exact H0.out⟩; clear hw; have HP5 : Veil _ := ⟨H2.out.next⟩; have x0 := cell_row1 H2.out.b5; have f0 : w2.frozen? ⟨w.heap.size + 1, 0, none⟩ = false := frozen_whole H2.out.b5 _; have z0 := lt_of_heap H2.out.b5; have z4 := lt_of_heap H2.out.b4; have y0 := cell_row1 (((same_cell x0).block _ z0).trans H2.out.b5)))
  obtain ⟨hp7, hb7, ha7, hd7⟩ := HP7.out
  obtain ⟨hQ7, hc7, hf7, hg7⟩ := HQ7.out
  obtain ⟨hpL, hTL⟩ := hp7.lay was
  have hsL := same_cell (cell_row1 hpL.e6)
  have hT8 : Turned (· = w.heap.size) w7 ((w7.setCell ⟨w.heap.size, 0, none⟩ (.bool was)).setCell ⟨w2.heap.size, 0, none⟩ .nilIface) := hTL.trans (Turned.new hsL)
  have hlw := lt_of_heap HW.out.wb
  have HX8 : Veil (DbI w w2.heap.size was ((w7.setCell ⟨w.heap.size, 0, none⟩ (.bool was)).setCell ⟨w2.heap.size, 0, none⟩ .nilIface) ∧ ((w7.setCell ⟨w.heap.size, 0, none⟩ (.bool was)).setCell ⟨w2.heap.size, 0, none⟩ .nilIface).heap[w3.heap.size]? = some (.cells #[.pointer (some ⟨C, 0, none⟩)] 82 (0, 0)) ∧ ChAt ((w7.setCell ⟨w.heap.size, 0, none⟩ (.bool was)).setCell ⟨w2.heap.size, 0, none⟩ .nilIface) C Wb k c2 ∧ ((w7.setCell ⟨w.heap.size, 0, none⟩ (.bool was)).setCell ⟨w2.heap.size, 0, none⟩ .nilIface).heap[Wb]? = some (.cells (wkCells k root al p cp 0) 78 (0, 0)) ∧ Turned (fun x => w.heap.size ≤ x) w ((w7.setCell ⟨w.heap.size, 0, none⟩ (.bool was)).setCell ⟨w2.heap.size, 0, none⟩ .nilIface)) := ⟨hpL.below hsL, hT8.heap hb7 (fun e => by
    have h9 := hp7.b4
    rw [← e, hb7] at h9
    simp only [Option.some.injEq, Obj.cells.injEq] at h9
    exact absurd h9.2.1 (by decide)), hc7.one hp7.b4 hT8, hT8.heap hd7 (by omega), ha7.trans (hT8.wider fun x _ e => by show w.heap.size ≤ x; omega)⟩
  clear hp7 hb7 ha7 hd7 hc7 hpL hTL hsL hT8 m6 g6 m4 g4 l6 l4 HC6 HK7 HC3 HP5 x0 f0 z0 z4 y0
  generalize (w7.setCell ⟨w.heap.size, 0, none⟩ (.bool was)).setCell ⟨w2.heap.size, 0, none⟩ .nilIface = w8 at HX8 ⊢
  obtain ⟨W9, hW9⟩ : ∃ W9, w8.drew = W9 := ⟨_, rfl⟩
  have hb9 : Below w8.heap.size w8 W9 := by rw [← hW9]; exact (Below.refl _ _).drew
  have HB9 : Veil _ := ⟨hb9⟩
  have HD9 : Veil _ := ⟨HX8.out.1.below hb9⟩
  have hS : W9.cell? ⟨w.heap.size, 0, none⟩ = some (.bool was) ∧ W9.cell? ⟨w.heap.size + 1, 0, none⟩ = some (.int .i64 0) := ⟨cell_row1 HD9.out.b4, cell_row1 HD9.out.b5⟩
  have HSS : Veil _ := ⟨hS⟩
  refine region_plan 3 [(true, 0), (true, 1), (false, 2)] (by kernel_rfl) (by kernel_rfl) (fun w' => w'.cell? ⟨w.heap.size, 0, none⟩ = some (.bool was) ∧ w'.cell? ⟨w.heap.size + 1, 0, none⟩ = some (.int .i64 0)) W9 hW9 hS ?_
  clear hW9 hS hb9
  simp only [planOps, List.filterMap_cons, List.filterMap_nil, List.getElem?_toArray, List.getElem?_cons_zero, List.getElem?_cons_succ, Option.map_some]
  iterate 2 (refine plan_quiet rfl ?_ ?_ (fun K hK => ?_); rotate_left; (rintro w' ⟨s0, s1⟩; go_simp; rfl); (go_simp; refine hK _ ?_; clear hK K))
  refine plan_change (fun K hK => ?_)
  have y4 := cell_row1 HD9.out.b4
  have z4 : W9.frozen? ⟨w.heap.size, 0, none⟩ = false := frozen_whole HD9.out.b4 _
  go_wp2
  have hs4 := same_cell y4
  have hD10 := HD9.out.below hs4
  have HD10 : Veil _ := ⟨And.intro hD10 hs4⟩
  refine hK _ _ ⟨cell_row1 hD10.b4, cell_row1 hD10.b5⟩ ?_
  clear hK K y4 z4 hs4 hD10 HSS
  generalize W9.setCell ⟨w.heap.size, 0, none⟩ (.bool was) = W10 at HD10 ⊢
  refine wpPlan_nil ?_
  simp only [List.drop_succ_cons, List.drop_zero]
  have y5 := cell_row1 HD10.out.1.b5
  have z5 : W10.frozen? ⟨w.heap.size + 1, 0, none⟩ = false := frozen_whole HD10.out.1.b5 _
  go_wp2
  refine only_normal ?_
  have hs5 := same_cell y5
  have hB8 : Below w8.heap.size w8 (W10.setCell ⟨w.heap.size + 1, 0, none⟩ (.int .i64 0)) := (HB9.out.trans (HD10.out.2.mono HB9.out.size)).trans (hs5.mono (Nat.le_trans HB9.out.size HD10.out.2.size))
  have HB8 : Veil _ := ⟨hB8⟩
  clear y5 z5 hs5 hB8
  generalize W10.setCell ⟨w.heap.size + 1, 0, none⟩ (.int .i64 0) = W11 at HB8 ⊢
  go_wp2
  obtain ⟨hp8, hb8, hc8, hw8, ha8⟩ := HX8.out
  have hB8 := HB8.out
  have hp9 := hp8.below hB8
  have h79 := (hB8.block _ (lt_of_heap hb8)).trans hb8
  have hwb9 := (hB8.block _ (lt_of_heap hw8)).trans hw8
  have hc9 := hc8.below hB8
  refine leaves_cons (f := 34) (args := #[.pointer (some ⟨w3.heap.size, 0, none⟩), .pointer (some ⟨w2.heap.size, 0, none⟩), .pointer (some ⟨w.heap.size + 1, 0, none⟩), .pointer (some ⟨w.heap.size, 0, none⟩)]) (by simp) (by simp [go_sem]) ?_
  refine (deld_any hc9 hwb9 hf7 hg7 _ _ _ _ _ _ _ _ _ was h79 hp9.e6 hp9.b5 hp9.b4 (by omega) .returning).mono ?_
  rintro e u' w9 ⟨rfl, rfl, h49, h59, hE⟩
  refine ⟨_, results_bool_errno (g := w.heap.size) (k := w.heap.size + 1) rfl rfl rfl h49 h59, rfl, bp, c2, ?_⟩
  obtain ⟨own', e1, e2, e3⟩ := hE.ex
  have ht9 := hE.t
  obtain ⟨es, cl, hmo, -⟩ := hc9.own.row
  obtain ⟨clg, hgn⟩ := HW.out.gn
  have hlg := (Array.getElem?_eq_some_iff.1 hgn).1
  have hlo := HW.out.own.lt
  have hT8 : Turned (fun x => w.heap.size ≤ x) w W11 := ha8.trans (Turned.new hB8)
  have hg8 := (hT8.block _ hlg (by omega)).trans hgn
  have hbw : k.bg ≠ Wb := fun e => (map_ne_cells hwb9 hg8) e.symm
  refine ⟨own', hQ7, ⟨e1, hc9.al.kept ht9 (fun hn b hb e => ?_), e2, ⟨clg, ?_⟩, HW.out.nb⟩, e3, ?_⟩
  · rcases e with e | e | e | e
    · exact al_apart_wk hc9.al hwb9 hn b hb e
    · exact al_apart_map hc9.al hmo hn b hb e
    · exact al_apart_one hc9.al hp9.b4 hn b hb e
    · exact al_apart_one hc9.al hp9.b5 hn b hb e
  · exact (ht9.block _ (Nat.lt_of_lt_of_le hlg hT8.size) (fun e => by rcases e with e | e | e | e; exact hbw e; exact HW.out.nb e; omega; omega)).trans hg8
  · have hX : Turned (fun x => (x = Wb ∨ x = k.bo) ∨ w.heap.size ≤ x) w W11 := hT8.wider fun x _ e => Or.inr e
    have hY : Turned (fun x => (x = Wb ∨ x = k.bo) ∨ w.heap.size ≤ x) W11 w9 := ht9.wider fun x _ e => by
      rcases e with e | e | e | e
      · exact .inl (.inl e)
      · exact .inl (.inr e)
      · exact .inr (by omega)
      · exact .inr (by omega)
    exact (hX.trans hY).up
end Go.Proofs.YtokbmimbbeedcaaGreatDoor

/- Trees, by the program: the only leaf's step, and the one above it (facts). -/
namespace Go.Proofs.YtokbmimbbeedcaaGreatDoor
open Go Go.RowKit Sm

structure LfI (w : World) (C Wb : Nat) (k : Wk) (c : Ch) (A S0 S root i : Nat) (m : Nd) (ma : NdP) (u1 u2 u3 : Value) (W : World) : Prop where
  ch : ChAt W C Wb k c
  ab : Abv C Wb k c S0 0 w.heap.size u1 u2 u3 [] [root] W
  u : OwnE elP W w.heap.size u1 []
  up : ∀ x, u1.ownBlock = some x → x ≠ S0 ∧ u2.ownBlock ≠ some x ∧ u3.ownBlock ≠ some x
  p0 : W.cell? ⟨A, 0, none⟩ = some (.pointer (some ⟨S0, 0, none⟩))
  p1 : W.cell? ⟨A, 1, none⟩ = some (.pointer (some ⟨S, 0, none⟩))
  bx : W.heap[S]? = some (.cells #[.slice ma.pp m.ps.length ma.cp, .slice ma.pk m.ks.length ma.ck, .slice ma.pd m.ds.length ma.cd, .int .i64 i] 94 (0, 0))
  nd : NdAt W m ma
  ft : NdFit m ma
  o : ∀ x, (x = S0 ∨ u2.ownBlock = some x ∨ u3.ownBlock = some x) → x < S ∧ x ≠ A
  s : w.heap.size ≤ S ∧ w.heap.size ≤ A ∧ S ≠ A ∧ w.heap.size ≤ S0
  lo : C < w.heap.size ∧ c.bp < w.heap.size
  fr : Turned (fun x => x = C ∨ x = c.bp ∨ w.heap.size ≤ x) w W
section
variable {w : World} {C Wb : Nat} {k : Wk} {c : Ch} {A S0 S root i : Nat} {m n : Nd} {ma : NdP} {u1 u2 u3 : Value} {W W' : World}
theorem LfI.below (h : LfI w C Wb k c A S0 S root i m ma u1 u2 u3 W) (hb : Below W.heap.size W W') : LfI w C Wb k c A S0 S root i m ma u1 u2 u3 W' :=
  ⟨h.ch.below hb, h.ab.turned (Turned.new hb : Turned (fun _ => False) W W') (fun _ e => e.elim) rfl (fun _ e => .inl e), h.u.below hb, h.up, (hb.cell (World.block_lt_of_cell? _ _ h.p0)).trans h.p0, (hb.cell (World.block_lt_of_cell? _ _ h.p1)).trans h.p1, (hb.block _ (lt_of_heap h.bx)).trans h.bx, h.nd.below hb, h.ft, h.o, h.s, h.lo, h.fr.trans (Turned.new hb)⟩
theorem lf_start (h : ChAt w C Wb k c) {ca : Nat} {W2 : World} (hp : PutW w w.heap.size [(S0, ⟨[], [], [root]⟩, 0)] S n i A ca W2) :
    ∃ (u1 u2 u3 : Value) (la : NdP), W2.heap[S]? = some (.cells #[.slice la.pp n.ps.length la.cp, .slice la.pk n.ks.length la.ck, .slice la.pd n.ds.length la.cd, .int .i64 i] 94 (0, 0)) ∧ NdAt W2 n la ∧ NdFit n la ∧ W2.cell? ⟨A, 1, none⟩ = some (.pointer (some ⟨S, 0, none⟩)) ∧ 2 ≤ ca ∧ ca ≤ 9223372036854775807 ∧ Below w.heap.size w W2 ∧
      ∀ W3, Below W2.heap.size W2 W3 → ∀ (m : Nd) (ma : NdP), NdAt W3 m ma → NdFit m ma → LfI w C Wb k c A S0 S root i m ma u1 u2 u3 (((W3.setCell ⟨S, 0, none⟩ (.slice ma.pp m.ps.length ma.cp)).setCell ⟨S, 1, none⟩ (.slice ma.pk m.ks.length ma.ck)).setCell ⟨S, 2, none⟩ (.slice ma.pd m.ds.length ma.cd)) := by
  obtain ⟨M, E, v1, v2, v3, hy, hBM, hME, hEz, hs⟩ := hp.y
  obtain ⟨M0, u1, u2, u3, hB0, h0, hM0⟩ := hy
  have hM0 : M0 ≤ M := hM0
  obtain ⟨la, rfl, rfl, rfl, hat, hft⟩ := hs.m.parts
  have q0 := hp.ptr 0 (by simp)
  have q1 := hp.ptr 1 (by simp)
  simp only [List.cons_append, List.nil_append, List.getD_cons_zero, List.getD_cons_succ] at q0 q1
  have hlc := hp.lc
  simp only [List.length_cons, List.length_nil] at hlc
  refine ⟨u1, u2, u3, la, hs.c, hat, hft, q1, by omega, hp.cf, hp.t, fun W3 hb m ma hm hf => ?_⟩
  have hT : Turned (· = S) W3 (((W3.setCell ⟨S, 0, none⟩ (.slice ma.pp m.ps.length ma.cp)).setCell ⟨S, 1, none⟩ (.slice ma.pk m.ks.length ma.ck)).setCell ⟨S, 2, none⟩ (.slice ma.pd m.ds.length ma.cd)) := (((Turned.refl (· = S) W3).setCell (p := ⟨S, 0, none⟩) rfl _).setCell (p := ⟨S, 1, none⟩) rfl _).setCell (p := ⟨S, 2, none⟩) rfl _
  have hs3 := (hb.block _ (lt_of_heap hs.c)).trans hs.c
  have hbox : (((W3.setCell ⟨S, 0, none⟩ (.slice ma.pp m.ps.length ma.cp)).setCell ⟨S, 1, none⟩ (.slice ma.pk m.ks.length ma.ck)).setCell ⟨S, 2, none⟩ (.slice ma.pd m.ds.length ma.cd)).heap[S]? = some (.cells #[.slice ma.pp m.ps.length ma.cp, .slice ma.pk m.ks.length ma.ck, .slice ma.pd m.ds.length ma.cd, .int .i64 i] 94 (0, 0)) := heap_setCell_at (heap_setCell_at (heap_setCell_at hs3 0 _) 1 _) 2 _
  generalize (((W3.setCell ⟨S, 0, none⟩ (.slice ma.pp m.ps.length ma.cp)).setCell ⟨S, 1, none⟩ (.slice ma.pk m.ks.length ma.ck)).setCell ⟨S, 2, none⟩ (.slice ma.pd m.ds.length ma.cd)) = W4 at hT hbox ⊢
  have hSM := hs.lo
  have hS0 := h0.lo
  have hS0' := h0.hi
  have hbw3 : Below w.heap.size w W3 := hp.t.trans (hb.mono hp.t.size)
  have hbw4 : Below w.heap.size w W4 := hbw3.trans (hT.toBelow hbw3.size (fun x _ e => by have e : x = S := e; omega))
  have hcl := lt_of_heap h.cb
  obtain ⟨r1, r2, r3, r4, r5, hwb⟩ := h.wb
  have hwl := lt_of_heap hwb
  have hpl := h.pages.lt
  have hol := h.own.lt
  have hab := hp.ab
  have in0 : ∀ x, (x = S0 ∨ u2.ownBlock = some x ∨ u3.ownBlock = some x) → w.heap.size ≤ x ∧ x < S ∧ x ≠ A := fun x hx => by
    rcases hx with rfl | hx | hx
    · exact ⟨hS0, by omega, h0.na⟩
    · have h1 := (h0.m.k.lt hx).1
      have h2 := h0.o x (.inr (.inl hx))
      exact ⟨h1, by omega, h2.2.2⟩
    · have h1 := (h0.m.d.lt hx).1
      have h2 := h0.o x (.inr (.inr hx))
      exact ⟨h1, by omega, h2.2.2⟩
  refine ⟨h.below hbw4, ⟨hT.heap ((hb.block _ (lt_of_heap h0.c)).trans h0.c) (by omega), (h0.m.k.below hb).kept hT (fun x hx e => by have := (in0 x (.inr (.inl hx))).2.1; have e : x = S := e; omega), (h0.m.d.below hb).kept hT (fun x hx e => by have := (in0 x (.inr (.inr hx))).2.1; have e : x = S := e; omega), h0.m.kd, fun x hx => ?_, fun x hx => ?_⟩, (h0.m.p.below hb).kept hT (fun x hx e => by have := (h0.o x (.inl hx)).1; have e : x = S := e; omega), fun x hx => ⟨(h0.o x (.inl hx)).2.1, h0.m.pk x hx, h0.m.pd x hx⟩, ?_, ?_, hbox, ⟨els_step hm.p (fun x => by simp [elP, sv]) (fun x => by simp [elP, sv]) hs3 hT, els_step hm.k (fun x => by simp [elK, sv]) (fun x => by simp [elK, sv]) hs3 hT, els_step hm.d (fun x => by simp [elD]) (fun x => by simp [elD]) hs3 hT⟩, hf, fun x hx => (in0 x hx).2, ⟨by omega, hab, hs.na, hS0⟩, ⟨hcl, hpl⟩, (Turned.new hbw3).trans (hT.wider fun x _ e => .inr (.inr (by have e : x = S := e; omega)))⟩
  · have := in0 x hx
    exact ⟨by omega, by omega, by omega, by omega, fun b hb' => by have := (h.al.old b hb').1; omega⟩
  · rcases hx with hx | hx
    · exact (h0.o x (.inr (.inl hx))).2.1
    · exact (h0.o x (.inr (.inr hx))).2.1
  · exact hT.cell ((hb.cell (World.block_lt_of_cell? _ _ q0)).trans q0) (fun e => hs.na (Eq.symm e))
  · exact hT.cell ((hb.cell (World.block_lt_of_cell? _ _ q1)).trans q1) (fun e => hs.na (Eq.symm e))
/-- Behind lay. -/
theorem LfI.laid (h : LfI w C Wb k c A S0 S root i m ma u1 u2 u3 W) {c' : Ch} {v2 v3 : Value} {ks' : List (List UInt8)} {d : Nat} (hL : Laid W C Wb k c c' S0 0 w.heap.size u1 u2 u3 v2 v3 ks' [d] W') :
    ChAt W' C Wb k c' ∧ W'.cell? ⟨A, 0, none⟩ = some (.pointer (some ⟨S0, 0, none⟩)) ∧ W'.cell? ⟨A, 1, none⟩ = some (.pointer (some ⟨S, 0, none⟩)) ∧ W'.heap[S]? = some (.cells #[.slice ma.pp m.ps.length ma.cp, .slice ma.pk m.ks.length ma.ck, .slice ma.pd m.ds.length ma.cd, .int .i64 i] 94 (0, 0)) ∧ Turned (fun x => x = C ∨ x = c.bp ∨ w.heap.size ≤ x) w W' ∧
    ∃ p1 c1 p2 n2 c2 db d0 cd, W'.heap[S0]? = some (.cells #[.slice p1 0 c1, .slice p2 n2 c2, .slice (some ⟨db, d0, none⟩) 1 cd, .int .i64 (0 : Nat)] 94 (0, 0)) ∧ W'.cell? ⟨db, d0, none⟩ = some (.int .u32 d) := by
  obtain ⟨s1, s2, s3, s4⟩ := h.s
  obtain ⟨l1, l2⟩ := h.lo
  have hnA : ∀ x, (x = C ∨ x = c.bp ∨ x = S0 ∨ u2.ownBlock = some x ∨ u3.ownBlock = some x) → x ≠ A ∧ x ≠ S := fun x hx => by
    rcases hx with e | e | e | e | e
    · exact ⟨by omega, by omega⟩
    · exact ⟨by omega, by omega⟩
    · have := h.o x (.inl e); exact ⟨this.2, by omega⟩
    · have := h.o x (.inr (.inl e)); exact ⟨this.2, by omega⟩
    · have := h.o x (.inr (.inr e)); exact ⟨this.2, by omega⟩
  have ho1 : OwnE elP W' w.heap.size u1 [] := h.u.kept hL.t (fun x hx e => by
    have h1 := (h.u.lt hx).1
    have h2 := h.up x hx
    rcases e with e | e | e | e | e
    · omega
    · omega
    · exact h2.1 e
    · exact h2.2.1 e
    · exact h2.2.2 e)
  obtain ⟨p1, c1, e1, -, -⟩ := ho1.form
  obtain ⟨p2, c2, e2, -, -⟩ := hL.ab.ok.form
  obtain ⟨p3, c3, e3, hE3, -⟩ := hL.ab.od.form
  obtain ⟨b, o, hp, hc⟩ := els_atD (L := [d]) hE3 (k := 0) (by simp)
  have hbx := hL.ab.s
  rw [e1, e2, e3, hp] at hbx
  refine ⟨hL.ch, hL.t.cell h.p0 (fun e => (hnA _ e).1 rfl), hL.t.cell h.p1 (fun e => (hnA _ e).1 rfl), hL.t.heap h.bx (fun e => (hnA _ e).2 rfl), h.fr.trans (hL.t.wider fun x hx e => ?_), p1, c1, p2, _, c2, b, o, c3, hbx, by simpa using hc⟩
  rcases e with e | e | e | e | e
  · exact .inl e
  · exact .inr (.inl e)
  · exact .inr (.inr (by omega))
  · exact .inr (.inr (h.ab.ok.lt e).1)
  · exact .inr (.inr (h.ab.od.lt e).1)
end
end Go.Proofs.YtokbmimbbeedcaaGreatDoor

/- Trees, by the program: remove of a key that is there, from a tree of one leaf. -/
namespace Go.Proofs.YtokbmimbbeedcaaGreatDoor
open Go Go.RowKit Sm
attribute [local go_sem] Oper.semAt_some

theorem LfI.step {w : World} {C Wb : Nat} {k : Wk} {c : Ch} {A S0 S root i : Nat} {m : Nd} {ma : NdP} {u1 u2 u3 : Value} {W : World} (h : LfI w C Wb k c A S0 S root i m ma u1 u2 u3 W) (hm : mineC k c root = true) : StepM W A 0 S0 k c := by
  obtain ⟨-, h2⟩ := h.ab.od
  rcases h2 with ⟨-, h0⟩ | ⟨g, cap, cur, e3, -, hh, hn, -, -, ht⟩
  · simp at h0
  have hE : Els elD W (some ⟨g, 0, none⟩) [root] := els_of_block hh ht
  obtain ⟨b, o, hp, hc⟩ := els_atD (L := [root]) hE (k := 0) (by simp)
  cases hp
  have hb := h.ab.s
  rw [e3] at hb
  exact ⟨g, 0, 1, cap, 0, root, h.p0, cell_whole (cur := [_, _, _, _]) hb 2, cell_whole (cur := [_, _, _, _]) hb 3, by simpa using hc, frozen_whole hh _, by omega, by omega, hm⟩

set_option maxRecDepth 20000 in
set_option maxHeartbeats 4000000 in
theorem cremove_leaf {w : World} {C Wb : Nat} {k : Wk} {c : Ch} (h : ChAt w C Wb k c) {root : Nat} {al : Al} {p : Option Addr} {cp : Nat} {told : Int} (hwb : w.heap[Wb]? = some (.cells (wkCells k root al p cp told) 78 (0, 0))) (key : List UInt8) (hkey : key.length ≤ 1000000)
    {n m : Nd} (hn : NodeIs k root n) (hds : n.ds.length = 0) (hdel : n.delP key = (m, true, 0)) (hok : Veil m.Ok) (hs : m.size ≤ 237) (hfit : m.fits = true) (hmy : mineC k c root = true) (hds2 : m.ds.length = 0) (hps2 : m.ps.length ≤ 1000)
    (hm9 : ∀ p cp, mineC k (c.wrote k root m p cp) (c.copyId k root) = true ∧ (c.wrote k root m p cp).al.l.length < 100000) (hid : c.copyId k root < 4294967296) (htx : k.tx < 18446744073709551616) :
    Calls Tryz.prog 35 #[.pointer (some ⟨C, 0, none⟩), .string ⟨key.toArray⟩] w fun e w' => e = .returned (.tuple #[.bool true, .nilIface]) ∧ (m.ps.length ≠ 0 → ∃ p cp, ChAt w' C Wb k { c.wrote k root m p cp with root := c.copyId k root }) ∧ (m.ps.length = 0 → ∃ p cp p' cp', ChAt w' C Wb k (({ c.wrote k root m p cp with root := 0 } : Ch).dropped k (c.copyId k root) p' cp')) ∧ Turned (fun x => x = C ∨ x = c.bp) w w' := by
  have c0 : w.cell? ⟨C, 0, none⟩ = some (.pointer (some ⟨Wb, 0, none⟩)) := (ch_cells h.cb).1 0
  have HCh : Veil _ := ⟨h⟩
  have HD2 : Veil _ := ⟨hds2⟩
  have HM9 : Veil _ := ⟨And.intro hm9 (And.intro hid (And.intro htx hps2))⟩
  have HOk : Veil _ := ⟨And.intro hok (And.intro hs (And.intro hfit hmy))⟩
  have HWay : Veil (Calls Tryz.prog 32 #[.pointer (some ⟨Wb, 0, none⟩), .string ⟨key.toArray⟩] w fun e w' => ∃ A ca S0 S, e = .returned (.tuple #[.slice (some ⟨A, 0, none⟩) 2 ca, .nilIface]) ∧ PutW w w.heap.size [(S0, ⟨[], [], [root]⟩, 0)] S n (n.place key) A ca w') := ⟨(way_any hwb h.own key hkey [(n, n.place key)] ⟨hn, rfl, hds⟩ (by simp)).mono (by
    rintro e w' ⟨l, v, A, E, rfl, hwn, hl⟩
    obtain ⟨l0, S, ca, rfl, hl0, rfl, hpw⟩ := WayN.put hwn (x := [(⟨[], [], [root]⟩, 0)]) hl
    match l0, hl0 with
    | [(S0, y)], hl0 =>
      simp only [List.map_cons, List.map_nil, List.cons.injEq, and_true] at hl0
      subst hl0
      exact ⟨A, ca, S0, S, rfl, hpw⟩
    | [], hl0 => simp at hl0
    | _ :: _ :: _, hl0 => simp at hl0)⟩
  have HDe : Veil (∀ W (la : NdP), NdAt W n la → NdFit n la → Calls Tryz.prog 51 #[.agg #[.slice la.pp n.ps.length la.cp, .slice la.pk n.ks.length la.ck, .slice la.pd n.ds.length la.cd], .string ⟨key.toArray⟩] W fun e w' => ∃ a : NdP, e = .returned (.tuple #[.agg #[.slice a.pp m.ps.length a.cp, .slice a.pk m.ks.length a.ck, .slice a.pd m.ds.length a.cd], .bool true, .int .i64 0]) ∧ NdAt w' m a ∧ NdFit m a ∧ Below W.heap.size W w') := ⟨fun W la hat hft => (ndelete_of hat hft.p hn.ok key hkey).mono (by
    rintro e w' ⟨v1, v2, v3, rfl, hown, hb⟩
    rw [hdel] at hown ⊢
    obtain ⟨a, rfl, rfl, rfl, h1, h2⟩ := hown.parts
    exact ⟨a, rfl, h1, h2, hb⟩)⟩
  have HCw : Veil (∀ W A S0 S ma u1 u2 u3 ca, 2 ≤ ca → ca ≤ 9223372036854775807 → LfI w C Wb k c A S0 S root (n.place key) m ma u1 u2 u3 W → Calls Tryz.prog 52 #[.pointer (some ⟨C, 0, none⟩), .slice (some ⟨A, 0, none⟩) 2 ca] W fun e w' => e = .returned (.tuple #[]) ∧ Below W.heap.size W w') := ⟨fun W A S0 S ma u1 u2 u3 ca h1 h2 hI => copyWay_mine hI.ch (by omega) (by omega) h1 h2 (fun _ => S0) (fun j hj => by
    obtain rfl : j = 0 := by omega
    exact hI.step hmy)⟩
  clear h hwb hkey hn hdel hds hds2 hm9 hid htx hps2 hok hs hfit hmy
  go_enter Tryz.func35, Tryz.ntmps35
  go_wp2_with (first
    | (go_at_call 52; have HI5 : Veil _ := ⟨HI4.out.below (below_al (Below.refl _ _) (.cells #[.slice a4.pp m.ps.length a4.cp, .slice a4.pk m.ks.length a4.ck, .slice a4.pd m.ds.length a4.cd] 92))⟩; refine (HCw.out _ _ _ _ _ _ _ _ _ HLa.out.2.2.1.1 HLa.out.2.2.1.2 HI5.out).mono ?_; rintro e w6 ⟨rfl, hb6⟩; have HI6 : Veil _ := ⟨HI5.out.below hb6⟩; clear hb6 s0 s1 s2 f0 f1 f2)
    | (go_at_call 51; refine (HDe.out _ _ HLa.out.1 HLa.out.2.1).mono ?_; rintro e w4 ⟨a4, rfl, hat4, hft4, hb4⟩; have hs4 := (hb4.block _ (lt_of_heap HSb.out)).trans HSb.out; have HI4 : Veil _ := ⟨HLa.out.2.2.2.2 w4 hb4 m a4 hat4 hft4⟩; have s0 : w4.cell? ⟨S, 0, none⟩ = some (.slice la.pp n.ps.length la.cp) := cell_whole (cur := [_, _, _, _]) hs4 0; have s1 : w4.cell? ⟨S, 1, none⟩ = some (.slice la.pk n.ks.length la.ck) := cell_whole (cur := [_, _, _, _]) hs4 1; have s2 : w4.cell? ⟨S, 2, none⟩ = some (.slice la.pd n.ds.length la.cd) := cell_whole (cur := [_, _, _, _]) hs4 2; have f0 : w4.frozen? ⟨S, 0, none⟩ = false := frozen_whole hs4 _; have f1 : w4.frozen? ⟨S, 1, none⟩ = false := frozen_whole hs4 _; have f2 : w4.frozen? ⟨S, 2, none⟩ = false := frozen_whole hs4 _; have l4 := lt_of_heap hs4; have n4 : S ≠ w4.heap.size := (by omega); clear hs4 hat4 hft4 hb4)
    | (go_at_call 32; refine HWay.out.mono ?_; rintro e w2 ⟨A, ca, S0, S, rfl, hpw⟩; obtain ⟨u1, u2, u3, la, hsb, hat, hft, p1, hc1, hc2, hb2, hnx⟩ := lf_start HCh.out hpw; have s0 : w2.cell? ⟨S, 0, none⟩ = some (.slice la.pp n.ps.length la.cp) := cell_whole (cur := [_, _, _, _]) hsb 0; have s1 : w2.cell? ⟨S, 1, none⟩ = some (.slice la.pk n.ks.length la.ck) := cell_whole (cur := [_, _, _, _]) hsb 1; have s2 : w2.cell? ⟨S, 2, none⟩ = some (.slice la.pd n.ds.length la.cd) := cell_whole (cur := [_, _, _, _]) hsb 2; have HSb : Veil _ := ⟨hsb⟩; have HLa : Veil _ := ⟨And.intro hat (And.intro hft (And.intro (And.intro hc1 hc2) (And.intro hb2 hnx)))⟩; clear hsb hat hft hb2 hnx hpw))
  refine wp_loop_rounds 3 ?_
  rw [rounds_succ]
  go_wp2
  obtain ⟨w7, hw7⟩ : ∃ w7, w6.drew = w7 := ⟨_, rfl⟩
  have HI7 : Veil (LfI w C Wb k c A S0 S root (n.place key) m a4 u1 u2 u3 w7) := ⟨by rw [← hw7]; exact HI6.out.below (Below.refl _ _).drew⟩
  have p0 := HI7.out.p0
  have p1 := HI7.out.p1
  refine region_tail 10 (by kernel_rfl) (by kernel_rfl) w7 hw7 ?_
  clear hw7
  simp only [List.take_succ_cons, List.take_zero, List.drop_succ_cons, List.drop_zero]
  have hw1 : IntKind.i64.wrap 0 = 0 := by rw [IntKind.wrap_i64]; omega
  have hw2 : IntKind.i64.wrap 1 = 1 := by rw [IntKind.wrap_i64]; omega
  have hw3 : wrap64 0 = 0 := by unfold wrap64; omega
  have hw4 : wrap64 1 = 1 := by unfold wrap64; omega
  have k1 : (0 : Int) ≤ 0 := by omega
  have k2 : (0 : Int) < 2 := by omega
  have k3 : (0 : Int) ≤ 1 := by omega
  have k4 : (1 : Int) < 2 := by omega
  have k5 : (0 : Int).toNat = 0 := rfl
  have k6 : (1 : Int).toNat = 1 := rfl
  iterate 10
    (refine wpStill_step (fun K hK => ?_)
     go_simp
     try simp only [hw1, hw2, hw3, hw4, k1, k2, k3, k4, k5, k6, and_self, if_true]
     refine hK _ ?_
     clear hK K)
  clear hw1 hw2 hw3 hw4 k1 k2 k3 k4 k5 k6
  refine wpStill_nil ?_
  go_wp2
  refine only_normal ?_
  obtain ⟨pq, cq, e3, -, -⟩ := HI7.out.ab.od.form
  have hb0 := HI7.out.ab.s
  rw [e3] at hb0
  have HJ : Veil _ := ⟨join_alone (m := m) (a := a4) (.pointer (some ⟨C, 0, none⟩)) (.int .i64 1) hb0 HI7.out.bx HI7.out.nd HI7.out.ft HOk.out.1 (by simp) (.inr rfl)⟩
  clear hb0
  go_wp2_with (go_at_call 53; refine HJ.out.mono ?_; rintro e w8 ⟨rfl, hb8⟩; have HI8 : Veil _ := ⟨HI7.out.below hb8⟩; clear hb8; have s0 : w8.cell? ⟨S, 0, none⟩ = some (.slice a4.pp m.ps.length a4.cp) := cell_whole (cur := [_, _, _, _]) HI8.out.bx 0; have s1 : w8.cell? ⟨S, 1, none⟩ = some (.slice a4.pk m.ks.length a4.ck) := cell_whole (cur := [_, _, _, _]) HI8.out.bx 1; have s2 : w8.cell? ⟨S, 2, none⟩ = some (.slice a4.pd m.ds.length a4.cd) := cell_whole (cur := [_, _, _, _]) HI8.out.bx 2)
  have HLy : Veil (Calls Tryz.prog 46 #[.pointer (some ⟨C, 0, none⟩), .pointer (some ⟨S0, 0, none⟩), .agg #[.slice a4.pp m.ps.length a4.cp, .slice a4.pk m.ks.length a4.ck, .slice a4.pd m.ds.length a4.cd], .int .i64 1] w8 fun e w' => ∃ p cp v2 v3, e = .returned .nilIface ∧ Laid w8 C Wb k c (c.wrote k root m p cp) S0 0 w.heap.size u1 u2 u3 v2 v3 [] [c.copyId k root] w') := ⟨lay_one HI8.out.ch HI8.out.ab HI8.out.fr.size (by simp) (by simp) (by simp) (by simp) HI8.out.nd HI8.out.ft.k HOk.out.1 HOk.out.2.1 HOk.out.2.2.1 (.inl HOk.out.2.2.2)⟩
  go_wp2_with (go_at_call 46; refine HLy.out.mono ?_; rintro e w9 ⟨p9, cp9, v2, v3, rfl, hL⟩; obtain ⟨h1, h2, h3, h4, h5, q1, x1, q2, y2, x2, db, d0, cd, h6, h7⟩ := HI8.out.laid hL; have hbp9 : (c.wrote k root m p9 cp9).bp = c.bp := hL.bp; have HX9 : Veil _ := ⟨And.intro h1 (And.intro h3 (And.intro h4 h5))⟩; have HCr : Veil _ := ⟨crown_one (len := 2) (cap := ca) h1 (by omega) h2 h6 h7⟩; clear hL h1 h2 h3 h4 h5 h6 h7 s0 s1 s2)
  rw [rounds_succ]
  have hlC : C < w.heap.size := HI8.out.lo.1
  have hlS := HI8.out.s
  by_cases hps : m.ps.length = 0
  · have HSh : Veil (∀ w10, ChAt w10 C Wb k { c.wrote k root m p9 cp9 with root := c.copyId k root } → Turned (· = C) w9 w10 → Calls Tryz.prog 54 #[.pointer (some ⟨C, 0, none⟩), .slice (some ⟨A, 0, none⟩) 2 ca] w10 fun e w' => ∃ p cp, e = .returned (.tuple #[]) ∧ ChAt w' C Wb k (({ c.wrote k root m p9 cp9 with root := 0 } : Ch).dropped k (c.copyId k root) p cp) ∧ Turned (fun x => x = C ∨ x = c.bp) w10 w') := ⟨fun w10 hc ht => (shrink_drop (c := { c.wrote k root m p9 cp9 with root := c.copyId k root }) hc HLa.out.2.2.1 (ht.cell HX9.out.2.1 (fun e => by have e : A = C := e; omega)) (ht.heap HX9.out.2.2.1 (fun e => by have e : S = C := e; omega)) HD2.out hps (HM9.out.1 p9 cp9).1 HM9.out.2.1 HM9.out.2.2.1 (HM9.out.1 p9 cp9).2).mono (by
      rintro e w' ⟨p, cp, h1, h2, h3⟩
      have h3' : Turned (fun x => x = C ∨ x = (c.wrote k root m p9 cp9).bp) w10 w' := h3
      rw [hbp9] at h3'
      exact ⟨p, cp, h1, h2, h3'⟩)⟩
    go_wp2_with (first
      | (go_at_call 54; refine (HSh.out _ HC10.out.1 HC10.out.2).mono ?_; rintro e w11 ⟨p11, cp11, rfl, hc11, ht11⟩; have H11 : Veil _ := ⟨And.intro hc11 ht11⟩; clear hc11 ht11)
      | (go_at_call 47; refine HCr.out.mono ?_; rintro e w10 ⟨rfl, hc10, ht10⟩; have HC10 : Veil _ := ⟨And.intro hc10 ht10⟩; clear hc10 ht10))
    refine bodyPost_ret (results_two rfl rfl rfl) rfl ⟨rfl, fun e => absurd hps e, fun _ => ⟨p9, cp9, p11, cp11, H11.out.1⟩, ?_⟩
    refine Turned.up ((HX9.out.2.2.2.wider fun x _ e => ?_).trans ((HC10.out.2.wider fun x _ e => .inl (.inl e)).trans (H11.out.2.wider fun x _ e => .inl e)))
    rcases e with e | e | e
    · exact .inl (.inl e)
    · exact .inl (.inr e)
    · exact .inr e
  · have HSh : Veil (∀ w10, ChAt w10 C Wb k { c.wrote k root m p9 cp9 with root := c.copyId k root } → Turned (· = C) w9 w10 → Calls Tryz.prog 54 #[.pointer (some ⟨C, 0, none⟩), .slice (some ⟨A, 0, none⟩) 2 ca] w10 fun e w' => e = .returned (.tuple #[]) ∧ Below w10.heap.size w10 w') := ⟨fun w10 hc ht => shrink_rest hc ⟨Nat.le_refl _, by omega, HLa.out.2.2.1⟩ (ht.cell HX9.out.2.1 (fun e => by have e : A = C := e; omega)) (ht.heap HX9.out.2.2.1 (fun e => by have e : S = C := e; omega)) (by have := HD2.out; omega) (by omega) (by have := HD2.out; have := HM9.out.2.2.2; omega)⟩
    go_wp2_with (first
      | (go_at_call 54; refine (HSh.out _ HC10.out.1 HC10.out.2).mono ?_; rintro e w11 ⟨rfl, hb11⟩; have H11 : Veil _ := ⟨And.intro (HC10.out.1.below hb11) hb11⟩; clear hb11)
      | (go_at_call 47; refine HCr.out.mono ?_; rintro e w10 ⟨rfl, hc10, ht10⟩; have HC10 : Veil _ := ⟨And.intro hc10 ht10⟩; clear hc10 ht10))
    refine bodyPost_ret (results_two rfl rfl rfl) rfl ⟨rfl, fun _ => ⟨p9, cp9, H11.out.1⟩, fun e => absurd e hps, ?_⟩
    refine Turned.up ((HX9.out.2.2.2.wider fun x _ e => ?_).trans ((HC10.out.2.wider fun x _ e => .inl (.inl e)).trans (Turned.new H11.out.2)))
    rcases e with e | e | e
    · exact .inl (.inl e)
    · exact .inl (.inr e)
    · exact .inr e
end Go.Proofs.YtokbmimbbeedcaaGreatDoor

/- Trees, by the program: Open of an empty tree, no page of it spare. -/
namespace Go.Proofs.YtokbmimbbeedcaaGreatDoor
open Go Go.RowKit Sm
attribute [local go_sem] Oper.semAt_some

set_option maxRecDepth 20000 in
theorem tclone_nil (w : World) : Calls Tryz.prog 26 #[.slice none 0 0] w fun e w' => e = .returned (.slice none 0 0) ∧ w' = w := by
  have hq : (binOp BinOp.eql 32 (.slice none 0 0) (.slice none 0 0)).run Tryz.prog w = .ok (.bool true) w := by kernel_rfl
  go_enter Tryz.func26, Tryz.ntmps26
  go_wp2
  go_ret
  exact ⟨rfl, rfl⟩
set_option maxRecDepth 20000 in
theorem topen_nil (w : World) (root : Nat) (a : Value) (tx old : Nat) (x y z : Value) (ha : a = .agg #[x, y, z]) : Calls Tryz.prog 10 #[.pointer none, .int .u32 root, a, .int .u64 tx, .int .u64 old] w fun e w' => e = .returned (.tuple #[.pointer none, .int .i64 1]) ∧ Below w.heap.size w w' := by
  subst ha
  go_enter Tryz.func10, Tryz.ntmps10
  go_wp2
  exact bodyPost_ret (results_two rfl rfl rfl) rfl ⟨rfl, below_al (Below.refl _ _) _⟩

theorem mkmap_at (w : World) (n : Nat) (h : w.heap.size = n) : (Instr.makeMap 75 none).run Tryz.prog w = .ok (.map (some n)) (w.alloc (.map #[] 0)) := by subst h; rfl
theorem mkmap_at2 (w : World) (n : Nat) (h : w.heap.size = n) : (Instr.makeMap 76 none).run Tryz.prog w = .ok (.map (some n)) (w.alloc (.map #[] 0)) := by subst h; rfl
set_option maxRecDepth 20000 in
set_option maxHeartbeats 2000000 in
/-- OPEN of an empty tree, without spares. -/
theorem topen_new (w : World) (d : Nat) (al : Al) (hal : al.right = true) (hok : Veil al.Ok) (hl : al.l = []) (tx old : Nat) (htx : 1 ≤ tx) : Calls Tryz.prog 10 #[.pointer (some ⟨d, 0, none⟩), .int .u32 0, al.v none 0, .int .u64 tx, .int .u64 old] w fun e w' => ∃ Wb bo bg, e = .returned (.tuple #[.pointer (some ⟨Wb, 0, none⟩), .int .i64 0]) ∧ WrkAt w' Wb ⟨.pointer (some ⟨d, 0, none⟩), tx, old, [], bo, bg⟩ 0 al none 0 ∧ Below w.heap.size w w' ∧ w.heap.size ≤ Wb ∧ w.heap.size ≤ bo := by
  have HR : Veil (∀ W, Calls Tryz.prog 25 #[.agg #[.int .u32 al.high, .int .u32 al.most, .slice none 0 0]] W fun e w' => e = .returned (.bool true) ∧ Below W.heap.size W w') := ⟨fun W => by
    have hs : Sps W none al.l := by rw [hl]; intro hne; exact absurd rfl hne
    have := aright_of hs (fun b hb => by cases hb) 0 hok
    unfold Al.v at this
    rw [hal, hl] at this
    exact this⟩
  unfold Al.v
  rw [hl]
  simp only [List.length_nil]
  have ht : ¬ (tx : Int) < 1 := by omega
  go_enter Tryz.func10, Tryz.ntmps10
  go_wp2_with (first
    | (go_at_call 26; refine (tclone_nil _).mono ?_; rintro e w4 ⟨rfl, rfl⟩; have hmk1 : (Instr.makeMap 75 none).run Tryz.prog ((w4.setCell ⟨w.heap.size, 2, none⟩ (.slice none 0 0)).alloc (.cells #[.pointer (some ⟨d, 0, none⟩), .int .u32 0, .int .u32 al.high, .int .u32 al.most, .slice none 0 0, .int .u64 tx, .int .u64 old, .map none, .map none, .int .i64 0] 78)) = .ok (.map (some (w4.heap.size + 1))) (((w4.setCell ⟨w.heap.size, 2, none⟩ (.slice none 0 0)).alloc (.cells #[.pointer (some ⟨d, 0, none⟩), .int .u32 0, .int .u32 al.high, .int .u32 al.most, .slice none 0 0, .int .u64 tx, .int .u64 old, .map none, .map none, .int .i64 0] 78)).alloc (.map #[] 0)) := mkmap_at _ _ (by simp); have hmk2 : (Instr.makeMap 76 none).run Tryz.prog (((w4.setCell ⟨w.heap.size, 2, none⟩ (.slice none 0 0)).alloc (.cells #[.pointer (some ⟨d, 0, none⟩), .int .u32 0, .int .u32 al.high, .int .u32 al.most, .slice none 0 0, .int .u64 tx, .int .u64 old, .map none, .map none, .int .i64 0] 78)).alloc (.map #[] 0)) = .ok (.map (some (w4.heap.size + 1 + 1))) ((((w4.setCell ⟨w.heap.size, 2, none⟩ (.slice none 0 0)).alloc (.cells #[.pointer (some ⟨d, 0, none⟩), .int .u32 0, .int .u32 al.high, .int .u32 al.most, .slice none 0 0, .int .u64 tx, .int .u64 old, .map none, .map none, .int .i64 0] 78)).alloc (.map #[] 0)).alloc (.map #[] 0)) := mkmap_at2 _ _ (by simp))
    | (go_at_call 25; refine (HR.out _).mono ?_; rintro e w2 ⟨rfl, hb2⟩; have hx2 := (hb2.block _ (lt_of_heap (heap_alloc_new w _))).trans (heap_alloc_new w (.cells #[.int .u32 al.high, .int .u32 al.most, .slice none 0 0] 34)); obtain ⟨⟨a0, a1, a2⟩, f0, f1, f2⟩ := pack3 hx2; have HX2 : Veil _ := ⟨hx2⟩; have hl2 := lt_of_heap hx2; have HB2 : Veil _ := ⟨alb_then (below_al (Below.refl _ _) _) hb2⟩; clear hb2 hx2))
  refine bodyPost_ret (results_two rfl rfl rfl) rfl ⟨w4.heap.size, w4.heap.size + 1, w4.heap.size + 1 + 1, rfl, ?_⟩
  have k5 := same_cell (pack3 HX2.out).1.2.2
  have z5 : (w4.setCell ⟨w.heap.size, 2, none⟩ (.slice none 0 0)).heap.size = w4.heap.size := by simp
  have hbw := HB2.out.trans (k5.mono HB2.out.size)
  have hwz := HB2.out.size
  clear hmk1 hmk2
  generalize w4.setCell ⟨w.heap.size, 2, none⟩ (.slice none 0 0) = W5 at k5 z5 hbw ⊢
  have n6 := heap_alloc_new W5 (.cells #[.pointer (some ⟨d, 0, none⟩), .int .u32 0, .int .u32 al.high, .int .u32 al.most, .slice none 0 0, .int .u64 tx, .int .u64 old, .map (some (w4.heap.size + 1)), .map (some (w4.heap.size + 1 + 1)), .int .i64 0] 78)
  have k6 : Below W5.heap.size W5 (W5.alloc (.cells #[.pointer (some ⟨d, 0, none⟩), .int .u32 0, .int .u32 al.high, .int .u32 al.most, .slice none 0 0, .int .u64 tx, .int .u64 old, .map (some (w4.heap.size + 1)), .map (some (w4.heap.size + 1 + 1)), .int .i64 0] 78)) := below_al (Below.refl _ _) _
  have z6 : (W5.alloc (.cells #[.pointer (some ⟨d, 0, none⟩), .int .u32 0, .int .u32 al.high, .int .u32 al.most, .slice none 0 0, .int .u64 tx, .int .u64 old, .map (some (w4.heap.size + 1)), .map (some (w4.heap.size + 1 + 1)), .int .i64 0] 78)).heap.size = w4.heap.size + 1 := by simp [z5]
  rw [z5] at n6
  generalize W5.alloc (.cells #[.pointer (some ⟨d, 0, none⟩), .int .u32 0, .int .u32 al.high, .int .u32 al.most, .slice none 0 0, .int .u64 tx, .int .u64 old, .map (some (w4.heap.size + 1)), .map (some (w4.heap.size + 1 + 1)), .int .i64 0] 78) = W6 at n6 k6 z6 ⊢
  have m7 := MapAt.made W6 Pg.v
  have k7 : Below W6.heap.size W6 (W6.alloc (.map #[] 0)) := below_al (Below.refl _ _) _
  have z7 : (W6.alloc (.map #[] 0)).heap.size = w4.heap.size + 1 + 1 := by simp [z6]
  rw [z6] at m7
  have n8 := heap_alloc_new (W6.alloc (.map #[] 0)) (.map #[] 0)
  have k8 : Below (W6.alloc (.map #[] 0)).heap.size (W6.alloc (.map #[] 0)) ((W6.alloc (.map #[] 0)).alloc (.map #[] 0)) := below_al (Below.refl _ _) _
  rw [z7] at n8
  generalize W6.alloc (.map #[] 0) = W7 at m7 k7 z7 n8 k8 ⊢
  have n7 := (k7.block _ (lt_of_heap n6)).trans n6
  have hb6 := hbw.trans (k6.mono hbw.size)
  have hb7 := hb6.trans (k7.mono hb6.size)
  refine ⟨⟨?_, ⟨?_, fun b hb => (by cases hb), by rw [hl]; simp, by omega, fun _ => rfl, ?_⟩, m7.below k8, ⟨0, n8⟩, by simp⟩, hb7.trans (k8.mono hb7.size), by omega, by omega⟩
  · have := (k8.block _ (lt_of_heap n7)).trans n7
    simpa [wkCells, hl] using this
  · rw [hl]; intro hne; exact absurd rfl hne
  · exact hok.out
end Go.Proofs.YtokbmimbbeedcaaGreatDoor

/- Trees, by the program: Put into a work of one leaf, or of none, whole. -/
namespace Go.Proofs.YtokbmimbbeedcaaGreatDoor
open Go Go.RowKit Sm

theorem wrote_full {k : Wk} {c : Ch} {id : Nat} {n : Nd} {p : Option Addr} {cp : Nat} (hm : mineC k c id = true ∨ (c.al.take k.old).err = 0) : (c.wrote k id n p cp).full = c.full ∧ (c.wrote k id n p cp).vg = c.vg := by
  unfold Ch.wrote Ch.copied Ch.took
  by_cases h : mineC k c id = true
  · simp [h]
  · have h2 : (c.al.take k.old).err = 0 := hm.resolve_left h
    simp [h, h2]
theorem wrote_page {k : Wk} {c : Ch} {id : Nat} {n : Nd} {p : Option Addr} {cp : Nat} : mget (c.wrote k id n p cp).pages (c.copyId k id) = some ⟨(n.kind : Nat), c.copyId k id, k.tx, n.enc⟩ := by
  unfold Ch.wrote
  simp only [mget_put, if_pos]
theorem done_wrote {k : Wk} {c : Ch} {id : Nat} {n : Nd} {p : Option Addr} {cp : Nat} (h0 : c.copyId k id ≠ 0) : doneC (c.wrote k id n p cp).pages k.own (c.copyId k id) = some ⟨(n.kind : Nat), c.copyId k id, k.tx, n.enc⟩ := by
  unfold doneC
  rw [wrote_page]
  simp [Pg.gone, h0]
theorem wrote_almine {k : Wk} {c : Ch} {id : Nat} {n : Nd} {p : Option Addr} {cp : Nat} (hm : mineC k c id = true) : (c.wrote k id n p cp).al = c.al ∧ c.copyId k id = id := by
  unfold Ch.wrote Ch.copied Ch.copyId
  simp [hm]
theorem wrote_altook {k : Wk} {c : Ch} {id : Nat} {n : Nd} {p : Option Addr} {cp : Nat} (hm : mineC k c id = false) (he : (c.al.take k.old).err = 0) : (c.wrote k id n p cp).al = (c.al.take k.old).a ∧ c.copyId k id = (c.al.take k.old).page := by
  unfold Ch.wrote Ch.copied Ch.copyId Ch.took Ch.tookId
  simp [hm, he]
/-- PUT into a work of one leaf, or of none. -/
theorem wput_leaf {w : World} {Wb : Nat} {k : Wk} {root : Nat} {al : Al} {p : Option Addr} {cp : Nat} (h : WrkAt w Wb k root al p cp) (kv : Pr) (hkv : kv.k.length ≤ 1000000 ∧ kv.v.length ≤ 1000000) (hr : refS 0 kv.k [kv.v] = 0) {n m : Nd} (hn : NodeIs k root n) (hds : n.ds.length = 0) (hput : n.putR kv = (m, 0)) (hok : Veil m.Ok) (hs : m.size ≤ 237) (hfit : m.fits = true) (hri : m.right = true)
    (hmy : (mget k.own root).isSome = true ∧ root ≠ 0 ∨ root = 0 ∧ (mget k.own 0).isSome = false ∧ (al.take k.old).err = 0 ∧ (al.take k.old).page ≠ 0) :
    Calls Tryz.prog 12 #[.pointer (some ⟨Wb, 0, none⟩), kv.vv] w fun e w' => e = .returned (.int .i64 0) ∧ ∃ own' r' al' p' cp', WrkAt w' Wb { k with own := own' } r' al' p' cp' ∧ NodeIs { k with own := own' } r' m ∧ (mget own' r').isSome = true ∧ r' ≠ 0 ∧ (root ≠ 0 → r' = root ∧ al' = al) ∧ (root = 0 → r' = (al.take k.old).page ∧ al' = (al.take k.old).a) ∧ Turned (fun x => x = Wb ∨ x = k.bo) w w' := by
  have hm1 : ∀ bp, mineC k ⟨root, al, p, cp, [], bp, .slice none 0 0, .nilIface⟩ root = true ∨ root = 0 := fun bp => by
    rcases hmy with ⟨h1, -⟩ | ⟨h1, -⟩
    · left; unfold mineC; simpa [mget_nil] using h1
    · exact .inr h1
  have hm2 : ∀ bp, mineC k ⟨root, al, p, cp, [], bp, .slice none 0 0, .nilIface⟩ root = true ∨ (al.take k.old).err = 0 := fun bp => by
    rcases hmy with ⟨h1, -⟩ | ⟨-, -, h1, -⟩
    · left; unfold mineC; simpa [mget_nil] using h1
    · exact .inr h1
  have hne : ∀ bp, Ch.copyId k ⟨root, al, p, cp, [], bp, .slice none 0 0, .nilIface⟩ root ≠ 0 := fun bp => by
    rcases hmy with ⟨h1, h2⟩ | ⟨rfl, h1, h2, h3⟩
    · unfold Ch.copyId
      rw [if_pos (by unfold mineC; simpa [mget_nil] using h1)]
      exact h2
    · unfold Ch.copyId Ch.tookId
      rw [if_neg (by unfold mineC; simp [mget_nil, h1]), if_pos h2]
      exact h3
  refine (wput_of h kv hr (fun bp c2 => ∃ p' cp', c2 = { Ch.wrote k ⟨root, al, p, cp, [], bp, .slice none 0 0, .nilIface⟩ root m p' cp' with root := Ch.copyId k ⟨root, al, p, cp, [], bp, .slice none 0 0, .nilIface⟩ root }) (fun W C bp hc hwb => ?_)).mono ?_
  · refine (cput_leaf hc hwb kv hkv hn hds hput hok hs hfit (hm1 bp)).mono ?_
    rintro e w' ⟨h1, p', cp', h2, h3⟩
    have hw := wrote_full (n := m) (p := p') (cp := cp') (hm2 bp)
    exact ⟨h1, _, ⟨p', cp', rfl⟩, h2, hw.1, hw.2, h3⟩
  · rintro e w' ⟨h1, bp, c2, own', ⟨p', cp', rfl⟩, h2, h3, h4⟩
    have h5 : mget own' (Ch.copyId k ⟨root, al, p, cp, [], bp, .slice none 0 0, .nilIface⟩ root) = some ⟨(m.kind : Nat), _, k.tx, m.enc⟩ := (h3 _).trans (done_wrote (hne bp))
    refine ⟨h1, own', _, _, _, _, h2, .inr ⟨hne bp, hri, hfit, hok, _, _, h5⟩, by rw [h5]; rfl, hne bp, fun h0 => ?_, fun h0 => ?_, h4⟩
    · rcases hmy with ⟨q1, -⟩ | ⟨q1, -⟩
      · have hx : mineC k ⟨root, al, p, cp, [], bp, .slice none 0 0, .nilIface⟩ root = true := by unfold mineC; simpa [mget_nil] using q1
        have hy := wrote_almine (n := m) (p := p') (cp := cp') hx
        exact ⟨hy.2, hy.1⟩
      · exact absurd q1 h0
    · rcases hmy with ⟨-, q1⟩ | ⟨rfl, q1, q2, -⟩
      · exact absurd h0 q1
      · have hx : mineC k ⟨0, al, p, cp, [], bp, .slice none 0 0, .nilIface⟩ 0 = false := by unfold mineC; simp [mget_nil, q1]
        have hy := wrote_altook (n := m) (p := p') (cp := cp') hx q2
        exact ⟨hy.2, hy.1⟩
theorem wrote_mine {k : Wk} {c : Ch} {id : Nat} {n : Nd} {p : Option Addr} {cp : Nat} (h0 : c.copyId k id ≠ 0) : mineC k (c.wrote k id n p cp) (c.copyId k id) = true := by
  unfold mineC
  rw [wrote_page]
  simp [h0]
/-- DELETE of a key that is there, from a work of one leaf, that keeps a pair. -/
theorem wdel_leaf {w : World} {Wb : Nat} {k : Wk} {root : Nat} {al : Al} {p : Option Addr} {cp : Nat} (h : WrkAt w Wb k root al p cp) (key : List UInt8) (hkey : key.length ≤ 1000000) (hr : refS 0 key [] = 0) {n m : Nd} (hn : NodeIs k root n) (hds : n.ds.length = 0) (hdel : n.delP key = (m, true, 0)) (hok : Veil m.Ok) (hs : m.size ≤ 237) (hfit : m.fits = true) (hri : m.right = true) (hds2 : m.ds.length = 0) (hps : m.ps.length ≠ 0) (hps2 : m.ps.length ≤ 1000)
    (hmy : (mget k.own root).isSome = true) (hr0 : root ≠ 0) (hr1 : root < 4294967296) (htx : k.tx < 18446744073709551616) (hal : al.l.length < 100000) :
    Calls Tryz.prog 14 #[.pointer (some ⟨Wb, 0, none⟩), .string ⟨key.toArray⟩] w fun e w' => e = .returned (.tuple #[.bool true, .int .i64 0]) ∧ ∃ own' r' al' p' cp', WrkAt w' Wb { k with own := own' } r' al' p' cp' ∧ NodeIs { k with own := own' } r' m ∧ (mget own' r').isSome = true ∧ r' ≠ 0 ∧ Turned (fun x => x = Wb ∨ x = k.bo) w w' := by
  have hm1 : ∀ bp, mineC k ⟨root, al, p, cp, [], bp, .slice none 0 0, .nilIface⟩ root = true := fun bp => by
    unfold mineC; simpa [mget_nil] using hmy
  have hid : ∀ bp, Ch.copyId k ⟨root, al, p, cp, [], bp, .slice none 0 0, .nilIface⟩ root = root := fun bp => by
    unfold Ch.copyId
    rw [if_pos (hm1 bp)]
  have hne : ∀ bp, Ch.copyId k ⟨root, al, p, cp, [], bp, .slice none 0 0, .nilIface⟩ root ≠ 0 := fun bp => by rw [hid]; exact hr0
  refine (wdel_of h key hr true (fun bp c2 => ∃ p' cp', c2 = { Ch.wrote k ⟨root, al, p, cp, [], bp, .slice none 0 0, .nilIface⟩ root m p' cp' with root := Ch.copyId k ⟨root, al, p, cp, [], bp, .slice none 0 0, .nilIface⟩ root }) (fun W C bp hc hwb => ?_)).mono ?_
  · refine (cremove_leaf hc hwb key hkey hn hds hdel hok hs hfit (hm1 bp) hds2 hps2 (fun p cp => ⟨wrote_mine (hne bp), by rw [(wrote_almine (hm1 bp)).1]; exact hal⟩) (by rw [hid]; exact hr1) htx).mono ?_
    rintro e w' ⟨h1, h2, -, h3⟩
    obtain ⟨p', cp', h2⟩ := h2 hps
    have hw := wrote_full (n := m) (p := p') (cp := cp') (.inl (hm1 bp))
    exact ⟨h1, _, ⟨p', cp', rfl⟩, h2, hw.1, hw.2, h3⟩
  · rintro e w' ⟨h1, bp, c2, own', ⟨p', cp', rfl⟩, h2, h3, h4⟩
    have h5 : mget own' (Ch.copyId k ⟨root, al, p, cp, [], bp, .slice none 0 0, .nilIface⟩ root) = some ⟨(m.kind : Nat), _, k.tx, m.enc⟩ := (h3 _).trans (done_wrote (hne bp))
    exact ⟨h1, own', _, _, _, _, h2, .inr ⟨hne bp, hri, hfit, hok, _, _, h5⟩, by rw [h5]; rfl, hne bp, h4⟩
/-- ALL of a work of one leaf. -/
theorem wall_leaf {w : World} {Wb : Nat} {k : Wk} {root : Nat} {al : Al} {p : Option Addr} {cp : Nat} (h : WrkAt w Wb k root al p cp) {n : Nd} (hn : NodeIs k root n) (hds : n.ds = []) (hps : n.ps.length ≤ 1000000) :
    Calls Tryz.prog 15 #[.pointer (some ⟨Wb, 0, none⟩)] w fun e w' => ∃ v, e = .returned (.tuple #[v, .int .i64 0]) ∧ OwnE elP w' w.heap.size v n.ps ∧ Below w.heap.size w w' :=
  wall_of h.wb h.own (pg := fun x => if x = root then some n else none) (fun id n' he => by
    split at he
    · cases he; rename_i e; subst e; exact hn
    · cases he) (h := 0) (n := n) (L := n.ps) ⟨by simp, hds, rfl⟩ (by omega) hps
end Go.Proofs.YtokbmimbbeedcaaGreatDoor

/- Trees: the leaves that the laws' beginning makes (reckoning). -/
namespace Go.Proofs.YtokbmimbbeedcaaGreatDoor
open Go Go.RowKit Sm

def shA : Pr := ⟨[97], []⟩
def shB : Pr := ⟨[98], []⟩
def shC : Pr := ⟨[99], []⟩
def sh1 : Nd := ⟨[shB], [], []⟩
def sh2 : Nd := ⟨[shA, shB], [], []⟩
def sh3 : Nd := ⟨[shA, shB, shC], [], []⟩
def sh4 : Nd := ⟨[shA, shC], [], []⟩
theorem sh_put1 : Nd.zero.putR shB = (sh1, 0) := by kernel_rfl
theorem sh_put2 : sh1.putR shA = (sh2, 0) := by kernel_rfl
theorem sh_put3 : sh2.putR shC = (sh3, 0) := by kernel_rfl
theorem sh_del : sh3.delP [98] = (sh4, true, 0) := by kernel_rfl
theorem sh_fits : sh1.fits = true ∧ sh2.fits = true ∧ sh3.fits = true ∧ sh4.fits = true := ⟨by kernel_rfl, by kernel_rfl, by kernel_rfl, by kernel_rfl⟩
theorem sh_right : sh1.right = true ∧ sh2.right = true ∧ sh3.right = true ∧ sh4.right = true := ⟨by kernel_rfl, by kernel_rfl, by kernel_rfl, by kernel_rfl⟩
theorem sh_size : sh1.size ≤ 237 ∧ sh2.size ≤ 237 ∧ sh3.size ≤ 237 ∧ sh4.size ≤ 237 := by decide
theorem sh_ok (L : List Pr) (hl : L.length ≤ 3) (h : ∀ p ∈ L, p.k.length ≤ 1 ∧ p.v.length ≤ 1) : Veil (Nd.Ok ⟨L, [], []⟩) := ⟨by
  refine ⟨?_, ?_, ?_, ?_, ?_, ?_⟩ <;> simp
  · omega
  · intro x hx
    have := h x hx
    omega⟩
end Go.Proofs.YtokbmimbbeedcaaGreatDoor

/- Trees: the document's Same of two lists of pairs. -/
namespace Go.Proofs.YtokbmimbbeedcaaGreatDoor
open Go Go.RowKit Sm
attribute [local go_sem] Oper.semAt_some

theorem els_atP {w : World} {p : Option Addr} {L : List Pr} (h : Els elP w p L) {k : Nat} (hk : k < L.length) : ∃ b o, p = some ⟨b, o, none⟩ ∧ w.cell? ⟨b, o + k * 2, none⟩ = some (.string ⟨(L.getD k Pr.zero).k.toArray⟩) ∧ w.cell? ⟨b, o + k * 2 + 1, none⟩ = some (.string ⟨(L.getD k Pr.zero).v.toArray⟩) := by
  obtain ⟨b, o, hp, hc⟩ := h (by rintro rfl; simp at hk)
  have h0 := hc k 0 hk (by decide)
  have h1 := hc k 1 hk (by decide)
  exact ⟨b, o, hp, h0, h1⟩
def samePs (a b : List Pr) : Bool := decide (a.length = b.length) && (List.range a.length).all fun i => decide ((a.getD i Pr.zero).k = (b.getD i Pr.zero).k) && decide ((a.getD i Pr.zero).v = (b.getD i Pr.zero).v)
theorem samePs_iff (a b : List Pr) : samePs a b = true ↔ a = b := by
  unfold samePs
  constructor
  · intro h
    simp only [Bool.and_eq_true, decide_eq_true_eq, List.all_eq_true, List.mem_range] at h
    refine list_getD_ext Pr.zero h.1 (fun j hj => ?_)
    obtain ⟨h1, h2⟩ := h.2 j hj
    generalize a.getD j Pr.zero = x at h1 h2
    generalize b.getD j Pr.zero = y at h1 h2
    obtain ⟨xk, xv⟩ := x
    obtain ⟨yk, yv⟩ := y
    dsimp only at h1 h2
    rw [h1, h2]
  · rintro rfl
    simp
theorem take_nextP {a b : List Pr} {k : Nat} (h1 : k < a.length) (h2 : k < b.length) (h : a.take k = b.take k) : a.getD k Pr.zero = b.getD k Pr.zero → a.take (k + 1) = b.take (k + 1) := fun he => by
  rw [List.take_succ_eq_append_getElem h1, List.take_succ_eq_append_getElem h2, h]
  simp only [List.getD, List.getElem?_eq_getElem h1, List.getElem?_eq_getElem h2, Option.getD_some] at he
  rw [he]
theorem bytes_ne {s t : List UInt8} (h : s ≠ t) : ¬ (⟨s.toArray⟩ : ByteArray) = ⟨t.toArray⟩ := fun e => by
  injection e with e
  exact h (by simpa using congrArg Array.toList e)
theorem Pr.apart {x y : Pr} (h : x ≠ y) : x.k ≠ y.k ∨ x.k = y.k ∧ x.v ≠ y.v := by
  by_cases h1 : x.k = y.k
  · refine .inr ⟨h1, fun h2 => h ?_⟩
    obtain ⟨a, b⟩ := x
    obtain ⟨c, d⟩ := y
    dsimp only at h1 h2
    rw [h1, h2]
  · exact .inl h1
set_option maxRecDepth 20000 in
set_option maxHeartbeats 2000000 in
theorem refsameP_any {w : World} {p q : Option Addr} (a b : List Pr) (ca cb : Nat) (ha : Els elP w p a) (hb : Els elP w q b) (hl : a.length ≤ 1000000) (_ : b.length ≤ 1000000) :
    Calls Tryz.prog 22 #[.slice p a.length ca, .slice q b.length cb] w fun e w' => e = .returned (.bool (samePs a b)) ∧ Below w.heap.size w w' := by
  obtain ⟨r, hr⟩ : ∃ r, samePs a b = r := ⟨_, rfl⟩
  have HR : Veil (r = true ↔ a = b) := ⟨by rw [← hr]; exact samePs_iff a b⟩
  rw [hr]
  clear hr
  have HF : Veil (a ≠ b → r = false) := ⟨fun h => by cases r with | false => rfl | true => exact absurd (HR.out.1 rfl) h⟩
  by_cases hlen : a.length = b.length
  · have HA : Veil _ := ⟨ha⟩
    have HB : Veil _ := ⟨hb⟩
    have HL : Veil _ := ⟨hlen⟩
    clear ha hb
    rw [← hlen]
    clear hlen
    go_enter Tryz.func22, Tryz.ntmps22
    go_wp2
    go_loopw [5] (fun i wr => ∃ k : Nat, k ≤ a.length ∧ i = .int .i64 k ∧ Veil (a.take k = b.take k ∧ Below w.heap.size w wr)) (fun i _ => a.length - (intOf i).toNat)
    case atStart => exact ⟨0, Nat.zero_le _, rfl, ⟨rfl, Below.refl _ _⟩⟩
    case round =>
      obtain ⟨k, hk, rfl, hJ⟩ := hrel
      by_cases hlt : k < a.length
      · obtain ⟨b1, o1, rfl, hc1, hc2⟩ := els_atP (HA.out.below hJ.out.2) hlt
        obtain ⟨b2, o2, rfl, hd1, hd2⟩ := els_atP (HB.out.below hJ.out.2) (by have := HL.out; omega : k < b.length)
        have HT : Veil _ := ⟨take_nextP hlt (by have := HL.out; omega : k < b.length) hJ.out.1⟩
        have HD : Veil (a.getD k Pr.zero ≠ b.getD k Pr.zero → r = false) := ⟨fun h => HF.out fun e => h (by rw [e])⟩
        revert HD; revert HT; revert hd2; revert hd1; revert hc2; revert hc1
        generalize a.getD k Pr.zero = x
        generalize b.getD k Pr.zero = y
        intro hc1 hc2 hd1 hd2 HT HD
        by_cases hxy : x = y
        · subst hxy
          have HT' : Veil _ := ⟨HT.out rfl⟩
          clear HT HD
          obtain ⟨xi, xn⟩ := x
          dsimp only at hc1 hc2 hd1 hd2
          go_wp2
          go_quiet (fail)
          go_wp2
          refine ⟨⟨k + 1, by omega, by go_num, ⟨HT'.out, bn_drewN _ hJ.out.2⟩⟩, ?_⟩
          simp only [intOf]; omega
        · have e1 := HD.out hxy
          subst e1
          have hap := Pr.apart hxy
          clear HT HD hxy
          obtain ⟨xi, xn⟩ := x
          obtain ⟨yi, yn⟩ := y
          dsimp only at hc1 hc2 hd1 hd2 hap
          rcases hap with hap | ⟨rfl, hap⟩
          · have hne := bytes_ne hap
            go_wp2
            go_quiet (fail)
            go_wp2
            go_ret
            exact ⟨rfl, bn_drewN _ hJ.out.2⟩
          · have hne := bytes_ne hap
            go_wp2
            go_quiet (fail)
            go_wp2
            go_ret
            exact ⟨rfl, bn_drewN _ hJ.out.2⟩
      · have e1 : r = true := by
          rw [HR.out]
          have h := hJ.out.1
          have hl := HL.out
          rw [List.take_of_length_le (by omega), List.take_of_length_le (by omega)] at h
          exact h
        subst e1
        go_wp2
        go_ret
        exact ⟨rfl, hJ.out.2⟩
  · have e1 := HF.out (fun h => hlen (by rw [h]))
    subst e1
    go_enter Tryz.func22, Tryz.ntmps22
    go_wp2
    go_ret
    exact ⟨rfl, Below.refl _ _⟩
end Go.Proofs.YtokbmimbbeedcaaGreatDoor

/- Trees: the laws' beginning. -/
namespace Go.Proofs.YtokbmimbbeedcaaGreatDoor
open Go Go.RowKit Sm
attribute [local go_sem] Oper.semAt_some

def alS : Al := ⟨2, 100, []⟩
theorem alS_take (old : Nat) : (alS.take old).err = 0 ∧ (alS.take old).page = 2 ∧ (alS.take old).a.l = [] := ⟨by rfl, by rfl, by rfl⟩
/-- The work between two of its calls: a leaf on page 2. -/
structure ShI (w : World) (Wb : Nat) (n : Nd) (W : World) : Prop where
  ex : ∃ k al p cp, WrkAt W Wb k 2 al p cp ∧ NodeIs k 2 n ∧ (mget k.own 2).isSome = true ∧ k.tx = 1 ∧ al.l = [] ∧ w.heap.size ≤ k.bo
  wb : w.heap.size ≤ Wb
  t : Below w.heap.size w W
theorem ShI.put {w : World} {Wb : Nat} {n m : Nd} {W : World} (h : ShI w Wb n W) (kv : Pr) (hkv : kv.k.length ≤ 1000000 ∧ kv.v.length ≤ 1000000) (hr : refS 0 kv.k [kv.v] = 0) (hds : n.ds.length = 0) (hput : n.putR kv = (m, 0)) (hok : Veil m.Ok) (hs : m.size ≤ 237) (hfit : m.fits = true) (hri : m.right = true) : Calls Tryz.prog 12 #[.pointer (some ⟨Wb, 0, none⟩), kv.vv] W fun e w' => e = .returned (.int .i64 0) ∧ ShI w Wb m w' := by
  obtain ⟨k, al, p, cp, h1, h2, h3, h4, h5, h6⟩ := h.ex
  have hwb := h.wb
  refine (wput_leaf h1 kv hkv hr h2 hds hput hok hs hfit hri (.inl ⟨h3, by omega⟩)).mono ?_
  rintro e w' ⟨q1, own', r', al', p', cp', q2, q3, q4, q5, q6, -, q7⟩
  obtain ⟨rfl, rfl⟩ := q6 (by omega)
  exact ⟨q1, ⟨_, _, p', cp', q2, q3, q4, h4, h5, h6⟩, h.wb, h.t.trans (q7.toBelow h.t.size (fun j hj e => by rcases e with e | e <;> omega))⟩
theorem ShI.first {w : World} {Wb bo bg : Nat} {dp : Value} {W : World} (h : WrkAt W Wb ⟨dp, 1, 0, [], bo, bg⟩ 0 alS none 0) (hw : w.heap.size ≤ Wb) (hb : w.heap.size ≤ bo) (ht : Below w.heap.size w W) : Calls Tryz.prog 12 #[.pointer (some ⟨Wb, 0, none⟩), shB.vv] W fun e w' => e = .returned (.int .i64 0) ∧ ShI w Wb sh1 w' := by
  refine (wput_leaf h shB ⟨by decide, by decide⟩ (by rfl) (n := Nd.zero) (m := sh1) (.inl ⟨rfl, rfl⟩) rfl sh_put1 (sh_ok _ (by decide) (by decide)) sh_size.1 sh_fits.1 sh_right.1 (.inr ⟨rfl, rfl, (alS_take 0).1, by rw [(alS_take 0).2.1]; decide⟩)).mono ?_
  rintro e w' ⟨q1, own', r', al', p', cp', q2, q3, q4, q5, -, q6, q7⟩
  obtain ⟨e1, e2⟩ := q6 rfl
  have e1 : r' = 2 := e1.trans (alS_take 0).2.1
  subst e1
  exact ⟨q1, ⟨_, _, p', cp', q2, q3, q4, rfl, by rw [e2]; exact (alS_take 0).2.2, hb⟩, hw, ht.trans (q7.toBelow ht.size (fun j hj e => by rcases e with e | e; omega; have e : j = bo := e; omega))⟩
theorem ShI.del {w : World} {Wb : Nat} {W : World} (h : ShI w Wb sh3 W) : Calls Tryz.prog 14 #[.pointer (some ⟨Wb, 0, none⟩), .string ⟨#[98]⟩] W fun e w' => e = .returned (.tuple #[.bool true, .int .i64 0]) ∧ (∃ k r al p cp, WrkAt w' Wb k r al p cp ∧ NodeIs k r sh4) ∧ Below w.heap.size w w' := by
  obtain ⟨k, al, p, cp, h1, h2, h3, h4, h5, h6⟩ := h.ex
  have hwb := h.wb
  refine (wdel_leaf h1 [98] (by decide) (by rfl) (n := sh3) (m := sh4) h2 rfl sh_del (sh_ok _ (by decide) (by decide)) sh_size.2.2.2 sh_fits.2.2.2 sh_right.2.2.2 rfl (by decide) (by decide) h3 (by omega) (by omega) (by omega) (by rw [h5]; decide)).mono ?_
  rintro e w' ⟨q1, own', r', al', p', cp', q2, q3, q4, q5, q7⟩
  exact ⟨q1, ⟨_, _, _, _, _, q2, q3⟩, h.t.trans (q7.toBelow h.t.size (fun j hj e => by rcases e with e | e <;> omega))⟩

end Go.Proofs.YtokbmimbbeedcaaGreatDoor

/- Trees: the laws' beginning, walked. -/
namespace Go.Proofs.YtokbmimbbeedcaaGreatDoor
open Go Go.RowKit Sm
attribute [local go_sem] Oper.semAt_some

set_option maxRecDepth 20000 in
set_option maxHeartbeats 4000000 in
theorem shown7_any (w : World) : Calls Tryz.prog 8 #[] w fun e w' => e = .returned (.bool true) ∧ Below w.heap.size w w' := by
  have HNew : Veil (∀ W, Calls Tryz.prog 9 #[.int .i64 400] W (NewPost W 400)) := ⟨new_any 400 (by omega) (by omega)⟩
  have HOp : Veil (∀ W d, Calls Tryz.prog 10 #[.pointer (some ⟨d, 0, none⟩), .int .u32 0, .agg #[.int .u32 2, .int .u32 100, .slice none 0 0], .int .u64 1, .int .u64 0] W fun e w' => ∃ Wb bo bg, e = .returned (.tuple #[.pointer (some ⟨Wb, 0, none⟩), .int .i64 0]) ∧ WrkAt w' Wb ⟨.pointer (some ⟨d, 0, none⟩), 1, 0, [], bo, bg⟩ 0 alS none 0 ∧ Below W.heap.size W w' ∧ W.heap.size ≤ Wb ∧ W.heap.size ≤ bo) := ⟨fun W d => topen_new W d alS (by rfl) ⟨by decide, by decide, fun s hs => (by cases hs), by decide⟩ rfl 1 0 (by decide)⟩
  have HON : Veil (∀ W, Calls Tryz.prog 10 #[.pointer none, .int .u32 0, .agg #[.int .u32 0, .int .u32 0, .slice none 0 0], .int .u64 0, .int .u64 0] W fun e w' => e = .returned (.tuple #[.pointer none, .int .i64 1]) ∧ Below W.heap.size W w') := ⟨fun W => topen_nil W 0 _ 0 0 _ _ _ rfl⟩
  have HP1 : Veil (∀ W Wb bo bg dp, WrkAt W Wb ⟨dp, 1, 0, [], bo, bg⟩ 0 alS none 0 → w.heap.size ≤ Wb → w.heap.size ≤ bo → Below w.heap.size w W → Calls Tryz.prog 12 #[.pointer (some ⟨Wb, 0, none⟩), .agg #[.string ⟨#[98]⟩, .string ⟨#[]⟩]] W fun e w' => e = .returned (.int .i64 0) ∧ ShI w Wb sh1 w') := ⟨fun W Wb bo bg dp h1 h2 h3 h4 => ShI.first h1 h2 h3 h4⟩
  have HP2 : Veil (∀ W Wb, ShI w Wb sh1 W → Calls Tryz.prog 12 #[.pointer (some ⟨Wb, 0, none⟩), .agg #[.string ⟨#[97]⟩, .string ⟨#[]⟩]] W fun e w' => e = .returned (.int .i64 0) ∧ ShI w Wb sh2 w') := ⟨fun W Wb h => h.put shA ⟨by decide, by decide⟩ (by rfl) rfl sh_put2 (sh_ok _ (by decide) (by decide)) sh_size.2.1 sh_fits.2.1 sh_right.2.1⟩
  have HP3 : Veil (∀ W Wb, ShI w Wb sh2 W → Calls Tryz.prog 12 #[.pointer (some ⟨Wb, 0, none⟩), .agg #[.string ⟨#[99]⟩, .string ⟨#[]⟩]] W fun e w' => e = .returned (.int .i64 0) ∧ ShI w Wb sh3 w') := ⟨fun W Wb h => h.put shC ⟨by decide, by decide⟩ (by rfl) rfl sh_put3 (sh_ok _ (by decide) (by decide)) sh_size.2.2.1 sh_fits.2.2.1 sh_right.2.2.1⟩
  have HDel : Veil (∀ W Wb, ShI w Wb sh3 W → Calls Tryz.prog 14 #[.pointer (some ⟨Wb, 0, none⟩), .string ⟨#[98]⟩] W fun e w' => e = .returned (.tuple #[.bool true, .int .i64 0]) ∧ (∃ k r al p cp, WrkAt w' Wb k r al p cp ∧ NodeIs k r sh4) ∧ Below w.heap.size w w') := ⟨fun W Wb h => h.del⟩
  have HAll : Veil (∀ W Wb, (∃ k r al p cp, WrkAt W Wb k r al p cp ∧ NodeIs k r sh4) → Calls Tryz.prog 15 #[.pointer (some ⟨Wb, 0, none⟩)] W fun e w' => ∃ p c, e = .returned (.tuple #[.slice p 2 c, .int .i64 0]) ∧ Els elP w' p [shA, shC] ∧ Below W.heap.size W w') := ⟨fun W Wb ⟨k, r, al, p, cp, h1, h2⟩ => (wall_leaf h1 h2 rfl (by decide)).mono (by
    rintro e w' ⟨v, rfl, ho, hb⟩
    obtain ⟨p, c, rfl, he, -⟩ := ho.form
    exact ⟨p, c, rfl, he, hb⟩)⟩
  have HSame : Veil (∀ W p c g, g = W.heap.size → Els elP W p [shA, shC] → Calls Tryz.prog 22 #[.slice p 2 c, .slice (some ⟨g, 0, none⟩) 2 2] (W.alloc (.cells #[.string ⟨#[97]⟩, .string ⟨#[]⟩, .string ⟨#[99]⟩, .string ⟨#[]⟩] 37)) fun e w' => e = .returned (.bool true) ∧ Below W.heap.size W w') := ⟨fun W p c g hg h => by
    subst hg
    have h2 := refsameP_any (w := W.alloc (.cells #[.string ⟨#[97]⟩, .string ⟨#[]⟩, .string ⟨#[99]⟩, .string ⟨#[]⟩] 37)) [shA, shC] [shA, shC] c 2 (h.below (below_al (Below.refl _ _) _)) (els_of_block (E := elP) (L := [shA, shC]) (heap_alloc_new _ _) rfl) (by decide) (by decide)
    rw [(samePs_iff _ _).2 rfl] at h2
    refine h2.mono ?_
    rintro e w' ⟨rfl, hb⟩
    exact ⟨rfl, (below_al (Below.refl _ _) _).trans (hb.mono (Nat.le_of_lt (by simp)))⟩⟩
  go_enter Tryz.func8, Tryz.ntmps8
  go_wp2_with (first
    | (go_at_call 22; refine (HSame.out _ _ _ _ rfl HE8.out).mono ?_; rintro e w9 ⟨rfl, hb9⟩)
    | (go_at_call 15; refine (HAll.out _ _ HD6.out.1).mono ?_; rintro e w7 ⟨p7, c7, rfl, he7, hb7⟩; have HE7 : Veil _ := ⟨And.intro he7 (HD6.out.2.trans (hb7.mono HD6.out.2.size))⟩; clear he7 hb7 HAll HD6)
    | (go_at_call 14; refine (HDel.out _ _ HI5.out).mono ?_; rintro e w6 ⟨rfl, h6, hb6⟩; have HD6 : Veil _ := ⟨And.intro h6 hb6⟩; clear h6 hb6 HDel HI5)
    | (go_at_call 12; refine (HP3.out _ _ HI4.out).mono ?_; rintro e w5 ⟨rfl, h5⟩; have HI5 : Veil _ := ⟨h5⟩; clear h5 HP3)
    | (go_at_call 12; refine (HP2.out _ _ HI3.out).mono ?_; rintro e w4 ⟨rfl, h4⟩; have HI4 : Veil _ := ⟨h4⟩; clear h4 HP2)
    | (go_at_call 12; refine (HP1.out _ _ _ _ _ HW2.out.1 HW2.out.2.1 HW2.out.2.2.1 HW2.out.2.2.2).mono ?_; rintro e w3 ⟨rfl, h3⟩; have HI3 : Veil _ := ⟨h3⟩; clear h3 HP1 HW2)
    | (go_at_call 10; have hguard := HE7; clear hguard; refine (HON.out _).mono ?_; rintro e w8 ⟨rfl, hb8⟩; have HB8 : Veil _ := ⟨HE7.out.2.trans (hb8.mono HE7.out.2.size)⟩; have HE8 : Veil _ := ⟨HE7.out.1.below hb8⟩; clear hb8 HON HE7)
    | (go_at_call 10; refine (HOp.out _ _).mono ?_; rintro e w2 ⟨Wb, bo, bg, rfl, h1, hb2, h2, h3⟩; have HW2 : Veil _ := ⟨And.intro h1 (And.intro (Nat.le_trans HD1.out.size h2) (And.intro (Nat.le_trans HD1.out.size h3) (HD1.out.trans (hb2.mono HD1.out.size))))⟩; clear h1 hb2 h2 h3 HOp)
    | (go_at_call 9; refine (HNew.out w).mono ?_; rintro e w1 ⟨d, kb, sb, rfl, -, hb1, -, -, -⟩; have HD1 : Veil _ := ⟨hb1⟩; clear hb1))
  go_ret
  exact ⟨rfl, HB8.out.trans (hb9.mono HB8.out.size)⟩
end Go.Proofs.YtokbmimbbeedcaaGreatDoor

/- Trees, by the program: spares as elements of lists; their Clone; what may be opened. -/
namespace Go.Proofs.YtokbmimbbeedcaaGreatDoor
open Go Go.RowKit Sm
attribute [local go_sem] Oper.semAt_some

def elSp : El Sp where
  enc s := [.int .u32 s.page, .int .u64 s.tx]
  z := 2
  ty := 70
  sl := 32
  bytes := 16
  zero := .agg #[.int .u32 0, .int .u64 0]
  d := Sp.zero
  len _ := rfl
  one x v hv := by
    simp only [List.mem_cons, List.not_mem_nil, or_false] at hv
    rcases hv with rfl | rfl <;> rfl
  pos := by decide
  under := by kernel_rfl
  info := by kernel_rfl
  zlen := rfl
  few := by decide
theorem Sps.els {w : World} {p : Option Addr} {L : List Sp} (h : Sps w p L) : Els elSp w p L := fun hne => by
  obtain ⟨b, o, hp, hr⟩ := h hne
  refine ⟨b, o, hp, fun i j hi hj => ?_⟩
  obtain ⟨h1, h2⟩ := hr i hi
  match j, hj with
  | 0, _ => exact h1
  | 1, _ => exact h2
theorem Els.sps {w : World} {p : Option Addr} {L : List Sp} (h : Els elSp w p L) : Sps w p L := fun hne => by
  obtain ⟨b, o, hp, hr⟩ := h hne
  exact ⟨b, o, hp, fun i hi => ⟨hr i 0 hi (by decide), hr i 1 hi (by decide)⟩⟩
set_option maxRecDepth 20000 in
theorem tclone_any {w : World} {p : Option Addr} {L : List Sp} (h : Sps w p L) (c : Nat) (hp : p ≠ none ∨ L = [] ∧ c = 0) (hl : L.length ≤ 100000) : Calls Tryz.prog 26 #[.slice p L.length c] w fun e w' => ∃ v, e = .returned v ∧ OwnE elSp w' w.heap.size v L ∧ Below w.heap.size w w' := by
  cases p with
  | none =>
    obtain ⟨rfl, rfl⟩ := hp.resolve_left (fun h => h rfl)
    refine (tclone_nil w).mono ?_
    rintro e w' ⟨rfl, rfl⟩
    exact ⟨_, rfl, OwnE.nil _ _ _, Below.refl _ _⟩
  | some a =>
    have hq : ∀ W : World, (binOp BinOp.eql 32 (.slice (some a) L.length c) (.slice none 0 0)).run Tryz.prog W = .ok (.bool false) W := fun W => by kernel_rfl
    have HE : Veil _ := ⟨(h.els).below (below_al (Below.refl _ _) (.cells #[] 70))⟩
    have HO : Veil (OwnE elSp (w.alloc (.cells #[] 70)) w.heap.size (.slice (some ⟨w.heap.size, 0, none⟩) 0 0) []) := ⟨World.ownsRow_made w #[] 0 (Nat.le_refl _) (Nat.zero_le _) (by simp)⟩
    clear h hp
    go_enter Tryz.func26, Tryz.ntmps26
    go_wp2_with (at_builtin; refine wpList_append_els elSp rfl (.tmp 5) (.tmp 6) rfl w.heap.size _ [] L rfl HO.out (some a) c rfl HE.out (by simp only [List.length_nil]; omega) (by simp) ?_; intro v9 w9 hown hgrow hfrom)
    go_ret
    refine ⟨_, rfl, hown, (below_al (Below.refl _ _) _).trans ((Turned.grown (F := (· = w.heap.size)) hgrow (fun k hk _ => (Option.some.inj hk).symm)).toBelow (by simp) (fun k _ e => Nat.le_of_eq e.symm))⟩
end Go.Proofs.YtokbmimbbeedcaaGreatDoor

/- Trees, by the program: which allocs are right, wherever their spares lie; what may be opened; a nil work's alloc. -/
namespace Go.Proofs.YtokbmimbbeedcaaGreatDoor
open Go Go.RowKit Sm
attribute [local go_sem] Oper.semAt_some

set_option maxRecDepth 20000 in
set_option maxHeartbeats 2000000 in
theorem aright_in {w : World} {p : Option Addr} {a : Al} (h : Sps w p a.l) (c : Nat) (hok : Veil a.Ok) :
    Calls Tryz.prog 25 #[a.v p c] w fun e w' => e = .returned (.bool a.right) ∧ Below w.heap.size w w' := by
  refine calls_of_wp_marks Tryz.func25 rfl ?_
  simp only [Tryz.ntmps25, List.size_toArray, List.length_cons, List.length_nil, Nat.reduceAdd, Nat.reduceSub, Array.replicate_succ, Array.replicate_zero, List.push_toArray, List.append_toArray, List.nil_append, List.cons_append]
  have HRI : Veil _ := ⟨a.right_iff⟩
  obtain ⟨r, hr⟩ : ∃ r, a.right = r := ⟨_, rfl⟩
  rw [hr] at HRI ⊢
  clear hr
  obtain ⟨hi, mo, L⟩ := a
  unfold Al.v
  dsimp only at *
  have HH := Lib.hid h
  have hl : L.length ≤ 100000 := hok.out.few
  clear h
  by_cases h1 : hi < 2
  · obtain rfl : r = false := by cases r with | false => rfl | true => have := (HRI.out.1 rfl).1.1; omega
    go_wp2
    exact leaves_none (results_bool (g := w.heap.size + 1) rfl rfl (heap_alloc2_new _ _ _)) ⟨rfl, below_al (below_al (Below.refl _ _) _) _⟩
  by_cases h2 : mo < hi
  · obtain rfl : r = false := by cases r with | false => rfl | true => have := (HRI.out.1 rfl).1.2.1; omega
    go_wp2
    exact leaves_none (results_bool (g := w.heap.size + 1) rfl rfl (heap_alloc2_new _ _ _)) ⟨rfl, below_al (below_al (Below.refl _ _) _) _⟩
  by_cases h3 : 16384 < mo
  · obtain rfl : r = false := by cases r with | false => rfl | true => have := (HRI.out.1 rfl).1.2.2.1; omega
    go_wp2
    exact leaves_none (results_bool (g := w.heap.size + 1) rfl rfl (heap_alloc2_new _ _ _)) ⟨rfl, below_al (below_al (Below.refl _ _) _) _⟩
  by_cases h4 : 4096 < L.length
  · obtain rfl : r = false := by cases r with | false => rfl | true => have := (HRI.out.1 rfl).1.2.2.2; omega
    go_wp2
    exact leaves_none (results_bool (g := w.heap.size + 1) rfl rfl (heap_alloc2_new _ _ _)) ⟨rfl, below_al (below_al (Below.refl _ _) _) _⟩
  go_wp2_with (go_at_call 42; refine (aeach_any _ _ _ _).mono ?_; rintro e w1 ⟨rfl, hw1⟩)
  obtain ⟨B1, e1⟩ : ∃ B1, w.heap.size + 1 = B1 := ⟨_, rfl⟩
  obtain ⟨B2, e2⟩ : ∃ B2, B1 + 1 = B2 := ⟨_, rfl⟩
  obtain ⟨B3, e3⟩ : ∃ B3, B2 + 1 = B3 := ⟨_, rfl⟩
  have hI : RiI w B1 B2 B3 hi mo p L c 2 w1 := by
    rw [← hw1]
    refine ⟨?_, ?_, ?_, ?_, HH.out.turned (((((Turned.refl (fun _ => False) w).alloc _).alloc _).alloc _).alloc _) (fun _ _ h => h), ((((Turned.refl (fun _ => False) w).alloc _).alloc _).alloc _).alloc _⟩
    all_goals
      simp only [heap_alloc_if, World.size_alloc]
      repeat (first | rw [if_neg (by omega)] | rw [if_pos (by first | trivial | omega)])
    all_goals rfl
  have hz1 : w1.heap.size = B3 + 1 := by rw [← hw1]; simp; omega
  have HW : Veil (w.heap.size < B1 ∧ B1 < B2 ∧ B2 < B3) := ⟨by omega⟩
  have HZ : Veil (w1.heap.size = B3 + 1) := ⟨hz1⟩
  rw [e1, e2, e3]
  clear hw1 e1 e2 e3 hz1
  have HS : Veil (2 ≤ hi ∧ hi ≤ mo ∧ mo ≤ 16384 ∧ L.length ≤ 4096) := ⟨by omega⟩
  refine wp_range_seq (gf := 60) (lb := #[.pointer (some ⟨B3, 0, none⟩)]) rfl (enters_of Tryz.func60 (by kernel_rfl) rfl)
    (aeach_seq B3 p L c (by omega)) (fun k => rfl)
    (fun k A => ∃ least, RiI w B1 B2 B3 hi mo p L c least A ∧ rising hi 2 L = rising hi least (L.drop k) ∧ least ≤ 100000)
    (fun cd k A => cd = .ret ∧ r = false ∧ A.heap[B1]? = some (.cells #[.bool false] 4 (0, 0)) ∧ Turned (fun _ => False) w A) ?hI ?hIx ?hF ?h0 ?hround ?hdone ?hstop
  case hI => rintro k A A' ⟨least, h1, h2⟩ hb; exact ⟨least, h1.booked hb (by have := HW.out; have := HZ.out; omega), h2⟩
  case hIx => rintro cd k A A' ⟨h1, h2, h3, h4⟩ hb; exact ⟨h1, h2, hb.heap h3, hb.turned h4 (by have := HW.out; have := HZ.out; omega)⟩
  case hF => rintro k A ⟨least, h, _⟩; exact ⟨cell_row1 h.bx, h.s⟩
  case h0 => exact ⟨2, hI, rfl, by omega⟩
  case hround =>
    rintro l m k A hl2 hlt ⟨least, hi1, hr, hle⟩
    simp only [handsA, List.zip_cons_cons, List.zip_nil_right, List.foldl_cons, List.foldl_nil, List.setIfInBounds_toArray, List.set_cons_succ, List.set_cons_zero]
    rw [drop_at hlt] at hr
    have HR : Veil _ := ⟨hr⟩
    clear hI hr
    revert HR
    generalize L.getD k Sp.zero = s
    obtain ⟨pg, tx⟩ := s
    intro HR
    gi_wp2
    have hT1 : Turned (fun _ => False) A (A.alloc (.cells #[.int .u32 pg, .int .u64 tx] 70)) := (Turned.refl _ A).alloc _
    refine ⟨keepsFrom_new hT1, fun A2 hbk hsz => ?_⟩
    have hi2 := (hi1.new hT1).booked hbk (by have := HW.out; have := HZ.out; omega)
    have hs2 := hbk.heap (heap_alloc_new A (.cells #[.int .u32 pg, .int .u64 tx] 70))
    clear hi1 hT1 hbk
    have HI2 : Veil _ := ⟨hi2⟩
    obtain ⟨⟨a0, a1, a2⟩, -⟩ := pack3 hi2.a
    have q1 := cell_row1 hi2.r
    have f1 : A2.frozen? ⟨B1, 0, none⟩ = false := frozen_whole hi2.r _
    have q2 := cell_row1 hi2.n
    have f2 : A2.frozen? ⟨B2, 0, none⟩ = false := frozen_whole hi2.n _
    obtain ⟨⟨c1, c2⟩, -⟩ := pack2 hs2
    clear hi2 hs2 hsz
    have stop : Veil (¬ (least ≤ pg ∧ pg < hi ∧ 1 ≤ tx) → r = false) := ⟨fun hn => by
      cases r with
      | false => rfl
      | true =>
        have := (HRI.out.1 rfl).2
        rw [HR.out] at this
        exact absurd ((rising_cons _ _ _ _).1 this).1 hn⟩
    have badEnd : r = false → KeepsFrom w1.heap.size A2 (A2.setCell ⟨B1, 0, none⟩ (.bool false)) ∧ r = false ∧ (A2.setCell ⟨B1, 0, none⟩ (.bool false)).heap[B1]? = some (.cells #[.bool false] 4 (0, 0)) ∧ Turned (fun _ => False) w (A2.setCell ⟨B1, 0, none⟩ (.bool false)) := fun hr => by
      have hT : Turned (· = B1) A2 (A2.setCell ⟨B1, 0, none⟩ (.bool false)) := (Turned.refl (· = B1) A2).setCell (p := ⟨B1, 0, none⟩) rfl _
      have hW := HW.out
      exact ⟨keepsFrom_turned hT (fun j hj => .inl (by have := HZ.out; omega)), hr, heap_setCell_at HI2.out.r 0 _, HI2.out.t.then hT (fun j hj e => by omega)⟩
    have HBE : Veil _ := ⟨badEnd⟩
    clear badEnd
    by_cases g1 : pg < least
    · have G1 : decide (pg < least) = true := by simp [g1]
      gi_wp2
      have hbe := HBE.out (stop.out (by omega))
      exact ⟨hbe.1, rfl, hbe.2⟩
    have G1 : decide (pg < least) = false := by simp [g1]
    by_cases g2 : hi ≤ pg
    · have G2 : decide (hi ≤ pg) = true := by simp [g2]
      gi_wp2
      have hbe := HBE.out (stop.out (by omega))
      exact ⟨hbe.1, rfl, hbe.2⟩
    have G2 : decide (hi ≤ pg) = false := by simp [g2]
    by_cases g3 : tx < 1
    · gi_wp2
      have hbe := HBE.out (stop.out (by omega))
      exact ⟨hbe.1, rfl, hbe.2⟩
    have HRR : Veil (rising hi 2 L = rising hi (pg + 1) (L.drop (k + 1))) := ⟨by
      rw [HR.out]
      simp only [rising]
      have e1 : least ≤ pg := by omega
      have e2 : pg < hi := by omega
      have e3 : 1 ≤ tx := by omega
      simp [e1, e2, e3]⟩
    have hpg : pg < 16384 := by have := HS.out; omega
    have hp : ∀ b, p = some b → b.block < w.heap.size := fun b hb => by
      obtain ⟨b', o', e, hc⟩ := HH.out (fun e => by rw [e] at hlt; exact absurd hlt (Nat.not_lt_zero _))
      rw [e] at hb
      cases hb
      have h9 := World.block_lt_of_cell? _ _ (hc k hlt).1
      exact h9
    have hnw : ¬ (4294967295 : Int) < (pg : Int) + 1 := by omega
    gi_wp2
    have e : Value.int .u32 ((pg : Int) + 1) = .int .u32 ((pg + 1 : Nat) : Int) := by go_num
    rw [e]
    have hT := (Turned.refl (· = B2) A2).setCell (p := ⟨B2, 0, none⟩) rfl (.int .u32 ((pg + 1 : Nat) : Int))
    have hW := HW.out
    exact ⟨keepsFrom_turned hT (fun j hj => .inl (by have := HZ.out; omega)), pg + 1, HI2.out.more hp hW.1 hW.2.1 hW.2.2 (pg + 1), HRR.out, by omega⟩
  case hdone =>
    rintro Dd A hDd ⟨least, h1, hr, -⟩ hdd
    have HI : Veil _ := ⟨h1⟩
    have HD : Veil _ := ⟨hdd⟩
    obtain rfl : r = true := HRI.out.2 ⟨HS.out, by rw [hr, List.drop_length]; rfl⟩
    have q1 := cell_row1 h1.r
    have f1 : A.frozen? ⟨B1, 0, none⟩ = false := frozen_whole h1.r _
    clear h1 hdd hI hr
    go_wp2
    have hT : Turned (· = B1) A (A.setCell ⟨B1, 0, none⟩ (.bool true)) := (Turned.refl (· = B1) A).setCell (p := ⟨B1, 0, none⟩) rfl _
    refine leaves_mark (D := Dd) (B := w.heap.size) (hT.heap HD.out (by have := HW.out; have := HZ.out; omega)) (by have := HW.out; have := HZ.out; omega) ?_
    intro w' hb _
    refine leaves_none (results_bool (g := B1) rfl rfl (hb.heap (heap_setCell_at HI.out.r 0 (.bool true)))) ⟨rfl, ?_⟩
    exact (hb.turned (HI.out.t.then hT (fun k hk e => by have := HW.out; omega)) (Nat.le_refl _)).toBelow (Nat.le_refl _) (fun _ _ h => h.elim)
  case hstop =>
    rintro Dd cd k A hDd hlt ⟨rfl, rfl, h3, h4⟩ hdd
    clear hI
    go_wp2
    refine leaves_mark (D := Dd) (B := w.heap.size) hdd (by have := HW.out; have := HZ.out; omega) ?_
    intro w' hb _
    refine leaves_none (results_bool (g := B1) rfl rfl (hb.heap h3)) ⟨rfl, ?_⟩
    exact (hb.turned h4 (Nat.le_refl _)).toBelow (Nat.le_refl _) (fun _ _ h => h.elim)

/-- What Open tells of a disk that is there. -/
def openE (root : Nat) (al : Al) (tx : Nat) : Int := if al.right = true ∧ 1 ≤ tx ∧ (root = 0 ∨ 2 ≤ root ∧ root < al.high) then 0 else 2
set_option maxRecDepth 20000 in
set_option maxHeartbeats 4000000 in
theorem topen_res {w : World} {p : Option Addr} {al : Al} (h : Sps w p al.l) (c : Nat) (hn : p ≠ none ∨ al.l = [] ∧ c = 0) (hok : Veil al.Ok) (d root tx old : Nat) : Calls Tryz.prog 10 #[.pointer (some ⟨d, 0, none⟩), .int .u32 root, al.v p c, .int .u64 tx, .int .u64 old] w fun e w' => ∃ v, e = .returned (.tuple #[v, .int .i64 (openE root al tx)]) ∧ Below w.heap.size w w' := by
  have HR : Veil (∀ W, Below w.heap.size w W → Calls Tryz.prog 25 #[.agg #[.int .u32 al.high, .int .u32 al.most, .slice p al.l.length c]] W fun e w' => e = .returned (.bool al.right) ∧ Below W.heap.size W w') := ⟨fun W hW => aright_in (h.below hW) c hok⟩
  have HC : Veil (∀ W, Below w.heap.size w W → Calls Tryz.prog 26 #[.slice p al.l.length c] W fun e w' => ∃ p4 c4, e = .returned (.slice p4 al.l.length c4) ∧ Below W.heap.size W w') := ⟨fun W hW => (tclone_any (h.below hW) c hn hok.out.few).mono fun e w' ⟨v, h1, ho, h2⟩ => by
    obtain ⟨p4, c4, rfl, -, -⟩ := ho.form
    exact ⟨p4, c4, h1, h2⟩⟩
  have HE : Veil _ := ⟨(show openE root al tx = if al.right = true ∧ 1 ≤ tx ∧ (root = 0 ∨ 2 ≤ root ∧ root < al.high) then 0 else 2 from rfl)⟩
  generalize openE root al tx = E at HE ⊢
  unfold Al.v
  have HX0 : Veil _ := ⟨heap_alloc_new w (.cells #[.int .u32 al.high, .int .u32 al.most, .slice p al.l.length c] 34)⟩
  clear h hn hok
  obtain ⟨high, most, L⟩ := al
  dsimp only at *
  generalize Al.right ⟨high, most, L⟩ = r at HR HE
  cases r
  · have hE : E = 2 := by rw [HE.out, if_neg (fun h => by cases h.1)]
    subst hE
    clear HE HC
    go_enter Tryz.func10, Tryz.ntmps10
    go_wp2_with (go_at_call 25; refine (HR.out _ (below_al (Below.refl _ _) _)).mono ?_; rintro e w2 ⟨rfl, hb2⟩)
    exact bodyPost_ret (results_two rfl rfl rfl) rfl ⟨_, rfl, alb_then (below_al (Below.refl _ _) _) hb2⟩
  · have HE : Veil (E = if 1 ≤ tx ∧ (root = 0 ∨ 2 ≤ root ∧ root < high) then 0 else 2) := ⟨by rw [HE.out]; simp⟩
    by_cases h1 : 1 ≤ tx
    rotate_left 1
    · have hE : E = 2 := by rw [HE.out, if_neg (fun h => h1 h.1)]
      have htx : (tx : Int) < 1 := by omega
      subst hE
      clear HE HC
      go_enter Tryz.func10, Tryz.ntmps10
      go_wp2_with (go_at_call 25; refine (HR.out _ (below_al (Below.refl _ _) _)).mono ?_; rintro e w2 ⟨rfl, hb2⟩)
      exact bodyPost_ret (results_two rfl rfl rfl) rfl ⟨_, rfl, alb_then (below_al (Below.refl _ _) _) hb2⟩
    have htx : ¬ (tx : Int) < 1 := by omega
    by_cases h2 : root = 0
    · have hE : E = 0 := by rw [HE.out, if_pos ⟨h1, .inl h2⟩]
      subst hE h2
      clear HE h1
      go_enter Tryz.func10, Tryz.ntmps10
      go_wp2_with (first
      | (go_at_call 26; refine (HC.out _ HB2.out).mono ?_; rintro e w4 ⟨p4, c4, rfl, hb4⟩; have hx4 := (hb4.block _ (lt_of_heap HX2.out)).trans HX2.out; obtain ⟨⟨a0, a1, a2⟩, f0, f1, f2⟩ := pack3 hx4; have hl4 := lt_of_heap hx4; have HB4 : Veil _ := ⟨alb_then HB2.out hb4⟩; clear hb4 hx4; have hmk1 : (Instr.makeMap 75 none).run Tryz.prog ((w4.setCell ⟨w.heap.size, 2, none⟩ (.slice p4 L.length c4)).alloc (.cells #[.pointer (some ⟨d, 0, none⟩), .int .u32 0, .int .u32 high, .int .u32 most, .slice p4 L.length c4, .int .u64 tx, .int .u64 old, .map none, .map none, .int .i64 0] 78)) = .ok (.map (some (w4.heap.size + 1))) (((w4.setCell ⟨w.heap.size, 2, none⟩ (.slice p4 L.length c4)).alloc (.cells #[.pointer (some ⟨d, 0, none⟩), .int .u32 0, .int .u32 high, .int .u32 most, .slice p4 L.length c4, .int .u64 tx, .int .u64 old, .map none, .map none, .int .i64 0] 78)).alloc (.map #[] 0)) := mkmap_at _ _ (by simp); have hmk2 : (Instr.makeMap 76 none).run Tryz.prog (((w4.setCell ⟨w.heap.size, 2, none⟩ (.slice p4 L.length c4)).alloc (.cells #[.pointer (some ⟨d, 0, none⟩), .int .u32 0, .int .u32 high, .int .u32 most, .slice p4 L.length c4, .int .u64 tx, .int .u64 old, .map none, .map none, .int .i64 0] 78)).alloc (.map #[] 0)) = .ok (.map (some (w4.heap.size + 1 + 1))) ((((w4.setCell ⟨w.heap.size, 2, none⟩ (.slice p4 L.length c4)).alloc (.cells #[.pointer (some ⟨d, 0, none⟩), .int .u32 0, .int .u32 high, .int .u32 most, .slice p4 L.length c4, .int .u64 tx, .int .u64 old, .map none, .map none, .int .i64 0] 78)).alloc (.map #[] 0)).alloc (.map #[] 0)) := mkmap_at2 _ _ (by simp))
      | (go_at_call 25; refine (HR.out _ (below_al (Below.refl _ _) _)).mono ?_; rintro e w2 ⟨rfl, hb2⟩; have hx2 := (hb2.block _ (lt_of_heap HX0.out)).trans HX0.out; obtain ⟨⟨a0, a1, a2⟩, f0, f1, f2⟩ := pack3 hx2; have HX2 : Veil _ := ⟨hx2⟩; have hl2 := lt_of_heap hx2; have HB2 : Veil _ := ⟨alb_then (below_al (Below.refl _ _) _) hb2⟩; clear hb2 hx2))
      exact bodyPost_ret (results_two rfl rfl rfl) rfl ⟨_, rfl, below_al (below_al (below_al (HB4.out.trans (((Turned.refl (· = w.heap.size) w4).setCell (p := ⟨w.heap.size, 2, none⟩) rfl (.slice p4 L.length c4)).toBelow HB4.out.size (fun k _ e => Nat.le_of_eq e.symm))) _) _) _⟩
    have h2i : ¬ (root : Int) = 0 := by omega
    by_cases h3 : root < 2
    · have hE : E = 2 := by rw [HE.out, if_neg (fun h => by omega)]
      have h3i : (root : Int) < 2 := by omega
      subst hE
      clear HE HC h1 h3
      go_enter Tryz.func10, Tryz.ntmps10
      go_wp2_with (go_at_call 25; refine (HR.out _ (below_al (Below.refl _ _) _)).mono ?_; rintro e w2 ⟨rfl, hb2⟩; have hx2 := (hb2.block _ (lt_of_heap HX0.out)).trans HX0.out; obtain ⟨⟨a0, a1, a2⟩, f0, f1, f2⟩ := pack3 hx2)
      exact bodyPost_ret (results_two rfl rfl rfl) rfl ⟨_, rfl, alb_then (below_al (Below.refl _ _) _) hb2⟩
    have h3i : ¬ (root : Int) < 2 := by omega
    by_cases h4 : root < high
    rotate_left 1
    · have hE : E = 2 := by rw [HE.out, if_neg (fun h => by omega)]
      have h4i : ¬ (root : Int) < high := by omega
      have h4j : (high : Int) ≤ root := by omega
      subst hE
      clear HE HC h1 h3 h4
      go_enter Tryz.func10, Tryz.ntmps10
      go_wp2_with (go_at_call 25; refine (HR.out _ (below_al (Below.refl _ _) _)).mono ?_; rintro e w2 ⟨rfl, hb2⟩; have hx2 := (hb2.block _ (lt_of_heap HX0.out)).trans HX0.out; obtain ⟨⟨a0, a1, a2⟩, f0, f1, f2⟩ := pack3 hx2)
      exact bodyPost_ret (results_two rfl rfl rfl) rfl ⟨_, rfl, alb_then (below_al (Below.refl _ _) _) hb2⟩
    have hE : E = 0 := by rw [HE.out, if_pos ⟨h1, .inr ⟨by omega, h4⟩⟩]
    have h4i : (root : Int) < high := by omega
    have h4j : ¬ (high : Int) ≤ root := by omega
    subst hE
    clear HE h1 h3 h4
    go_enter Tryz.func10, Tryz.ntmps10
    go_wp2_with (first
      | (go_at_call 26; refine (HC.out _ HB2.out).mono ?_; rintro e w4 ⟨p4, c4, rfl, hb4⟩; have hx4 := (hb4.block _ (lt_of_heap HX2.out)).trans HX2.out; obtain ⟨⟨a0, a1, a2⟩, f0, f1, f2⟩ := pack3 hx4; have hl4 := lt_of_heap hx4; have HB4 : Veil _ := ⟨alb_then HB2.out hb4⟩; clear hb4 hx4; have hmk1 : (Instr.makeMap 75 none).run Tryz.prog ((w4.setCell ⟨w.heap.size, 2, none⟩ (.slice p4 L.length c4)).alloc (.cells #[.pointer (some ⟨d, 0, none⟩), .int .u32 root, .int .u32 high, .int .u32 most, .slice p4 L.length c4, .int .u64 tx, .int .u64 old, .map none, .map none, .int .i64 0] 78)) = .ok (.map (some (w4.heap.size + 1))) (((w4.setCell ⟨w.heap.size, 2, none⟩ (.slice p4 L.length c4)).alloc (.cells #[.pointer (some ⟨d, 0, none⟩), .int .u32 root, .int .u32 high, .int .u32 most, .slice p4 L.length c4, .int .u64 tx, .int .u64 old, .map none, .map none, .int .i64 0] 78)).alloc (.map #[] 0)) := mkmap_at _ _ (by simp); have hmk2 : (Instr.makeMap 76 none).run Tryz.prog (((w4.setCell ⟨w.heap.size, 2, none⟩ (.slice p4 L.length c4)).alloc (.cells #[.pointer (some ⟨d, 0, none⟩), .int .u32 root, .int .u32 high, .int .u32 most, .slice p4 L.length c4, .int .u64 tx, .int .u64 old, .map none, .map none, .int .i64 0] 78)).alloc (.map #[] 0)) = .ok (.map (some (w4.heap.size + 1 + 1))) ((((w4.setCell ⟨w.heap.size, 2, none⟩ (.slice p4 L.length c4)).alloc (.cells #[.pointer (some ⟨d, 0, none⟩), .int .u32 root, .int .u32 high, .int .u32 most, .slice p4 L.length c4, .int .u64 tx, .int .u64 old, .map none, .map none, .int .i64 0] 78)).alloc (.map #[] 0)).alloc (.map #[] 0)) := mkmap_at2 _ _ (by simp))
      | (go_at_call 25; refine (HR.out _ (below_al (Below.refl _ _) _)).mono ?_; rintro e w2 ⟨rfl, hb2⟩; have hx2 := (hb2.block _ (lt_of_heap HX0.out)).trans HX0.out; obtain ⟨⟨a0, a1, a2⟩, f0, f1, f2⟩ := pack3 hx2; have HX2 : Veil _ := ⟨hx2⟩; have hl2 := lt_of_heap hx2; have HB2 : Veil _ := ⟨alb_then (below_al (Below.refl _ _) _) hb2⟩; clear hb2 hx2))
    exact bodyPost_ret (results_two rfl rfl rfl) rfl ⟨_, rfl, below_al (below_al (below_al (HB4.out.trans (((Turned.refl (· = w.heap.size) w4).setCell (p := ⟨w.heap.size, 2, none⟩) rfl (.slice p4 L.length c4)).toBelow HB4.out.size (fun k _ e => Nat.le_of_eq e.symm))) _) _) _⟩
end Go.Proofs.YtokbmimbbeedcaaGreatDoor
