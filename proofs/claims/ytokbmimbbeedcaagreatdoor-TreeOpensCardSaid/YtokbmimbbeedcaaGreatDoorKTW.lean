/- Trees, by the program: a change ended, where nothing is told: what it has is the work's. -/
import Derived.Maps.RangeRun
import Derived.Test.YtokbmimbbeedcaaGreatDoorKTD
import Derived.Test.YtokbmimbbeedcaaGreatDoorKTN
namespace Go.Proofs.YtokbmimbbeedcaaGreatDoor
open Go Go.RowKit Sm
attribute [local go_sem] Oper.semAt_some

set_option maxRecDepth 20000 in
theorem ejoin_nil (W : World) (g : Nat) (hg : g = W.heap.size) : Calls Tryz.prog 43 #[.slice (some ⟨g, 0, none⟩) 2 2] (W.alloc (.cells #[.nilIface, .nilIface] 81)) fun e w' => e = .returned .nilIface ∧ Below W.heap.size W w' := by
  subst hg
  have c0 : (W.alloc (.cells #[.nilIface, .nilIface] 81)).cell? ⟨W.heap.size, 0, none⟩ = some .nilIface := cell_whole (cur := [.nilIface, .nilIface]) (heap_alloc_new _ _) 0
  have c1 : (W.alloc (.cells #[.nilIface, .nilIface] 81)).cell? ⟨W.heap.size, 1, none⟩ = some .nilIface := cell_whole (cur := [.nilIface, .nilIface]) (heap_alloc_new _ _) 1
  have hT : Veil (Below W.heap.size W (W.alloc (.cells #[.nilIface, .nilIface] 81))) := ⟨below_al (Below.refl _ _) _⟩
  revert c0 c1 hT
  generalize W.alloc (.cells #[.nilIface, .nilIface] 81) = w
  intro c0 c1 hT
  go_enter Tryz.func43, Tryz.ntmps43
  go_wp2
  go_loopw [3, 11] (fun n i wr => ∃ k : Nat, k ≤ 2 ∧ n = .int .i64 0 ∧ i = .int .i64 k ∧ w = wr) (fun _ i _ => 2 - (intOf i).toNat)
  case atStart => exact ⟨0, by decide, rfl, rfl, rfl⟩
  case round =>
    obtain ⟨k, hk, rfl, rfl, rfl⟩ := hrel
    have hk3 : k = 0 ∨ k = 1 ∨ k = 2 := by omega
    rcases hk3 with rfl | rfl | rfl
    · go_wp2
      refine ⟨⟨1, by decide, by first | rfl | trivial, by first | rfl | trivial, by first | rfl | trivial⟩, ?_⟩
      simp only [intOf]; decide
    · go_wp2
      refine ⟨⟨2, by decide, by first | rfl | trivial, by first | rfl | trivial, by first | rfl | trivial⟩, ?_⟩
      simp only [intOf]; decide
    · go_wp2
      go_ret
      exact ⟨rfl, hT.out⟩
theorem bt_then {w w1 w2 : World} (h : Below w.heap.size w w1) (k : Below w1.heap.size w1 w2) : Below w.heap.size w w2 := h.trans (k.mono h.size)
theorem eas_nil (v : Value) (w : World) : Calls Tryz.prog 50 #[.nilIface, v] w fun e w' => e = .returned (.bool false) ∧ w' = w := by
  go_enter Tryz.func50, Tryz.ntmps50
  go_wp2
  go_ret
  exact ⟨rfl, rfl⟩
theorem number_nil (w : World) : Calls Tryz.prog 33 #[.nilIface] w fun e w' => e = .returned (.int .i64 0) ∧ Below w.heap.size w w' := by
  go_enter Tryz.func33, Tryz.ntmps33
  go_wp2_with (go_at_call 50; refine (eas_nil _ _).mono ?_; rintro e w1 ⟨rfl, rfl⟩)
  go_ret
  exact ⟨rfl, below_al (Below.refl _ _) _⟩

/-- A page that is none: one that is needed no more. -/
def Pg.gone (p : Pg) : Bool := decide (p.kind = 0 ∧ p.id = 0 ∧ p.tx = 0 ∧ p.body = [])
/-- A work's page behind a change that had these pages. -/
def doneC (pages own : List (Nat × Pg)) (id : Nat) : Option Pg := match mget pages id with
  | some p => if p.gone then none else some p
  | none => mget own id
def keyIs (e : MapEntry) (id : Nat) : Bool := match e.key with
  | .int .u32 n => n == (id : Int)
  | _ => false
/-- Whether an entry of that key has been seen. -/
def seenK (es : Array MapEntry) (seen : Array Nat) (id : Nat) : Bool := es.toList.any fun e => keyIs e id && seen.contains e.born
theorem keyIs_u (e : MapEntry) (k id : Nat) (h : e.key = .int .u32 k) : keyIs e id = decide (k = id) := by
  unfold keyIs
  rw [h]
  dsimp only
  rw [Bool.eq_iff_iff, beq_iff_eq, decide_eq_true_iff]
  omega
theorem seenK_push {es : Array MapEntry} (hn : (es.toList.map (·.born)).Nodup) (seen : Array Nat) {e : MapEntry} (he : e ∈ es.toList) {k : Nat} (hk : e.key = .int .u32 k) (id : Nat) : seenK es (seen.push e.born) id = (seenK es seen id || decide (k = id)) := by
  unfold seenK
  rw [Bool.eq_iff_iff, Bool.or_eq_true, List.any_eq_true, List.any_eq_true, decide_eq_true_iff]
  constructor
  · rintro ⟨x, hx, h⟩
    rw [Bool.and_eq_true] at h
    obtain ⟨h1, h2⟩ := h
    rw [contains_push, Bool.or_eq_true] at h2
    rcases h2 with h2 | h2
    · exact .inl ⟨x, hx, by rw [h1, h2]; rfl⟩
    · have : x = e := born_inj hn hx he (beq_iff_eq.1 h2)
      subst this
      rw [keyIs_u x k id hk, decide_eq_true_iff] at h1
      exact .inr h1
  · rintro (⟨x, hx, h⟩ | h)
    · rw [Bool.and_eq_true] at h
      exact ⟨x, hx, by rw [h.1, contains_push, h.2]; rfl⟩
    · refine ⟨e, he, ?_⟩
      rw [keyIs_u e k id hk, contains_push]
      simp [h]
theorem entry_of {es : Array MapEntry} {m : List (Nat × Pg)} (hn : (mkeys m).Nodup) (h : es.toList.map (fun e : MapEntry => (e.key, e.val)) = m.map (entU Pg.v)) {e : MapEntry} (he : e ∈ es.toList) : ∃ id p, e.key = .int .u32 (id : Nat) ∧ e.val = Pg.v p ∧ mget m id = some p := by
  have : (e.key, e.val) ∈ m.map (entU Pg.v) := by rw [← h]; exact List.mem_map_of_mem he
  obtain ⟨x, hx, hxe⟩ := List.mem_map.1 this
  obtain ⟨j, hj⟩ := List.mem_iff_getElem?.1 hx
  exact ⟨x.1, x.2, (congrArg Prod.fst hxe).symm, (congrArg Prod.snd hxe).symm, mget_at hn hj⟩
theorem entry_at {es : Array MapEntry} {m : List (Nat × Pg)} (h : es.toList.map (fun e : MapEntry => (e.key, e.val)) = m.map (entU Pg.v)) {id : Nat} (hk : mget m id ≠ none) : ∃ e ∈ es.toList, e.key = .int .u32 (id : Nat) := by
  have hm : id ∈ mkeys m := by
    by_cases hc : id ∈ mkeys m
    · exact hc
    · exact absurd ((mget_none_iff m id).2 hc) hk
  obtain ⟨x, hx, rfl⟩ := List.mem_map.1 hm
  have : entU Pg.v x ∈ es.toList.map (fun e : MapEntry => (e.key, e.val)) := by rw [h]; exact List.mem_map_of_mem hx
  obtain ⟨y, hy, hye⟩ := List.mem_map.1 this
  exact ⟨y, hy, congrArg Prod.fst hye⟩
/-- What the work's pages are, as far as the change's have been gone through. -/
def HalfC (pages own0 : List (Nat × Pg)) (es : Array MapEntry) (seen : Array Nat) (own : List (Nat × Pg)) : Prop := ∀ id, mget own id = if seenK es seen id then doneC pages own0 id else mget own0 id
theorem half_start (pages own0 : List (Nat × Pg)) (es : Array MapEntry) : HalfC pages own0 es #[] own0 := fun id => by
  rw [if_neg]
  unfold seenK
  simp
theorem half_end {pages own0 : List (Nat × Pg)} {es : Array MapEntry} {seen : Array Nat} {own : List (Nat × Pg)} (h : HalfC pages own0 es seen own) (he : es.toList.map (fun e : MapEntry => (e.key, e.val)) = pages.map (entU Pg.v)) (h0 : (leftOf es seen).size = 0) (id : Nat) : mget own id = doneC pages own0 id := by
  rw [h id]
  by_cases hk : mget pages id = none
  · rw [show doneC pages own0 id = mget own0 id by unfold doneC; rw [hk]]
    split <;> rfl
  · obtain ⟨e, hm, hke⟩ := entry_at he hk
    rw [if_pos]
    unfold seenK
    rw [List.any_eq_true]
    exact ⟨e, hm, by rw [keyIs_u e id id hke, all_seen es seen h0 e hm]; simp⟩
theorem half_step {pages own0 : List (Nat × Pg)} {es : Array MapEntry} {seen : Array Nat} {own : List (Nat × Pg)} (h : HalfC pages own0 es seen own) (hn : (es.toList.map (·.born)).Nodup) {e : MapEntry} (hm : e ∈ es.toList) {k : Nat} {p : Pg} (hk : e.key = .int .u32 k) (hp : mget pages k = some p) :
    HalfC pages own0 es (seen.push e.born) (if p.gone then mdel own k else mput own k p) := fun id => by
  rw [seenK_push hn seen hm hk id]
  by_cases hid : k = id
  · subst hid
    have hs : (seenK es seen k || decide (k = k)) = true := by simp
    have hd : doneC pages own0 k = if p.gone then none else some p := by unfold doneC; rw [hp]
    rw [hs, hd]
    show mget _ k = (if p.gone then none else some p)
    by_cases hg : p.gone = true
    · rw [if_pos hg, if_pos hg, mget_del, if_pos rfl]
    · rw [if_neg hg, if_neg hg, mget_put, if_pos rfl]
  · rw [decide_eq_false hid, Bool.or_false, ← h id]
    by_cases hg : p.gone = true
    · rw [if_pos hg, mget_del, if_neg (fun e => hid e.symm)]
    · rw [if_neg hg, mget_put, if_neg (fun e => hid e.symm)]
/-- The loop over a change's pages. -/
structure EnI (w : World) (Wb bo bp r clock : Nat) (wkc : Array Value) (es : Array MapEntry) (seen : Array Nat) (own : List (Nat × Pg)) (A : World) : Prop where
  wb : A.heap[Wb]? = some (.cells wkc 78 (0, 0))
  ow : MapAt A bo Pg.v own
  mp : A.heap[bp]? = some (.map es clock)
  it : A.heap[r]? = some (.mapIter (some bp) clock seen clock)
  t : Turned (fun x => x = Wb ∨ x = bo) w A
open Go.ChangeMaps (setBlock)
section
variable {w A A' W1 : World} {Wb bo bp r clock : Nat} {wkc : Array Value} {es : Array MapEntry} {seen : Array Nat} {own own' : List (Nat × Pg)}
theorem EnI.new (h : EnI w Wb bo bp r clock wkc es seen own A) (hb : Below A.heap.size A A') : EnI w Wb bo bp r clock wkc es seen own A' :=
  ⟨(hb.block _ (lt_of_heap h.wb)).trans h.wb, h.ow.below hb, (hb.block _ (Array.getElem?_eq_some_iff.1 h.mp).1).trans h.mp, (hb.block _ (Array.getElem?_eq_some_iff.1 h.it).1).trans h.it, h.t.trans (Turned.new hb)⟩
theorem EnI.step (h : EnI w Wb bo bp r clock wkc es seen own A) (hr : w.heap.size ≤ r) (hwb : Wb < w.heap.size) (hbo : bo < w.heap.size) (hbp : bp < w.heap.size) (hw : W1 = A ∨ W1 = A.drew) (seen' : Array Nat) :
    EnI w Wb bo bp r clock wkc es seen' own (setBlock W1 r (.mapIter (some bp) clock seen' clock)) := by
  have h1 : EnI w Wb bo bp r clock wkc es seen own W1 := by
    rcases hw with rfl | rfl
    · exact h
    · exact h.new (Below.refl _ _).drew
  have hlt : r < W1.heap.size := (Array.getElem?_eq_some_iff.1 h1.it).1
  have ht : Turned (· = r) W1 (setBlock W1 r (.mapIter (some bp) clock seen' clock)) := turned_obj W1 r _ hlt
  refine ⟨ht.heap h1.wb (by omega), h1.ow.turned ht (by omega), ?_, ?_, h1.t.then ht (fun k hk e => by omega)⟩
  · exact (ht.block _ (Array.getElem?_eq_some_iff.1 h1.mp).1 (by omega)).trans h1.mp
  · show (W1.heap.setIfInBounds r _)[r]? = _
    rw [Array.getElem?_setIfInBounds_self_of_lt hlt]
theorem EnI.upd (h : EnI w Wb bo bp r clock wkc es seen own A) (hne : Wb ≠ bo ∧ bp ≠ bo ∧ r ≠ bo) (hm : MapAt A' bo Pg.v own') (ht : Turned (· = bo) A A') : EnI w Wb bo bp r clock wkc es seen own' A' :=
  ⟨ht.heap h.wb hne.1, hm, (ht.block _ (Array.getElem?_eq_some_iff.1 h.mp).1 hne.2.1).trans h.mp, (ht.block _ (Array.getElem?_eq_some_iff.1 h.it).1 hne.2.2).trans h.it, h.t.trans (ht.wider fun _ _ e => .inr e)⟩
end
theorem itS_of {W : World} {r : Nat} {bm : Option Nat} {a c : Nat} {seen : Array Nat} (h : W.heap[r]? = some (.mapIter bm a seen c)) : W.iterSeen r = seen := by
  unfold World.iterSeen; rw [h]
theorem ten_cells {w : World} {g : Nat} {v0 v1 v2 v3 v4 v5 v6 v7 v8 v9 : Value} {t : TypeId} (h : w.heap[g]? = some (.cells #[v0, v1, v2, v3, v4, v5, v6, v7, v8, v9] t (0, 0))) :
    (w.cell? ⟨g, 0, none⟩ = some v0 ∧ w.cell? ⟨g, 1, none⟩ = some v1 ∧ w.cell? ⟨g, 2, none⟩ = some v2 ∧ w.cell? ⟨g, 3, none⟩ = some v3 ∧ w.cell? ⟨g, 4, none⟩ = some v4 ∧ w.cell? ⟨g, 5, none⟩ = some v5 ∧ w.cell? ⟨g, 6, none⟩ = some v6 ∧ w.cell? ⟨g, 7, none⟩ = some v7 ∧ w.cell? ⟨g, 8, none⟩ = some v8 ∧ w.cell? ⟨g, 9, none⟩ = some v9) ∧ ∀ o, w.frozen? ⟨g, o, none⟩ = false := by
  refine ⟨⟨?_, ?_, ?_, ?_, ?_, ?_, ?_, ?_, ?_, ?_⟩, fun _ => frozen_whole h _⟩ <;> exact cell_whole (cur := [v0, v1, v2, v3, v4, v5, v6, v7, v8, v9]) h _
theorem eight_cells {w : World} {g : Nat} {v0 v1 v2 v3 v4 v5 v6 v7 : Value} {t : TypeId} (h : w.heap[g]? = some (.cells #[v0, v1, v2, v3, v4, v5, v6, v7] t (0, 0))) :
    w.cell? ⟨g, 0, none⟩ = some v0 ∧ w.cell? ⟨g, 1, none⟩ = some v1 ∧ w.cell? ⟨g, 2, none⟩ = some v2 ∧ w.cell? ⟨g, 3, none⟩ = some v3 ∧ w.cell? ⟨g, 4, none⟩ = some v4 ∧ w.cell? ⟨g, 5, none⟩ = some v5 ∧ w.cell? ⟨g, 6, none⟩ = some v6 ∧ w.cell? ⟨g, 7, none⟩ = some v7 := by
  refine ⟨?_, ?_, ?_, ?_, ?_, ?_, ?_, ?_⟩ <;> exact cell_whole (cur := [v0, v1, v2, v3, v4, v5, v6, v7]) h _
theorem map_ne_cells {w : World} {a b : Nat} {c : Array Value} {t : TypeId} {fr : Nat × Nat} {es : Array MapEntry} {cl : Nat} (h : w.heap[a]? = some (.cells c t fr)) (g : w.heap[b]? = some (.map es cl)) : a ≠ b := by
  rintro rfl
  rw [h] at g
  cases g
theorem wk_five {w : World} {Wb : Nat} {v0 v1 v2 v3 v4 v5 v6 v7 v8 v9 : Value} {t : TypeId} (h : w.heap[Wb]? = some (.cells #[v0, v1, v2, v3, v4, v5, v6, v7, v8, v9] t (0, 0))) (x1 x2 x3 x4 x9 : Value) :
    (((((w.setCell ⟨Wb, 9, none⟩ x9).setCell ⟨Wb, 1, none⟩ x1).setCell ⟨Wb, 2, none⟩ x2).setCell ⟨Wb, 3, none⟩ x3).setCell ⟨Wb, 4, none⟩ x4).heap[Wb]? = some (.cells #[v0, x1, x2, x3, x4, v5, v6, v7, v8, x9] t (0, 0)) :=
  heap_setCell_at (heap_setCell_at (heap_setCell_at (heap_setCell_at (heap_setCell_at h 9 x9) 1 x1) 2 x2) 3 x3) 4 x4
theorem wk_five_t (w : World) (Wb : Nat) (x1 x2 x3 x4 x9 : Value) :
    Turned (· = Wb) w (((((w.setCell ⟨Wb, 9, none⟩ x9).setCell ⟨Wb, 1, none⟩ x1).setCell ⟨Wb, 2, none⟩ x2).setCell ⟨Wb, 3, none⟩ x3).setCell ⟨Wb, 4, none⟩ x4) :=
  (((((Turned.refl (· = Wb) w).setCell (p := ⟨Wb, 9, none⟩) rfl _).setCell (p := ⟨Wb, 1, none⟩) rfl _).setCell (p := ⟨Wb, 2, none⟩) rfl _).setCell (p := ⟨Wb, 3, none⟩) rfl _).setCell (p := ⟨Wb, 4, none⟩) rfl _

set_option maxRecDepth 20000 in
set_option maxHeartbeats 4000000 in
theorem cend_any {w : World} {C Wb : Nat} {k : Wk} {c : Ch} (h : ChAt w C Wb k c) {root : Nat} {al : Al} {p : Option Addr} {cp : Nat} {told : Int} (hwb : w.heap[Wb]? = some (.cells (wkCells k root al p cp told) 78 (0, 0))) (hf : c.full = .nilIface) (hg : c.vg = .slice none 0 0) :
    Calls Tryz.prog 30 #[.pointer (some ⟨C, 0, none⟩), .nilIface] w fun e w' => e = .returned (.int .i64 0) ∧ ∃ own', w'.heap[Wb]? = some (.cells (wkCells k c.root c.al c.p c.cp 0) 78 (0, 0)) ∧ MapAt w' k.bo Pg.v own' ∧ (∀ id, mget own' id = doneC c.pages k.own id) ∧ Turned (fun x => x = Wb ∨ x = k.bo) w w' := by
  obtain ⟨es, clock, hmp, hst, hes⟩ := h.pages.row
  obtain ⟨es2, clock2, hmo, -, -⟩ := h.own.row
  have hn1 : Wb ≠ k.bo := map_ne_cells hwb hmo
  have hn2 : c.bp ≠ k.bo := h.ne.2.2.2.2.symm
  have hn3 : Wb ≠ c.bp := h.ne.2.2.2.1
  have hn4 : Wb ≠ C := h.ne.1
  have hn5 : k.bo ≠ C := h.ne.2.1
  have HN : Veil (Wb ≠ k.bo ∧ c.bp ≠ k.bo ∧ Wb ≠ c.bp) := ⟨hn1, hn2, hn3⟩
  have hl1 : Wb < w.heap.size := lt_of_heap hwb
  have hl2 : C < w.heap.size := lt_of_heap h.cb
  have HL : Veil (Wb < w.heap.size ∧ C < w.heap.size ∧ c.bp < w.heap.size ∧ k.bo < w.heap.size) := ⟨hl1, hl2, (Array.getElem?_eq_some_iff.1 hmp).1, (Array.getElem?_eq_some_iff.1 hmo).1⟩
  have HMP : Veil _ := ⟨hmp⟩
  have HOW : Veil _ := ⟨h.own⟩
  have HWB : Veil _ := ⟨hwb⟩
  have HES : Veil (MapKept.Stamped es clock ∧ es.toList.map (fun e : MapEntry => (e.key, e.val)) = c.pages.map (entU Pg.v) ∧ (mkeys c.pages).Nodup) := ⟨hst, hes, h.pages.nodup⟩
  obtain ⟨disk, tx, old, own, bo, bg⟩ := k
  obtain ⟨rt, al', p', cp', pages, bp, vg, full⟩ := c
  dsimp only at *
  subst hf hg
  have hcb := h.cb
  unfold chCells at hcb
  dsimp only at hcb
  have HC : Veil _ := ⟨hcb⟩
  unfold wkCells at HWB ⊢
  dsimp only at HWB ⊢
  obtain ⟨hc, -⟩ := ch_cells h.cb
  have c0 := hc 0
  have c7 := hc 7
  simp only [List.getElem?_cons_zero, List.getElem?_cons_succ] at c0 c7
  have hJ : Veil _ := ⟨fun W g hg => ejoin_nil W g hg⟩
  clear hc h hwb hmp hmo hst hes hcb
  have hn4' : C ≠ Wb := hn4.symm
  go_enter Tryz.func30, Tryz.ntmps30
  go_wp2_with (first
    | (go_at_call 33; refine (number_nil _).mono ?_; rintro e w2 ⟨rfl, hb2⟩; have HB : Veil (Below w.heap.size w w2) := ⟨bt_then hb1 hb2⟩; have hwb2 := (HB.out.block _ hl1).trans HWB.out; have hcb2 := (HB.out.block _ hl2).trans HC.out; obtain ⟨hwc, hwf⟩ := ten_cells hwb2; obtain ⟨w0, w1', w2', w3', w4', w5', w6', w7', w8', w9'⟩ := hwc; obtain ⟨d0, d1, d2, d3, d4, d5, d6, d7⟩ := eight_cells hcb2; have hrg := run_range_map (P := Tryz.prog) (((((w2.setCell ⟨Wb, 9, none⟩ (.int .i64 0)).setCell ⟨Wb, 1, none⟩ (.int .u32 rt)).setCell ⟨Wb, 2, none⟩ (.int .u32 al'.high)).setCell ⟨Wb, 3, none⟩ (.int .u32 al'.most)).setCell ⟨Wb, 4, none⟩ (.slice p' al'.l.length cp')) 75 23 114 bp es clock Tryz.underlying75 (((wk_five_t w2 Wb _ _ _ _ _).block _ (Nat.lt_of_lt_of_le HL.out.2.2.1 HB.out.size) HN.out.2.2.symm).trans ((HB.out.block _ HL.out.2.2.1).trans HMP.out)); clear hb1 hb2 hwb2 hcb2)
    | (go_at_call 43; refine (hJ.out _ _ rfl).mono ?_; rintro e w1 ⟨rfl, hb1⟩))
  obtain ⟨r, hr⟩ : ∃ r, w2.heap.size = r := ⟨_, rfl⟩
  have hrw : w.heap.size ≤ r := by rw [← hr]; exact HB.out.size
  have HI0 : Veil (EnI w Wb bo bp r clock #[disk, .int .u32 rt, .int .u32 al'.high, .int .u32 al'.most, .slice p' al'.l.length cp', .int .u64 tx, .int .u64 old, .map (some bo), .map (some bg), .int .i64 0] es #[] own ((((((w2.setCell ⟨Wb, 9, none⟩ (.int .i64 0)).setCell ⟨Wb, 1, none⟩ (.int .u32 rt)).setCell ⟨Wb, 2, none⟩ (.int .u32 al'.high)).setCell ⟨Wb, 3, none⟩ (.int .u32 al'.most)).setCell ⟨Wb, 4, none⟩ (.slice p' al'.l.length cp')).alloc (.mapIter (some bp) clock #[] clock))) := ⟨by
    have ht := wk_five_t w2 Wb (.int .u32 rt) (.int .u32 al'.high) (.int .u32 al'.most) (.slice p' al'.l.length cp') (.int .i64 0)
    have hw5 := wk_five ((HB.out.block _ hl1).trans HWB.out) (.int .u32 rt) (.int .u32 al'.high) (.int .u32 al'.most) (.slice p' al'.l.length cp') (.int .i64 0)
    have ho5 := (HOW.out.below HB.out).turned ht (fun e => HN.out.1 e.symm)
    have hm5 := (ht.block bp (Nat.lt_of_lt_of_le HL.out.2.2.1 HB.out.size) (fun e => HN.out.2.2 e.symm)).trans ((HB.out.block _ HL.out.2.2.1).trans HMP.out)
    have ht5 : Turned (fun x => x = Wb ∨ x = bo) w _ := (Turned.new HB.out).trans (ht.wider fun _ _ e => .inl e)
    have hz5 : ((((((w2.setCell ⟨Wb, 9, none⟩ (.int .i64 0)).setCell ⟨Wb, 1, none⟩ (.int .u32 rt)).setCell ⟨Wb, 2, none⟩ (.int .u32 al'.high)).setCell ⟨Wb, 3, none⟩ (.int .u32 al'.most)).setCell ⟨Wb, 4, none⟩ (.slice p' al'.l.length cp'))).heap.size = r := by rw [← hr]; simp
    revert hw5 ho5 hm5 ht5 hz5
    generalize ((((((w2.setCell ⟨Wb, 9, none⟩ (.int .i64 0)).setCell ⟨Wb, 1, none⟩ (.int .u32 rt)).setCell ⟨Wb, 2, none⟩ (.int .u32 al'.high)).setCell ⟨Wb, 3, none⟩ (.int .u32 al'.most)).setCell ⟨Wb, 4, none⟩ (.slice p' al'.l.length cp'))) = w5
    intro hw5 ho5 hm5 ht5 hz5
    have hb5 : Below w5.heap.size w5 (w5.alloc (.mapIter (some bp) clock #[] clock)) := below_al (Below.refl _ _) _
    exact ⟨(hb5.block _ (lt_of_heap hw5)).trans hw5, ho5.below hb5, (hb5.block _ (Array.getElem?_eq_some_iff.1 hm5).1).trans hm5, by rw [← hz5]; exact heap_alloc_new _ _, ht5.trans (Turned.new hb5)⟩⟩
  have HCW : Veil (∀ A, Turned (fun x => x = Wb ∨ x = bo) w A → A.heap[C]? = some (.cells #[.pointer (some ⟨Wb, 0, none⟩), .int .u32 rt, .int .u32 al'.high, .int .u32 al'.most, .slice p' al'.l.length cp', .map (some bp), .slice none 0 0, .nilIface] 120 (0, 0))) := ⟨fun A ht => (ht.block C hl2 (fun e => by rcases e with e | e; exact hn4' e; exact hn5 e.symm)).trans HC.out⟩
  rw [hr]
  clear hrg w0 w1' w2' w3' w4' w5' w6' w7' w8' w9' d0 d1 d2 d3 d4 d5 d6 d7 hwf c0 c7 hJ hr
  obtain ⟨wkc, hwk⟩ : ∃ wkc : Array Value, #[disk, .int .u32 rt, .int .u32 al'.high, .int .u32 al'.most, .slice p' al'.l.length cp', .int .u64 tx, .int .u64 old, .map (some bo), .map (some bg), .int .i64 0] = wkc := ⟨_, rfl⟩
  have HWK : Veil _ := ⟨hwk⟩
  rw [hwk] at HI0
  clear hwk
  go_loopw [] (fun wr => ∃ seen own', EnI w Wb bo bp r clock wkc es seen own' wr ∧ HalfC pages own es seen own') (fun wr => (leftOf es (wr.iterSeen r)).size)
  case atStart => exact ⟨#[], own, HI0.out, half_start _ _ _⟩
  case round =>
    obtain ⟨seen, own', hI, hH⟩ := hrel
    have HI : Veil _ := ⟨hI⟩
    have HH : Veil _ := ⟨hH⟩
    have law := run_next_at (P := Tryz.prog) wr 0 r bp clock clock seen es clock hI.it hI.mp HES.out.1.1 (Nat.le_refl _)
    clear hI hH HI0
    rcases law with ⟨h0, hrun⟩ | ⟨e, he, w3, hal3, hrun⟩
    · have hnx : ∀ ty, (Instr.next (.pointer (some ⟨r, 0, none⟩)) false ty).run Tryz.prog wr = _ := fun _ => hrun
      have HE : Veil _ := ⟨half_end HH.out HES.out.2.1 h0⟩
      obtain ⟨d0, d1, d2, d3, d4, d5, d6, d7⟩ := eight_cells (HCW.out _ HI.out.t)
      clear hrun h0
      go_wp2
      refine wp_loop_rounds 3 ?_
      rw [rounds_succ]
      go_wp2
      go_ret
      have hwb9 := HI.out.wb
      rw [← HWK.out] at hwb9
      exact ⟨rfl, own', hwb9, HI.out.ow, HE.out, HI.out.t⟩
    · obtain ⟨id, q, hkey, hval, hq⟩ := entry_of HES.out.2.2 HES.out.2.1 (mem_left he).1
      have HQ : Veil _ := ⟨half_step HH.out HES.out.1.2.1 (mem_left he).1 hkey hq⟩
      rw [hval, hkey] at hrun
      have hnx : ∀ ty, (Instr.next (.pointer (some ⟨r, 0, none⟩)) false ty).run Tryz.prog wr = _ := fun _ => hrun
      have HI2 : Veil _ := ⟨HI.out.step hrw hl1 HL.out.2.2.2 HL.out.2.2.1 hal3 (seen.push e.born)⟩
      have hmeas : Veil ((leftOf es (seen.push e.born)).size < (leftOf es (wr.iterSeen r)).size) := ⟨by
        rw [itS_of HI.out.it]
        exact left_shrinks es seen e he⟩
      obtain ⟨w4, hw4⟩ : ∃ w4, setBlock w3 r (.mapIter (some bp) clock (seen.push e.born) clock) = w4 := ⟨_, rfl⟩
      rw [hw4] at hnx HI2
      have hen := run_entry_at (P := Tryz.prog) w4 r bp clock seen es clock e HI2.out.it HI2.out.mp (mem_left he).1 HES.out.1.2.1
      rw [hval, hkey] at hen
      obtain ⟨qk, qi, qt, qb⟩ := q
      unfold Pg.v at hnx hen
      dsimp only at hnx hen
      clear hrun hw4 hal3 hval hkey he hq HH HI
      have HWk : Veil (∀ W, Below (w4.alloc (.cells #[.int .i64 qk, .int .u32 qi, .int .u64 qt, .string ⟨qb.toArray⟩] 114)).heap.size (w4.alloc (.cells #[.int .i64 qk, .int .u32 qi, .int .u64 qt, .string ⟨qb.toArray⟩] 114)) W → W.cell? ⟨Wb, 7, none⟩ = some (.map (some bo)) ∧ W.cell? ⟨w4.heap.size, 0, none⟩ = some (.int .i64 qk) ∧ W.cell? ⟨w4.heap.size, 1, none⟩ = some (.int .u32 qi) ∧ W.cell? ⟨w4.heap.size, 2, none⟩ = some (.int .u64 qt) ∧ W.cell? ⟨w4.heap.size, 3, none⟩ = some (.string ⟨qb.toArray⟩)) := ⟨fun W hB => by
        have h1 := (hB.block _ (lt_of_heap (heap_alloc_new w4 (.cells #[.int .i64 qk, .int .u32 qi, .int .u64 qt, .string ⟨qb.toArray⟩] 114)))).trans (heap_alloc_new _ _)
        have h2 := ((HI2.out.new (below_al (Below.refl _ _) (.cells #[.int .i64 qk, .int .u32 qi, .int .u64 qt, .string ⟨qb.toArray⟩] 114))).new hB).wb
        rw [← HWK.out] at h2
        exact ⟨(ten_cells h2).1.2.2.2.2.2.2.2.1, cell_whole (cur := [.int .i64 qk, .int .u32 qi, .int .u64 qt, .string ⟨qb.toArray⟩]) h1 0, cell_whole (cur := [.int .i64 qk, .int .u32 qi, .int .u64 qt, .string ⟨qb.toArray⟩]) h1 1, cell_whole (cur := [.int .i64 qk, .int .u32 qi, .int .u64 qt, .string ⟨qb.toArray⟩]) h1 2, cell_whole (cur := [.int .i64 qk, .int .u32 qi, .int .u64 qt, .string ⟨qb.toArray⟩]) h1 3⟩⟩
      have HI3 : Veil _ := ⟨HI2.out.new (below_al (Below.refl _ _) (.cells #[.int .i64 qk, .int .u32 qi, .int .u64 qt, .string ⟨qb.toArray⟩] 114))⟩
      have hwb4 := HI2.out.wb
      rw [← HWK.out] at hwb4
      have hlt4 := lt_of_heap hwb4
      have x7 := (ten_cells hwb4).1.2.2.2.2.2.2.2.1
      clear hwb4
      obtain ⟨I, hI⟩ : ∃ I : Int, (qi : Int) = I := ⟨_, rfl⟩
      obtain ⟨T, hT⟩ : ∃ T : Int, (qt : Int) = T := ⟨_, rfl⟩
      have HV : Veil (Pg.v ⟨qk, qi, qt, qb⟩ = .agg #[.int .i64 qk, .int .u32 I, .int .u64 T, .string ⟨qb.toArray⟩]) := ⟨by unfold Pg.v; dsimp only; rw [hI, hT]⟩
      have HIT : Veil ((qi : Int) = I ∧ (qt : Int) = T) := ⟨hI, hT⟩
      rw [hI, hT] at hnx hen HWk HI3
      clear hI hT
      by_cases hgone : qk = 0 ∧ I = 0 ∧ T = 0 ∧ qb = []
      · obtain ⟨rfl, rfl, rfl, rfl⟩ := hgone
        have hg1 : Pg.gone ⟨0, qi, qt, []⟩ = true := by unfold Pg.gone; exact decide_eq_true ⟨rfl, by have := HIT.out; dsimp only; omega, by have := HIT.out; dsimp only; omega, rfl⟩
        rw [hg1, if_pos rfl] at HQ
        clear hg1
        go_wp2_with (with_reducible refine wpList_mdel rfl (.tmp 57) (.tmp 58) 75 23 rfl _ Tryz.underlying75 Tryz.underlying23 rfl HI3.out.ow id rfl ?_; intro w9 hM9 hT9)
        have HI9 : Veil _ := ⟨HI3.out.upd ⟨HN.out.1, HN.out.2.1, by have := HL.out; omega⟩ hM9 hT9⟩
        dsimp only [Act.put]
        go_roundw
        case rel => exact ⟨_, _, HI9.out, HQ.out⟩
        case measure => rw [itS_of HI9.out.it]; exact hmeas.out
      · have hgf : Pg.gone ⟨qk, qi, qt, qb⟩ = false := by unfold Pg.gone; exact decide_eq_false (fun h => hgone ⟨h.1, by have := HIT.out; have := h.2.1; dsimp only at this; omega, by have := HIT.out; have := h.2.2.1; dsimp only at this; omega, h.2.2.2⟩)
        rw [hgf, if_neg (by decide)] at HQ
        have HS : Veil ((⟨qb.toArray⟩ : ByteArray) = ⟨#[]⟩ ↔ qb = []) := ⟨⟨fun e => by simpa using congrArg ByteArray.data e, fun e => by rw [e]⟩⟩
        have HGn : Veil _ := ⟨hgone⟩
        obtain ⟨PV, hPV⟩ : ∃ PV : Value, .agg #[.int .i64 qk, .int .u32 I, .int .u64 T, .string ⟨qb.toArray⟩] = PV := ⟨_, rfl⟩
        have HPV : Veil _ := ⟨hPV⟩
        rw [hPV] at HV
        clear hgf hgone hPV
        go_wp2
        · exact absurd ⟨by assumption, by assumption, by assumption, by assumption⟩ HGn.out
        all_goals
          try (rename qk = 0 => hq0; subst hq0)
          try (rename I = 0 => hq0; subst hq0)
          try (rename T = 0 => hq0; subst hq0)
          refine region_new [.is (.pointer (some ⟨Wb, 0, none⟩)), .is (.pointer (some ⟨Wb, 0, none⟩)), .is (.pointer (some ⟨Wb, 7, none⟩)), .is (.map (some bo)), .is (.int .u32 id), .is PV]
            [[], [(0, 59)], [(1, 60)], [(2, 61)], [], []]
            [[], [0], [1], [2], [], []]
            [(0, 59), (1, 60), (2, 61), (3, 62), (4, 63), (5, 64)] rfl (by kernel_rfl) ⟨?_, ?_, ?_, ?_, ?_, ?_, trivial⟩ ?_
          · intro vals W hB _
            dsimp only [putsL, slotOf]
            go_wp2
            exact ⟨rfl, Below.refl _ _, rfl⟩
          · intro vals W hB ⟨h0, _⟩
            have h0 : vals 0 = _ := h0
            dsimp only [putsL, slotOf]
            rw [h0]
            go_wp2
            exact ⟨rfl, Below.refl _ _, rfl⟩
          · intro vals W hB ⟨h1, _⟩
            have h1 : vals 1 = _ := h1
            dsimp only [putsL, slotOf]
            rw [h1]
            go_wp2
            exact ⟨rfl, Below.refl _ _, rfl⟩
          · intro vals W hB ⟨h2, _⟩
            have h2 : vals 2 = _ := h2
            obtain ⟨hw7, -⟩ := HWk.out W hB
            dsimp only [putsL, slotOf]
            rw [h2]
            go_wp2
            exact ⟨rfl, Below.refl _ _, rfl⟩
          · intro vals W hB _
            dsimp only [putsL, slotOf]
            go_wp2
            exact ⟨rfl, Below.refl _ _, rfl⟩
          · intro vals W hB _
            obtain ⟨-, b0, b1, b2, b3⟩ := HWk.out W hB
            dsimp only [putsL, slotOf]
            go_wp2
            exact ⟨rfl, Below.refl _ _, HPV.out⟩
          rintro vals W hB ⟨q0, q1, q2, q3, q4, q5, -⟩
          have h0 : vals 0 = _ := q0
          have h1 : vals 1 = _ := q1
          have h2 : vals 2 = _ := q2
          have h3 : vals 3 = _ := q3
          have h4 : vals 4 = _ := q4
          have h5 : vals 5 = _ := q5
          dsimp only [putsL]
          rw [h0, h1, h2, h3, h4, h5]
          clear h0 q0 h1 q1 h2 q2 h3 q3 h4 q4 h5 q5
          simp only [List.length_cons, List.length_nil, Nat.reduceAdd, List.drop_succ_cons, List.drop_zero, List.setIfInBounds_toArray, List.set_cons_succ, List.set_cons_zero]
          go_wp2_with (at_mapUpdate; refine wpList_mput rfl _ _ _ 75 rfl _ _ Tryz.underlying75 Tryz.underlying23 rfl (HI3.out.new hB).ow id rfl _ HV.out.symm ?_; intro w9 hM9 hT9)
          have HI9 : Veil _ := ⟨(HI3.out.new hB).upd ⟨HN.out.1, HN.out.2.1, by have := HL.out; omega⟩ hM9 hT9⟩
          try dsimp only [Act.put]
          go_roundw
          case rel => exact ⟨_, _, HI9.out, HQ.out⟩
          case measure => rw [itS_of HI9.out.it]; exact hmeas.out
end Go.Proofs.YtokbmimbbeedcaaGreatDoor
