/- The walk of place: how many spares stand ahead of a page's place. -/
import Derived.Test.YtokbmimbbeedcaaGreatDoorKA1
import Derived.Test.YtokbmimbbeedcaaGreatDoorKPL
import Derived.BigQuiet
import Derived.Deep.RegionHeld3
namespace Go.Proofs.YtokbmimbbeedcaaGreatDoor
open Go Go.RowKit Sm
attribute [local go_sem] Oper.semAt_some

/-- Between two rounds over spares: the boxes of what is asked, of the count, of the list. -/
structure PlI (w : World) (B1 B2 : Nat) (p : Option Addr) (L : List Sp) (cap page k : Nat) (A : World) : Prop where
  pg : A.heap[w.heap.size]? = some (.cells #[.int .u32 page] 23 (0, 0))
  n : A.heap[B1]? = some (.cells #[.int .i64 k] 3 (0, 0))
  bx : A.heap[B2]? = some (.cells #[.slice p L.length cap] 32 (0, 0))
  s : Sps A p L
  t : Turned (fun _ => False) w A
section
variable {w : World} {B1 B2 : Nat} {p : Option Addr} {L : List Sp} {cap page k : Nat} {A A' : World}
theorem PlI.booked {B : Nat} (h : PlI w B1 B2 p L cap page k A) (hb : Booked B A A') (hB : w.heap.size ≤ B) : PlI w B1 B2 p L cap page k A' :=
  ⟨hb.heap h.pg, hb.heap h.n, hb.heap h.bx, h.s.booked hb, hb.turned h.t hB⟩
theorem PlI.new (h : PlI w B1 B2 p L cap page k A) (hb : Turned (fun _ => False) A A') : PlI w B1 B2 p L cap page k A' :=
  ⟨hb.heap h.pg (fun h => h), hb.heap h.n (fun h => h), hb.heap h.bx (fun h => h), h.s.turned hb (fun _ _ h => h), h.t.trans hb⟩
theorem PlI.more (h : PlI w B1 B2 p L cap page k A) (hp : ∀ a, p = some a → a.block < w.heap.size) (h1 : w.heap.size < B1) (h2 : B1 < B2) (k' : Nat) : PlI w B1 B2 p L cap page k' (A.setCell ⟨B1, 0, none⟩ (.int .i64 k')) :=
  have ht : Turned (· = B1) A (A.setCell ⟨B1, 0, none⟩ (.int .i64 k')) := (Turned.refl (· = B1) A).setCell (p := ⟨B1, 0, none⟩) rfl _
  ⟨ht.heap h.pg (by omega), heap_setCell_at h.n 0 _, ht.heap h.bx (by omega), h.s.turned ht (fun a ha e => by have := hp a ha; omega), h.t.then ht (fun k hk e => by omega)⟩
end
set_option maxRecDepth 20000 in
set_option maxHeartbeats 2000000 in
theorem place_of {w : World} {p : Option Addr} {L : List Sp} (h : Sps w p L) (hp : ∀ a, p = some a → a.block < w.heap.size) (cap page : Nat) (hl : L.length ≤ 100000) (_hpg : page < 4294967296) :
    Calls Tryz.prog 129 #[.slice p L.length cap, .int .u32 page] w fun e w' => e = .returned (.int .i64 (firstAt (ahead page) L)) ∧ Below w.heap.size w w' := by
  refine calls_of_wp_marks Tryz.func129 rfl ?_
  simp only [Tryz.ntmps129, List.size_toArray, List.length_cons, List.length_nil, Nat.reduceAdd, Nat.reduceSub, Array.replicate_succ, Array.replicate_zero, List.push_toArray, List.append_toArray, List.nil_append, List.cons_append]
  have HH := Lib.hid h
  clear h
  go_wp2
  go_step3
  go_wp2
  go_step3
  go_wp2_with (go_at_call 42; refine (aeach_any _ _ _ _).mono ?_; rintro e w1 ⟨rfl, hw1⟩)
  obtain ⟨B1, e1⟩ : ∃ B1, w.heap.size + 1 = B1 := ⟨_, rfl⟩
  obtain ⟨B2, e2⟩ : ∃ B2, B1 + 1 = B2 := ⟨_, rfl⟩
  have hI : PlI w B1 B2 p L cap page 0 w1 := by
    rw [← hw1]
    refine ⟨?_, ?_, ?_, HH.out.turned ((((Turned.refl (fun _ => False) w).alloc _).alloc _).alloc _) (fun _ _ h => h), (((Turned.refl (fun _ => False) w).alloc _).alloc _).alloc _⟩
    all_goals
      simp only [heap_alloc_if, World.size_alloc]
      repeat (first | rw [if_neg (by omega)] | rw [if_pos (by first | trivial | omega)])
    all_goals rfl
  have hz1 : w1.heap.size = B2 + 1 := by rw [← hw1]; simp; omega
  have HW : Veil (w.heap.size < B1 ∧ B1 < B2) := ⟨by omega⟩
  have HZ : Veil (w1.heap.size = B2 + 1) := ⟨hz1⟩
  rw [e1, e2]
  clear hw1 e1 e2 hz1
  refine wp_range_break (gf := 60) (lb := #[.pointer (some ⟨B2, 0, none⟩)]) rfl (enters_of Tryz.func60 (by kernel_rfl) rfl)
    (aeach_seq B2 p L cap (by omega)) (fun k => rfl)
    (fun k A => PlI w B1 B2 p L cap page k A ∧ ∀ i, i < k → ahead page (L.getD i Sp.zero) = false)
    (fun A => PlI w B1 B2 p L cap page (firstAt (ahead page) L) A) ?hI ?hE ?hF ?h0 ?hN ?hround ?hend
  case hI => rintro k A A' ⟨h1, h3⟩ hb; exact ⟨h1.booked hb (by have := HW.out; have := HZ.out; omega), h3⟩
  case hE => rintro A A' h1 hb; exact h1.booked hb (by have := HW.out; have := HZ.out; omega)
  case hF => rintro k A ⟨h, _⟩; exact ⟨cell_row1 h.bx, h.s⟩
  case h0 => exact ⟨hI, fun i hi => absurd hi (by omega)⟩
  case hN => rintro A ⟨h1, h3⟩; rw [firstAt_none h3]; exact h1
  case hround =>
    rintro l m k A hl2 hlt ⟨hi, hr⟩
    simp only [handsA, List.zip_cons_cons, List.zip_nil_right, List.foldl_cons, List.foldl_nil, List.setIfInBounds_toArray, List.set_cons_succ, List.set_cons_zero]
    have HR : Veil _ := ⟨hr⟩
    have HK : Veil (ahead page (L.getD k Sp.zero) = true → firstAt (ahead page) L = k) := ⟨fun ht => firstAt_of hlt ht hr⟩
    clear hI hr
    have HKF : Veil (ahead page (L.getD k Sp.zero) = false → ∀ i, i < k + 1 → ahead page (L.getD i Sp.zero) = false) := ⟨fun hf i hi => by
      rcases Nat.lt_or_eq_of_le (Nat.le_of_lt_succ hi) with h | h
      · exact HR.out i h
      · rw [h]; exact hf⟩
    revert HK HKF
    generalize L.getD k Sp.zero = s
    obtain ⟨pg, tx⟩ := s
    intro HK HKF
    gi_wp2
    have hT1 : Turned (fun _ => False) A (A.alloc (.cells #[.int .u32 pg, .int .u64 tx] 70)) := (Turned.refl _ A).alloc _
    refine ⟨keepsFrom_new hT1, fun A2 hbk hsz => ?_⟩
    have hi2 := (hi.new hT1).booked hbk (by have := HW.out; have := HZ.out; omega)
    have hs2 := hbk.heap (heap_alloc_new A (.cells #[.int .u32 pg, .int .u64 tx] 70))
    clear hi hT1 hbk
    have HI2 : Veil _ := ⟨hi2⟩
    have c0 := cell_row1 hi2.pg
    have c1 := cell_row1 hi2.n
    have f1 : A2.frozen? ⟨B1, 0, none⟩ = false := frozen_whole hi2.n _
    have hs3 : A2.heap[A.heap.size]? = some (.cells [Value.int .u32 pg, Value.int .u64 tx].toArray 70 (0, 0)) := hs2
    have c2 : A2.cell? ⟨A.heap.size, 0, none⟩ = some (.int .u32 pg) := cell_whole hs3 0
    clear hi2 hs2 hs3 hsz
    by_cases hge : page ≤ pg
    · have hgI : decide (page ≤ pg) = true := by simp [hge]
      have HP : Veil (firstAt (ahead page) L = k) := ⟨HK.out (by simp [ahead, hge])⟩
      clear hge
      gi_wp2
      exact ⟨KeepsFrom.refl _ _, rfl, by rw [HP.out]; exact HI2.out⟩
    · have hgI : decide (page ≤ pg) = false := by simp [hge]
      have HP : Veil _ := ⟨HKF.out (by simp [ahead, hge])⟩
      clear hge
      gi_wp2
      have hW := HW.out
      have hT := (Turned.refl (· = B1) A2).setCell (p := ⟨B1, 0, none⟩) rfl (.int .i64 ((k + 1 : Nat) : Int))
      have e : Value.int .i64 ((k : Int) + 1) = .int .i64 ((k + 1 : Nat) : Int) := by go_num
      rw [e]
      exact ⟨keepsFrom_turned hT (fun j hj => .inl (by have := HZ.out; omega)), HI2.out.more hp hW.1 hW.2 (k + 1), HP.out⟩
  case hend =>
    rintro Dd A hDd h1 hdd
    have HI : Veil _ := ⟨h1⟩
    have HD : Veil _ := ⟨hdd⟩
    have c1 := cell_row1 h1.n
    clear h1 hdd hI
    go_wp2
    try rw [Exit.noGoto_ret]
    refine leaves_mark (D := Dd) (B := w.heap.size) HD.out (by have := HW.out; have := HZ.out; omega) ?_
    intro w' hb _
    refine leaves_none (results_tmp rfl _ _ _) ⟨rfl, ?_⟩
    exact (hb.turned HI.out.t (Nat.le_refl _)).toBelow (Nat.le_refl _) (fun _ _ h => h.elim)
end Go.Proofs.YtokbmimbbeedcaaGreatDoor

/- The walk of unread: the first spare that nobody reads any more. -/
namespace Go.Proofs.YtokbmimbbeedcaaGreatDoor
open Go Go.RowKit Sm
attribute [local go_sem] Oper.semAt_some

/-- Between two rounds: the boxes of the oldest, of the answer, of what was found, of its place, of the list. -/
structure UnI (w : World) (B1 B2 B3 B4 : Nat) (p : Option Addr) (L : List Sp) (cap oldest at' : Nat) (s : Sp) (A : World) : Prop where
  o : A.heap[w.heap.size]? = some (.cells #[.int .u64 oldest] 35 (0, 0))
  r : A.heap[B1]? = some (.cells #[.int .u32 0, .int .u64 0] 70 (0, 0))
  f : A.heap[B2]? = some (.cells #[.int .u32 s.page, .int .u64 s.tx] 70 (0, 0))
  n : A.heap[B3]? = some (.cells #[.int .i64 at'] 3 (0, 0))
  bx : A.heap[B4]? = some (.cells #[.slice p L.length cap] 32 (0, 0))
  s : Sps A p L
  t : Turned (fun _ => False) w A
section
variable {w : World} {B1 B2 B3 B4 : Nat} {p : Option Addr} {L : List Sp} {cap oldest k : Nat} {s : Sp} {A A' : World}
theorem UnI.booked {B : Nat} (h : UnI w B1 B2 B3 B4 p L cap oldest k s A) (hb : Booked B A A') (hB : w.heap.size ≤ B) : UnI w B1 B2 B3 B4 p L cap oldest k s A' :=
  ⟨hb.heap h.o, hb.heap h.r, hb.heap h.f, hb.heap h.n, hb.heap h.bx, h.s.booked hb, hb.turned h.t hB⟩
theorem UnI.new (h : UnI w B1 B2 B3 B4 p L cap oldest k s A) (hb : Turned (fun _ => False) A A') : UnI w B1 B2 B3 B4 p L cap oldest k s A' :=
  ⟨hb.heap h.o (fun h => h), hb.heap h.r (fun h => h), hb.heap h.f (fun h => h), hb.heap h.n (fun h => h), hb.heap h.bx (fun h => h), h.s.turned hb (fun _ _ h => h), h.t.trans hb⟩
theorem UnI.found (h : UnI w B1 B2 B3 B4 p L cap oldest k s A) (hp : ∀ a, p = some a → a.block < w.heap.size) (h1 : w.heap.size < B1) (h2 : B1 < B2) (h3 : B2 < B3) (h4 : B3 < B4) (k' : Nat) (s' : Sp) :
    UnI w B1 B2 B3 B4 p L cap oldest k' s' (((A.setCell ⟨B3, 0, none⟩ (.int .i64 k')).setCell ⟨B2, 0, none⟩ (.int .u32 s'.page)).setCell ⟨B2, 1, none⟩ (.int .u64 s'.tx)) :=
  have ht3 : Turned (· = B3) A (A.setCell ⟨B3, 0, none⟩ (.int .i64 k')) := (Turned.refl (· = B3) A).setCell (p := ⟨B3, 0, none⟩) rfl _
  have ht2 : Turned (· = B2) (A.setCell ⟨B3, 0, none⟩ (.int .i64 k')) (((A.setCell ⟨B3, 0, none⟩ (.int .i64 k')).setCell ⟨B2, 0, none⟩ (.int .u32 s'.page)).setCell ⟨B2, 1, none⟩ (.int .u64 s'.tx)) :=
    ((Turned.refl (· = B2) _).setCell (p := ⟨B2, 0, none⟩) rfl _).setCell (p := ⟨B2, 1, none⟩) rfl _
  ⟨ht2.heap (ht3.heap h.o (by omega)) (by omega), ht2.heap (ht3.heap h.r (by omega)) (by omega), heap_setCell_at (heap_setCell_at (ht3.heap h.f (by omega)) 0 _) 1 _, ht2.heap (heap_setCell_at h.n 0 _) (by omega), ht2.heap (ht3.heap h.bx (by omega)) (by omega),
    (h.s.turned ht3 (fun a ha e => by have := hp a ha; omega)).turned ht2 (fun a ha e => by have := hp a ha; omega), (h.t.then ht3 (fun k hk e => by omega)).then ht2 (fun k hk e => by omega)⟩
end
theorem pack2 {w : World} {g : Nat} {a0 a1 : Value} {t : TypeId} (h : w.heap[g]? = some (.cells #[a0, a1] t (0, 0))) :
    (w.cell? ⟨g, 0, none⟩ = some a0 ∧ w.cell? ⟨g, 1, none⟩ = some a1) ∧ (w.frozen? ⟨g, 0, none⟩ = false ∧ w.frozen? ⟨g, 1, none⟩ = false) := by
  have h' : w.heap[g]? = some (.cells [a0, a1].toArray t (0, 0)) := h
  exact ⟨⟨cell_whole h' 0, cell_whole h' 1⟩, frozen_whole h _, frozen_whole h _⟩
/-- What is answered. -/
def unAt (oldest : Nat) (L : List Sp) : Nat := if firstAt (old oldest) L < L.length then firstAt (old oldest) L else 0
def unSp (oldest : Nat) (L : List Sp) : Sp := if firstAt (old oldest) L < L.length then L.getD (firstAt (old oldest) L) Sp.zero else Sp.zero

theorem results_spare2 {fn : Func} {p q : Tmp} {tmps : Array Value} {w : World} {g : Nat} {x0 x1 y : Value} (h : fn.results = #[.tmp q, .cell p 70]) (hp : tmps.getD p undef = .pointer (some ⟨g, 0, none⟩)) (hq : tmps.getD q undef = y) (hg : w.heap[g]? = some (.cells #[x0, x1] 70 (0, 0))) :
    (results fn tmps).run Tryz.prog w = .ok (.tuple #[y, .agg #[x0, x1]]) w := by
  have hp' : tmps[p]?.getD undef = .pointer (some ⟨g, 0, none⟩) := by simpa using hp
  have hq' : tmps[q]?.getD undef = y := by simpa using hq
  have c0 : w.cell? ⟨g, 0, none⟩ = some x0 := (pack2 hg).1.1
  have c1 : w.cell? ⟨g, 1, none⟩ = some x1 := (pack2 hg).1.2
  simp [results, h, go_sem, hp', hq', c0, c1]

set_option maxRecDepth 20000 in
set_option maxHeartbeats 2000000 in
theorem unread_of {w : World} {p : Option Addr} {L : List Sp} (h : Sps w p L) (hp : ∀ a, p = some a → a.block < w.heap.size) (cap oldest : Nat) (hl : L.length ≤ 100000) :
    Calls Tryz.prog 154 #[.slice p L.length cap, .int .u64 oldest] w fun e w' => e = .returned (.tuple #[.int .i64 (unAt oldest L), (unSp oldest L).v]) ∧ Below w.heap.size w w' := by
  refine calls_of_wp_marks Tryz.func154 rfl ?_
  simp only [Tryz.ntmps154, List.size_toArray, List.length_cons, List.length_nil, Nat.reduceAdd, Nat.reduceSub, Array.replicate_succ, Array.replicate_zero, List.push_toArray, List.append_toArray, List.nil_append, List.cons_append]
  have HH := Lib.hid h
  clear h
  go_wp2
  go_step3
  go_wp2
  go_step3
  go_wp2_with (go_at_call 42; refine (aeach_any _ _ _ _).mono ?_; rintro e w1 ⟨rfl, hw1⟩)
  obtain ⟨B1, e1⟩ : ∃ B1, w.heap.size + 1 = B1 := ⟨_, rfl⟩
  obtain ⟨B2, e2⟩ : ∃ B2, B1 + 1 = B2 := ⟨_, rfl⟩
  obtain ⟨B3, e3⟩ : ∃ B3, B2 + 1 = B3 := ⟨_, rfl⟩
  obtain ⟨B4, e4⟩ : ∃ B4, B3 + 1 = B4 := ⟨_, rfl⟩
  have hI : UnI w B1 B2 B3 B4 p L cap oldest 0 Sp.zero w1 := by
    rw [← hw1]
    refine ⟨?_, ?_, ?_, ?_, ?_, HH.out.turned ((((((Turned.refl (fun _ => False) w).alloc _).alloc _).alloc _).alloc _).alloc _) (fun _ _ h => h), (((((Turned.refl (fun _ => False) w).alloc _).alloc _).alloc _).alloc _).alloc _⟩
    all_goals
      simp only [heap_alloc_if, World.size_alloc]
      repeat (first | rw [if_neg (by omega)] | rw [if_pos (by first | trivial | omega)])
    all_goals rfl
  have hz1 : w1.heap.size = B4 + 1 := by rw [← hw1]; simp; omega
  have HW : Veil (w.heap.size < B1 ∧ B1 < B2 ∧ B2 < B3 ∧ B3 < B4) := ⟨by omega⟩
  have HZ : Veil (w1.heap.size = B4 + 1) := ⟨hz1⟩
  rw [e1, e2, e3, e4]
  clear hw1 e1 e2 e3 e4 hz1
  refine wp_range_break (gf := 60) (lb := #[.pointer (some ⟨B4, 0, none⟩)]) rfl (enters_of Tryz.func60 (by kernel_rfl) rfl)
    (aeach_seq B4 p L cap (by omega)) (fun k => rfl)
    (fun k A => UnI w B1 B2 B3 B4 p L cap oldest 0 Sp.zero A ∧ ∀ i, i < k → old oldest (L.getD i Sp.zero) = false)
    (fun A => UnI w B1 B2 B3 B4 p L cap oldest (unAt oldest L) (unSp oldest L) A) ?hI ?hE ?hF ?h0 ?hN ?hround ?hend
  case hI => rintro k A A' ⟨h1, h3⟩ hb; exact ⟨h1.booked hb (by have := HW.out; have := HZ.out; omega), h3⟩
  case hE => rintro A A' h1 hb; exact h1.booked hb (by have := HW.out; have := HZ.out; omega)
  case hF => rintro k A ⟨h, _⟩; exact ⟨cell_row1 h.bx, h.s⟩
  case h0 => exact ⟨hI, fun i hi => absurd hi (by omega)⟩
  case hN =>
    rintro A ⟨h1, h3⟩
    have := firstAt_none h3
    rw [unAt, unSp, if_neg (by omega), if_neg (by omega)]
    exact h1
  case hround =>
    rintro l m k A hl2 hlt ⟨hi, hr⟩
    simp only [handsA, List.zip_cons_cons, List.zip_nil_right, List.foldl_cons, List.foldl_nil, List.setIfInBounds_toArray, List.set_cons_succ, List.set_cons_zero]
    have HR : Veil _ := ⟨hr⟩
    have HK : Veil (old oldest (L.getD k Sp.zero) = true → unAt oldest L = k ∧ unSp oldest L = L.getD k Sp.zero) := ⟨fun ht => by
      have := firstAt_of hlt ht hr
      rw [unAt, unSp, this, if_pos hlt, if_pos hlt]
      exact ⟨rfl, rfl⟩⟩
    have HBA : Veil (B4 < A.heap.size) := ⟨lt_of_heap hi.bx⟩
    clear hI hr
    have HKF : Veil (old oldest (L.getD k Sp.zero) = false → ∀ i, i < k + 1 → old oldest (L.getD i Sp.zero) = false) := ⟨fun hf i hi => by
      rcases Nat.lt_or_eq_of_le (Nat.le_of_lt_succ hi) with h | h
      · exact HR.out i h
      · rw [h]; exact hf⟩
    revert HK HKF
    generalize L.getD k Sp.zero = s
    obtain ⟨pg, tx⟩ := s
    intro HK HKF
    gi_wp2
    have hT1 : Turned (fun _ => False) A (A.alloc (.cells #[.int .u32 pg, .int .u64 tx] 70)) := (Turned.refl _ A).alloc _
    refine ⟨keepsFrom_new hT1, fun A2 hbk hsz => ?_⟩
    have hi2 := (hi.new hT1).booked hbk (by have := HW.out; have := HZ.out; omega)
    have hs2 := hbk.heap (heap_alloc_new A (.cells #[.int .u32 pg, .int .u64 tx] 70))
    clear hi hT1 hbk
    have HI2 : Veil _ := ⟨hi2⟩
    have c0 := cell_row1 hi2.o
    obtain ⟨⟨c1, c2⟩, -⟩ := pack2 hs2
    have HS2 : Veil _ := ⟨hs2⟩
    clear hi2 hs2 hsz
    by_cases hge : tx ≤ oldest
    · have hgI : decide (tx ≤ oldest) = true := by simp [hge]
      have HP : Veil _ := ⟨HK.out (by simp [old, hge])⟩
      clear hge
      gi_wp2
      have q3 := cell_row1 HI2.out.n
      have g3 : A2.frozen? ⟨B3, 0, none⟩ = false := frozen_whole HI2.out.n _
      have hAb : A.heap.size ≠ B3 := by have := HW.out; have := HBA.out; omega
      have hAb' : B3 ≠ A.heap.size := fun e => hAb e.symm
      have h32 : B3 ≠ B2 := by have := HW.out; omega
      obtain ⟨W5, hW5⟩ : ∃ W5, A2.drew = W5 := ⟨_, rfl⟩
      have hS : W5.cell? ⟨A.heap.size, 0, none⟩ = some (.int .u32 pg) ∧ W5.cell? ⟨A.heap.size, 1, none⟩ = some (.int .u64 tx) := by rw [← hW5]; exact ⟨c1, c2⟩
      refine region_plan_in 3 [(true, 0), (true, 1), (false, 2)] (by kernel_rfl) (by kernel_rfl) (by rfl) (fun w' => w'.cell? ⟨A.heap.size, 0, none⟩ = some (.int .u32 pg) ∧ w'.cell? ⟨A.heap.size, 1, none⟩ = some (.int .u64 tx)) W5 hW5 hS ?_
      simp only [planOps, List.filterMap_cons, List.filterMap_nil, List.getElem?_toArray, List.getElem?_cons_zero, List.getElem?_cons_succ, Option.map_some]
      iterate 2 (refine plan_quiet rfl ?_ ?_ (fun K hK => ?_); rotate_left; (rintro w' ⟨s0, s1⟩; go_simp; rfl); (go_simp; refine hK _ ?_; clear hK K))
      have HSS : Veil _ := ⟨hS⟩
      have q5 : W5.cell? ⟨B3, 0, none⟩ = some (.int .i64 0) := by rw [← hW5]; exact q3
      have g5 : W5.frozen? ⟨B3, 0, none⟩ = false := by rw [← hW5]; exact g3
      have HT5 : Veil (Turned (fun _ => False) A2 W5) := ⟨by rw [← hW5]; exact (Turned.refl _ A2).drew⟩
      have HI5 : Veil _ := ⟨HI2.out.new HT5.out⟩
      obtain ⟨⟨r0, r1⟩, k0, k1⟩ := pack2 HI5.out.f
      clear hW5 hS q3 g3
      refine plan_change (fun K hK => ?_)
      go_wp2
      refine hK _ _ ⟨?_, ?_⟩ ?_
      · go_simp; exact HSS.out.1
      · go_simp; exact HSS.out.2
      clear hK K
      refine wpPlan_nil ?_
      simp only [List.drop_succ_cons, List.drop_zero]
      go_wp2
      refine only_normal ?_
      gi_wp2
      have hT : Turned (fun j => j = B2 ∨ j = B3) A2 (((W5.setCell ⟨B3, 0, none⟩ (.int .i64 k)).setCell ⟨B2, 0, none⟩ (.int .u32 pg)).setCell ⟨B2, 1, none⟩ (.int .u64 tx)) :=
        (((HT5.out.wider (F := fun j => j = B2 ∨ j = B3) (fun _ _ h => h.elim)).setCell (p := ⟨B3, 0, none⟩) (.inr rfl) _).setCell (p := ⟨B2, 0, none⟩) (.inl rfl) _).setCell (p := ⟨B2, 1, none⟩) (.inl rfl) _
      have hW := HW.out
      refine ⟨keepsFrom_turned hT (fun j hj => .inl (by have := HZ.out; omega)), rfl, ?_⟩
      rw [HP.out.1, HP.out.2]
      exact HI5.out.found hp hW.1 hW.2.1 hW.2.2.1 hW.2.2.2 k ⟨pg, tx⟩
    · have hgI : decide (tx ≤ oldest) = false := by simp [hge]
      have HP : Veil _ := ⟨HKF.out (by simp [old, hge])⟩
      clear hge
      gi_wp2
      exact ⟨KeepsFrom.refl _ _, HI2.out, HP.out⟩
  case hend =>
    rintro Dd A hDd h1 hdd
    have HI : Veil _ := ⟨h1⟩
    have HD : Veil _ := ⟨hdd⟩
    obtain ⟨a, ha⟩ : ∃ a, unAt oldest L = a := ⟨_, rfl⟩
    obtain ⟨s, hs⟩ : ∃ s, unSp oldest L = s := ⟨_, rfl⟩
    rw [ha, hs] at h1 HI
    have HA : Veil _ := ⟨ha⟩
    have HSP : Veil _ := ⟨hs⟩
    clear ha hs
    obtain ⟨pg, tx⟩ := s
    have c1 := cell_row1 h1.n
    have hc : A.cell? ⟨B2, 0, none⟩ = some (.int .u32 pg) ∧ A.cell? ⟨B2, 1, none⟩ = some (.int .u64 tx) := (pack2 h1.f).1
    obtain ⟨c2, c3⟩ := hc
    obtain ⟨⟨r0, r1⟩, k0, k1⟩ := pack2 h1.r
    clear h1 hdd hI
    obtain ⟨W5, hW5⟩ : ∃ W5, A.drew = W5 := ⟨_, rfl⟩
    go_wp2
    refine region_tail 3 (by kernel_rfl) (by kernel_rfl) W5 hW5 ?_
    have hq : W5.cell? ⟨B3, 0, none⟩ = some (.int .i64 a) ∧ W5.cell? ⟨B2, 0, none⟩ = some (.int .u32 pg) ∧ W5.cell? ⟨B2, 1, none⟩ = some (.int .u64 tx) ∧ W5.cell? ⟨B1, 0, none⟩ = some (.int .u32 0) ∧ W5.cell? ⟨B1, 1, none⟩ = some (.int .u64 0) ∧ W5.frozen? ⟨B1, 0, none⟩ = false ∧ W5.frozen? ⟨B1, 1, none⟩ = false := by rw [← hW5]; exact ⟨c1, c2, c3, r0, r1, k0, k1⟩
    have HT5 : Veil (Turned (fun _ => False) A W5) := ⟨by rw [← hW5]; exact (Turned.refl _ A).drew⟩
    clear c1 c2 c3 r0 r1 k0 k1 hW5
    obtain ⟨c1, c2, c3, r0, r1, k0, k1⟩ := hq
    simp only [List.take_succ_cons, List.take_zero, List.drop_succ_cons, List.drop_zero]
    iterate 3 still_step
    refine wpStill_nil ?_
    go_wp2
    refine only_normal ?_
    go_wp2
    try rw [Exit.noGoto_ret]
    have hT : Turned (· = B1) A ((W5.setCell ⟨B1, 0, none⟩ (.int .u32 pg)).setCell ⟨B1, 1, none⟩ (.int .u64 tx)) := (((HT5.out.wider (F := (· = B1)) (fun _ _ h => h.elim)).setCell (p := ⟨B1, 0, none⟩) rfl _).setCell (p := ⟨B1, 1, none⟩) rfl _)
    have hdd : ((W5.setCell ⟨B1, 0, none⟩ (.int .u32 pg)).setCell ⟨B1, 1, none⟩ (.int .u64 tx)).heap[Dd]? = some (.deferred (some [])) := hT.heap HD.out (by have := HW.out; have := HZ.out; omega)
    have hr := heap_setCell_at (heap_setCell_at ((HT5.out.heap HI.out.r (fun h => h))) 0 (.int .u32 pg)) 1 (.int .u64 tx)
    refine leaves_mark (D := Dd) (B := w.heap.size) hdd (by have := HW.out; have := HZ.out; omega) ?_
    intro w' hb _
    refine leaves_none (results_spare2 (g := B1) (y := .int .i64 a) rfl rfl rfl (hb.heap hr)) ⟨by rw [HA.out, HSP.out]; rfl, ?_⟩
    exact (hb.turned (HI.out.t.then hT (fun k hk e => by have := HW.out; omega)) (Nat.le_refl _)).toBelow (Nat.le_refl _) (fun _ _ h => h.elim)
end Go.Proofs.YtokbmimbbeedcaaGreatDoor

/- The walk of Right of an alloc. -/
namespace Go.Proofs.YtokbmimbbeedcaaGreatDoor
open Go Go.RowKit Sm
attribute [local go_sem] Oper.semAt_some

def Al.v (a : Al) (p : Option Addr) (c : Nat) : Value := .agg #[.int .u32 a.high, .int .u32 a.most, .slice p a.l.length c]
/-- Between two rounds: the boxes of the alloc, of the answer, of the least page, of the list. -/
structure RiI (w : World) (B1 B2 B3 : Nat) (hi mo : Nat) (p : Option Addr) (L : List Sp) (c least : Nat) (A : World) : Prop where
  a : A.heap[w.heap.size]? = some (.cells #[.int .u32 hi, .int .u32 mo, .slice p L.length c] 34 (0, 0))
  r : A.heap[B1]? = some (.cells #[.bool false] 4 (0, 0))
  n : A.heap[B2]? = some (.cells #[.int .u32 least] 23 (0, 0))
  bx : A.heap[B3]? = some (.cells #[.slice p L.length c] 32 (0, 0))
  s : Sps A p L
  t : Turned (fun _ => False) w A
section
variable {w : World} {B1 B2 B3 hi mo : Nat} {p : Option Addr} {L : List Sp} {c least : Nat} {A A' : World}
theorem RiI.booked {B : Nat} (h : RiI w B1 B2 B3 hi mo p L c least A) (hb : Booked B A A') (hB : w.heap.size ≤ B) : RiI w B1 B2 B3 hi mo p L c least A' :=
  ⟨hb.heap h.a, hb.heap h.r, hb.heap h.n, hb.heap h.bx, h.s.booked hb, hb.turned h.t hB⟩
theorem RiI.new (h : RiI w B1 B2 B3 hi mo p L c least A) (hb : Turned (fun _ => False) A A') : RiI w B1 B2 B3 hi mo p L c least A' :=
  ⟨hb.heap h.a (fun h => h), hb.heap h.r (fun h => h), hb.heap h.n (fun h => h), hb.heap h.bx (fun h => h), h.s.turned hb (fun _ _ h => h), h.t.trans hb⟩
theorem RiI.more (h : RiI w B1 B2 B3 hi mo p L c least A) (hp : ∀ a, p = some a → a.block < w.heap.size) (h1 : w.heap.size < B1) (h2 : B1 < B2) (h3 : B2 < B3) (k' : Nat) : RiI w B1 B2 B3 hi mo p L c k' (A.setCell ⟨B2, 0, none⟩ (.int .u32 k')) :=
  have ht : Turned (· = B2) A (A.setCell ⟨B2, 0, none⟩ (.int .u32 k')) := (Turned.refl (· = B2) A).setCell (p := ⟨B2, 0, none⟩) rfl _
  ⟨ht.heap h.a (by omega), ht.heap h.r (by omega), heap_setCell_at h.n 0 _, ht.heap h.bx (by omega), h.s.turned ht (fun a ha e => by have := hp a ha; omega), h.t.then ht (fun k hk e => by omega)⟩
end
theorem pack3 {w : World} {g : Nat} {a0 a1 a2 : Value} {t : TypeId} (h : w.heap[g]? = some (.cells #[a0, a1, a2] t (0, 0))) :
    (w.cell? ⟨g, 0, none⟩ = some a0 ∧ w.cell? ⟨g, 1, none⟩ = some a1 ∧ w.cell? ⟨g, 2, none⟩ = some a2) ∧ (w.frozen? ⟨g, 0, none⟩ = false ∧ w.frozen? ⟨g, 1, none⟩ = false ∧ w.frozen? ⟨g, 2, none⟩ = false) := by
  have h' : w.heap[g]? = some (.cells [a0, a1, a2].toArray t (0, 0)) := h
  exact ⟨⟨cell_whole h' 0, cell_whole h' 1, cell_whole h' 2⟩, frozen_whole h _, frozen_whole h _, frozen_whole h _⟩
theorem drop_at {L : List Sp} {k : Nat} (h : k < L.length) : L.drop k = L.getD k Sp.zero :: L.drop (k + 1) := by
  rw [List.drop_eq_getElem_cons h]
  simp [List.getD, h]

theorem results_bool {fn : Func} {p : Tmp} {tmps : Array Value} {w : World} {g : Nat} {x : Value} (h : fn.results = #[.cell p 4]) (hp : tmps.getD p undef = .pointer (some ⟨g, 0, none⟩)) (hg : w.heap[g]? = some (.cells #[x] 4 (0, 0))) :
    (results fn tmps).run Tryz.prog w = .ok x w := by
  have hp' : tmps[p]?.getD undef = .pointer (some ⟨g, 0, none⟩) := by simpa using hp
  have c0 := cell_row1 hg
  simp [results, h, go_sem, hp', c0]

set_option maxRecDepth 20000 in
set_option maxHeartbeats 2000000 in
theorem aright_of {w : World} {p : Option Addr} {a : Al} (h : Sps w p a.l) (hp : ∀ b, p = some b → b.block < w.heap.size) (c : Nat) (hok : Veil a.Ok) :
    Calls Tryz.prog 25 #[a.v p c] w fun e w' => e = .returned (.bool a.right) ∧ Below w.heap.size w w' := by
  refine calls_of_wp_marks Tryz.func25 rfl ?_
  simp only [Tryz.ntmps25, List.size_toArray, List.length_cons, List.length_nil, Nat.reduceAdd, Nat.reduceSub, Array.replicate_succ, Array.replicate_zero, List.push_toArray, List.append_toArray, List.nil_append, List.cons_append]
  have HRI : Veil _ := ⟨a.right_iff⟩
  obtain ⟨r, hr⟩ : ∃ r, a.right = r := ⟨_, rfl⟩
  rw [hr] at HRI ⊢
  clear hr
  obtain ⟨hi, mo, L⟩ := a
  unfold Al.v
  dsimp only at *
  have HH := Lib.hid h
  have hl : L.length ≤ 100000 := hok.out.few
  clear h
  by_cases h1 : hi < 2
  · obtain rfl : r = false := by cases r with | false => rfl | true => have := (HRI.out.1 rfl).1.1; omega
    go_wp2
    exact leaves_none (results_bool (g := w.heap.size + 1) rfl rfl (heap_alloc2_new _ _ _)) ⟨rfl, below_al (below_al (Below.refl _ _) _) _⟩
  by_cases h2 : mo < hi
  · obtain rfl : r = false := by cases r with | false => rfl | true => have := (HRI.out.1 rfl).1.2.1; omega
    go_wp2
    exact leaves_none (results_bool (g := w.heap.size + 1) rfl rfl (heap_alloc2_new _ _ _)) ⟨rfl, below_al (below_al (Below.refl _ _) _) _⟩
  by_cases h3 : 16384 < mo
  · obtain rfl : r = false := by cases r with | false => rfl | true => have := (HRI.out.1 rfl).1.2.2.1; omega
    go_wp2
    exact leaves_none (results_bool (g := w.heap.size + 1) rfl rfl (heap_alloc2_new _ _ _)) ⟨rfl, below_al (below_al (Below.refl _ _) _) _⟩
  by_cases h4 : 4096 < L.length
  · obtain rfl : r = false := by cases r with | false => rfl | true => have := (HRI.out.1 rfl).1.2.2.2; omega
    go_wp2
    exact leaves_none (results_bool (g := w.heap.size + 1) rfl rfl (heap_alloc2_new _ _ _)) ⟨rfl, below_al (below_al (Below.refl _ _) _) _⟩
  go_wp2_with (go_at_call 42; refine (aeach_any _ _ _ _).mono ?_; rintro e w1 ⟨rfl, hw1⟩)
  obtain ⟨B1, e1⟩ : ∃ B1, w.heap.size + 1 = B1 := ⟨_, rfl⟩
  obtain ⟨B2, e2⟩ : ∃ B2, B1 + 1 = B2 := ⟨_, rfl⟩
  obtain ⟨B3, e3⟩ : ∃ B3, B2 + 1 = B3 := ⟨_, rfl⟩
  have hI : RiI w B1 B2 B3 hi mo p L c 2 w1 := by
    rw [← hw1]
    refine ⟨?_, ?_, ?_, ?_, HH.out.turned (((((Turned.refl (fun _ => False) w).alloc _).alloc _).alloc _).alloc _) (fun _ _ h => h), ((((Turned.refl (fun _ => False) w).alloc _).alloc _).alloc _).alloc _⟩
    all_goals
      simp only [heap_alloc_if, World.size_alloc]
      repeat (first | rw [if_neg (by omega)] | rw [if_pos (by first | trivial | omega)])
    all_goals rfl
  have hz1 : w1.heap.size = B3 + 1 := by rw [← hw1]; simp; omega
  have HW : Veil (w.heap.size < B1 ∧ B1 < B2 ∧ B2 < B3) := ⟨by omega⟩
  have HZ : Veil (w1.heap.size = B3 + 1) := ⟨hz1⟩
  rw [e1, e2, e3]
  clear hw1 e1 e2 e3 hz1
  have HS : Veil (2 ≤ hi ∧ hi ≤ mo ∧ mo ≤ 16384 ∧ L.length ≤ 4096) := ⟨by omega⟩
  refine wp_range_seq (gf := 60) (lb := #[.pointer (some ⟨B3, 0, none⟩)]) rfl (enters_of Tryz.func60 (by kernel_rfl) rfl)
    (aeach_seq B3 p L c (by omega)) (fun k => rfl)
    (fun k A => ∃ least, RiI w B1 B2 B3 hi mo p L c least A ∧ rising hi 2 L = rising hi least (L.drop k) ∧ least ≤ 100000)
    (fun cd k A => cd = .ret ∧ r = false ∧ A.heap[B1]? = some (.cells #[.bool false] 4 (0, 0)) ∧ Turned (fun _ => False) w A) ?hI ?hIx ?hF ?h0 ?hround ?hdone ?hstop
  case hI => rintro k A A' ⟨least, h1, h2⟩ hb; exact ⟨least, h1.booked hb (by have := HW.out; have := HZ.out; omega), h2⟩
  case hIx => rintro cd k A A' ⟨h1, h2, h3, h4⟩ hb; exact ⟨h1, h2, hb.heap h3, hb.turned h4 (by have := HW.out; have := HZ.out; omega)⟩
  case hF => rintro k A ⟨least, h, _⟩; exact ⟨cell_row1 h.bx, h.s⟩
  case h0 => exact ⟨2, hI, rfl, by omega⟩
  case hround =>
    rintro l m k A hl2 hlt ⟨least, hi1, hr, hle⟩
    simp only [handsA, List.zip_cons_cons, List.zip_nil_right, List.foldl_cons, List.foldl_nil, List.setIfInBounds_toArray, List.set_cons_succ, List.set_cons_zero]
    rw [drop_at hlt] at hr
    have HR : Veil _ := ⟨hr⟩
    clear hI hr
    revert HR
    generalize L.getD k Sp.zero = s
    obtain ⟨pg, tx⟩ := s
    intro HR
    gi_wp2
    have hT1 : Turned (fun _ => False) A (A.alloc (.cells #[.int .u32 pg, .int .u64 tx] 70)) := (Turned.refl _ A).alloc _
    refine ⟨keepsFrom_new hT1, fun A2 hbk hsz => ?_⟩
    have hi2 := (hi1.new hT1).booked hbk (by have := HW.out; have := HZ.out; omega)
    have hs2 := hbk.heap (heap_alloc_new A (.cells #[.int .u32 pg, .int .u64 tx] 70))
    clear hi1 hT1 hbk
    have HI2 : Veil _ := ⟨hi2⟩
    obtain ⟨⟨a0, a1, a2⟩, -⟩ := pack3 hi2.a
    have q1 := cell_row1 hi2.r
    have f1 : A2.frozen? ⟨B1, 0, none⟩ = false := frozen_whole hi2.r _
    have q2 := cell_row1 hi2.n
    have f2 : A2.frozen? ⟨B2, 0, none⟩ = false := frozen_whole hi2.n _
    obtain ⟨⟨c1, c2⟩, -⟩ := pack2 hs2
    clear hi2 hs2 hsz
    have stop : Veil (¬ (least ≤ pg ∧ pg < hi ∧ 1 ≤ tx) → r = false) := ⟨fun hn => by
      cases r with
      | false => rfl
      | true =>
        have := (HRI.out.1 rfl).2
        rw [HR.out] at this
        exact absurd ((rising_cons _ _ _ _).1 this).1 hn⟩
    have badEnd : r = false → KeepsFrom w1.heap.size A2 (A2.setCell ⟨B1, 0, none⟩ (.bool false)) ∧ r = false ∧ (A2.setCell ⟨B1, 0, none⟩ (.bool false)).heap[B1]? = some (.cells #[.bool false] 4 (0, 0)) ∧ Turned (fun _ => False) w (A2.setCell ⟨B1, 0, none⟩ (.bool false)) := fun hr => by
      have hT : Turned (· = B1) A2 (A2.setCell ⟨B1, 0, none⟩ (.bool false)) := (Turned.refl (· = B1) A2).setCell (p := ⟨B1, 0, none⟩) rfl _
      have hW := HW.out
      exact ⟨keepsFrom_turned hT (fun j hj => .inl (by have := HZ.out; omega)), hr, heap_setCell_at HI2.out.r 0 _, HI2.out.t.then hT (fun j hj e => by omega)⟩
    have HBE : Veil _ := ⟨badEnd⟩
    clear badEnd
    by_cases g1 : pg < least
    · have G1 : decide (pg < least) = true := by simp [g1]
      gi_wp2
      have hbe := HBE.out (stop.out (by omega))
      exact ⟨hbe.1, rfl, hbe.2⟩
    have G1 : decide (pg < least) = false := by simp [g1]
    by_cases g2 : hi ≤ pg
    · have G2 : decide (hi ≤ pg) = true := by simp [g2]
      gi_wp2
      have hbe := HBE.out (stop.out (by omega))
      exact ⟨hbe.1, rfl, hbe.2⟩
    have G2 : decide (hi ≤ pg) = false := by simp [g2]
    by_cases g3 : tx < 1
    · gi_wp2
      have hbe := HBE.out (stop.out (by omega))
      exact ⟨hbe.1, rfl, hbe.2⟩
    have HRR : Veil (rising hi 2 L = rising hi (pg + 1) (L.drop (k + 1))) := ⟨by
      rw [HR.out]
      simp only [rising]
      have e1 : least ≤ pg := by omega
      have e2 : pg < hi := by omega
      have e3 : 1 ≤ tx := by omega
      simp [e1, e2, e3]⟩
    have hpg : pg < 16384 := by have := HS.out; omega
    have hnw : ¬ (4294967295 : Int) < (pg : Int) + 1 := by omega
    gi_wp2
    have e : Value.int .u32 ((pg : Int) + 1) = .int .u32 ((pg + 1 : Nat) : Int) := by go_num
    rw [e]
    have hT := (Turned.refl (· = B2) A2).setCell (p := ⟨B2, 0, none⟩) rfl (.int .u32 ((pg + 1 : Nat) : Int))
    have hW := HW.out
    exact ⟨keepsFrom_turned hT (fun j hj => .inl (by have := HZ.out; omega)), pg + 1, HI2.out.more hp hW.1 hW.2.1 hW.2.2 (pg + 1), HRR.out, by omega⟩
  case hdone =>
    rintro Dd A hDd ⟨least, h1, hr, -⟩ hdd
    have HI : Veil _ := ⟨h1⟩
    have HD : Veil _ := ⟨hdd⟩
    obtain rfl : r = true := HRI.out.2 ⟨HS.out, by rw [hr, List.drop_length]; rfl⟩
    have q1 := cell_row1 h1.r
    have f1 : A.frozen? ⟨B1, 0, none⟩ = false := frozen_whole h1.r _
    clear h1 hdd hI hr
    go_wp2
    have hT : Turned (· = B1) A (A.setCell ⟨B1, 0, none⟩ (.bool true)) := (Turned.refl (· = B1) A).setCell (p := ⟨B1, 0, none⟩) rfl _
    refine leaves_mark (D := Dd) (B := w.heap.size) (hT.heap HD.out (by have := HW.out; have := HZ.out; omega)) (by have := HW.out; have := HZ.out; omega) ?_
    intro w' hb _
    refine leaves_none (results_bool (g := B1) rfl rfl (hb.heap (heap_setCell_at HI.out.r 0 (.bool true)))) ⟨rfl, ?_⟩
    exact (hb.turned (HI.out.t.then hT (fun k hk e => by have := HW.out; omega)) (Nat.le_refl _)).toBelow (Nat.le_refl _) (fun _ _ h => h.elim)
  case hstop =>
    rintro Dd cd k A hDd hlt ⟨rfl, rfl, h3, h4⟩ hdd
    clear hI
    go_wp2
    refine leaves_mark (D := Dd) (B := w.heap.size) hdd (by have := HW.out; have := HZ.out; omega) ?_
    intro w' hb _
    refine leaves_none (results_bool (g := B1) rfl rfl (hb.heap h3)) ⟨rfl, ?_⟩
    exact (hb.turned h4 (Nat.le_refl _)).toBelow (Nat.le_refl _) (fun _ _ h => h.elim)
end Go.Proofs.YtokbmimbbeedcaaGreatDoor

/- The walk of Take. -/
namespace Go.Proofs.YtokbmimbbeedcaaGreatDoor
open Go Go.RowKit Sm
attribute [local go_sem] Oper.semAt_some

/-- An alloc as it is handed over. -/
structure AlAt (w : World) (a : Al) (p : Option Addr) (c : Nat) : Prop where
  s : Sps w p a.l
  old : ∀ b, p = some b → b.block < w.heap.size ∧ b.spot = none
  len : a.l.length ≤ c
  few : c ≤ 1000000
  none : p = none → c = 0
  ok : a.Ok
theorem alb_then {w w1 w2 : World} (h : Below w.heap.size w w1) (k : Below w1.heap.size w1 w2) : Below w.heap.size w w2 := h.trans (k.mono h.size)
theorem AlAt.below {w w' : World} {a : Al} {p : Option Addr} {c : Nat} (h : AlAt w a p c) (hb : Below w.heap.size w w') : AlAt w' a p c :=
  ⟨h.s.below hb, fun b hp => ⟨Nat.lt_of_lt_of_le (h.old b hp).1 hb.size, (h.old b hp).2⟩, h.len, h.few, h.none, h.ok⟩
/-- What is answered: in new memory, or no list. -/
structure AlNew (w : World) (B : Nat) (a : Al) (p : Option Addr) (c : Nat) : Prop where
  f : Fresh w B p a.l
  c : c = a.l.length
  ok : a.Ok
theorem AlNew.at' {w : World} {B : Nat} {a : Al} {p : Option Addr} {c : Nat} (h : AlNew w B a p c) : AlAt w a p c := by
  refine ⟨h.f.sps, ?_, by rw [h.c]; exact Nat.le_refl _, by rw [h.c]; have := h.ok.few; omega, ?_, h.ok⟩
  · intro b hb
    rcases h.f with ⟨-, h⟩ | ⟨g, -, h, hg⟩
    · rw [h] at hb; cases hb
    · rw [h] at hb; cases hb; exact ⟨lt_of_heap hg, rfl⟩
  · intro e
    rcases h.f with ⟨h0, -⟩ | ⟨g, -, h0, hg⟩
    · rw [h.c, h0]; rfl
    · rw [h0] at e; cases e
theorem AlNew.below {w w' : World} {B : Nat} {a : Al} {p : Option Addr} {c : Nat} (h : AlNew w B a p c) (hb : Below w.heap.size w w') : AlNew w' B a p c := ⟨h.f.below hb, h.c, h.ok⟩
theorem AlNew.zero (w : World) (B : Nat) : AlNew w B Al.zero none 0 := ⟨.inl ⟨rfl, rfl⟩, rfl, Al.zero_ok⟩

def Ls.v (x : Ls) : Value := .slice x.p x.l.length x.c
/-- joined of lists that were just listed. -/
theorem joined_new {w : World} (ls : List Ls) (hs : ∀ x ∈ ls, Sps w x.p x.l) (h10 : ls.length ≤ 10) (hl : (flat ls ls.length).length ≤ 1000000) (W : World) (hW : Below w.heap.size w W) (g n : Nat) (cs : Array Value) (hg : g = W.heap.size) (hn : n = ls.length) (hcs : cs = (ls.map Ls.v).toArray) :
    Calls Tryz.prog 130 #[.slice (some ⟨g, 0, none⟩) n n] (W.alloc (.cells cs 32)) fun e w' => ∃ G, e = .returned (.slice (some ⟨G, 0, none⟩) (flat ls ls.length).length (flat ls ls.length).length) ∧ Veil (w.heap.size ≤ G ∧ w'.heap[G]? = some (.cells (spCells (flat ls ls.length)).toArray 70 (0, 0))) ∧ Below W.heap.size W w' := by
  subst hg hn hcs
  have hb1 : Below W.heap.size W (W.alloc (.cells (ls.map Ls.v).toArray 32)) := below_al (Below.refl _ _) _
  refine (joined_any W.heap.size ls.length ls _ (fun i hi => ?_) (by simp) h10 hl).mono ?_
  · have hb : (W.alloc (.cells (ls.map Ls.v).toArray 32)).heap[W.heap.size]? = some (.cells (ls.map Ls.v).toArray 32 (0, 0)) := heap_alloc_new _ _
    have hm : ls.getD i Ls.zero ∈ ls := by rw [List.getD, List.getElem?_eq_getElem hi]; exact List.getElem_mem ..
    refine ⟨?_, ((hs _ hm).below hW).below hb1⟩
    rw [cell_whole hb]
    simp [List.getD, hi, Ls.v]
  · rintro e w' ⟨G, he, ⟨h1, h2⟩, h3⟩
    refine ⟨G, he, ⟨?_, h2⟩, hb1.trans (h3.mono hb1.size)⟩
    have := hW.size
    have := hb1.size
    omega

theorem set3 {w : World} {g : Nat} {a0 a1 a2 : Value} {t : TypeId} (h : w.heap[g]? = some (.cells #[a0, a1, a2] t (0, 0))) (v0 v1 v2 : Value) :
    (((w.setCell ⟨g, 0, none⟩ v0).setCell ⟨g, 1, none⟩ v1).setCell ⟨g, 2, none⟩ v2).heap[g]? = some (.cells #[v0, v1, v2] t (0, 0)) :=
  heap_setCell_at (heap_setCell_at (heap_setCell_at h 0 v0) 1 v1) 2 v2
theorem size_alloc : (Tryz.prog.info? 34).map (·.size) = some 3 := by kernel_rfl
theorem results_alloc3 {fn : Func} {p q r : Tmp} {tmps : Array Value} {w : World} {g : Nat} {x0 x1 x2 y z : Value} (h : fn.results = #[.cell p 34, .tmp q, .tmp r]) (hp : tmps.getD p undef = .pointer (some ⟨g, 0, none⟩)) (hq : tmps.getD q undef = y) (hr : tmps.getD r undef = z) (hg : w.heap[g]? = some (.cells #[x0, x1, x2] 34 (0, 0))) :
    (results fn tmps).run Tryz.prog w = .ok (.tuple #[.agg #[x0, x1, x2], y, z]) w := by
  have hp' : tmps[p]?.getD undef = .pointer (some ⟨g, 0, none⟩) := by simpa using hp
  have hq' : tmps[q]?.getD undef = y := by simpa using hq
  have hr' : tmps[r]?.getD undef = z := by simpa using hr
  obtain ⟨⟨c0, c1, c2⟩, -⟩ := pack3 hg
  simp [results, h, go_sem, hp', hq', hr', c0, c1, c2]

/-- What Take leaves. -/
def TakePost (w : World) (t : Tk) (e : Ending) (w' : World) : Prop := ∃ p' c', e = .returned (.tuple #[t.a.v p' c', .int .u32 t.page, .int .i64 t.err]) ∧ AlNew w' w.heap.size t.a p' c' ∧ Below w.heap.size w w'

set_option maxRecDepth 20000 in
set_option maxHeartbeats 2000000 in
theorem take_bad {w : World} {a : Al} {p : Option Addr} {c : Nat} (h : AlAt w a p c) (oldest : Nat) (hr : a.right = false) :
    Calls Tryz.prog 138 #[a.v p c, .int .u64 oldest] w (TakePost w (a.take oldest)) := by
  have e : a.take oldest = ⟨Al.zero, 0, 50⟩ := by simp [Al.take, hr]
  rw [e]
  have HR : Veil (∀ W, Below w.heap.size w W → Calls Tryz.prog 25 #[a.v p c] W fun e w' => e = .returned (.bool false) ∧ Below W.heap.size W w') := ⟨fun W hW => by
    have := aright_of (h.below hW).s (fun b hb => ((h.below hW).old b hb).1) c ⟨h.ok⟩
    rwa [hr] at this⟩
  clear e hr h
  obtain ⟨hi, mo, L⟩ := a
  unfold Al.v at *
  dsimp only at *
  go_enter Tryz.func138, Tryz.ntmps138
  go_wp2_with (go_at_call 25; refine (HR.out _ (below_al (below_al (Below.refl _ _) _) _)).mono ?_; rintro e w2 ⟨rfl, hb2⟩; obtain ⟨⟨z0, z1, z2⟩, g0, g1, g2⟩ := pack3 ((hb2.block (w.heap.size + 1) (by simp)).trans (heap_alloc2_new _ _ _)))
  have hT : Turned (fun _ => False) w (((w2.setCell ⟨w.heap.size + 1, 0, none⟩ (.int .u32 0)).setCell ⟨w.heap.size + 1, 1, none⟩ (.int .u32 0)).setCell ⟨w.heap.size + 1, 2, none⟩ (.slice none 0 0)) :=
    (((((Turned.refl (fun _ => False) w).alloc _).alloc _).trans (Turned.new hb2)).setNew (p := ⟨w.heap.size + 1, 0, none⟩) (by simp) _ |>.setNew (p := ⟨w.heap.size + 1, 1, none⟩) (by simp) _ |>.setNew (p := ⟨w.heap.size + 1, 2, none⟩) (by simp) _)
  refine bodyPost_ret (results_alloc3 (g := w.heap.size + 1) (y := .int .u32 0) (z := .int .i64 50) rfl rfl rfl rfl (set3 ((hb2.block (w.heap.size + 1) (by simp)).trans (heap_alloc2_new _ _ _)) _ _ _)) rfl ⟨none, 0, rfl, AlNew.zero _ _, hT.toBelow (Nat.le_refl _) (fun _ _ h => h.elim)⟩

theorem take_right_of {w : World} {a : Al} {p : Option Addr} {c : Nat} (h : AlAt w a p c) (hr : a.right = true) : Veil (∀ W, Below w.heap.size w W → Calls Tryz.prog 25 #[a.v p c] W fun e w' => e = .returned (.bool true) ∧ Below W.heap.size W w') := ⟨fun W hW => by
    have := aright_of (h.below hW).s (fun b hb => ((h.below hW).old b hb).1) c ⟨h.ok⟩
    rwa [hr] at this⟩
theorem take_unread_of {w : World} {a : Al} {p : Option Addr} {c : Nat} (h : AlAt w a p c) (oldest : Nat) : Veil (∀ W, Below w.heap.size w W → Calls Tryz.prog 154 #[.slice p a.l.length c, .int .u64 oldest] W fun e w' => e = .returned (.tuple #[.int .i64 (unAt oldest a.l), (unSp oldest a.l).v]) ∧ Below W.heap.size W w') :=
  ⟨fun _ hW => unread_of (h.below hW).s (fun b hb => ((h.below hW).old b hb).1) c oldest h.ok.few⟩
theorem take_join_of {w : World} {a : Al} {p : Option Addr} {c : Nat} (h : AlAt w a p c) : Veil (∀ W g, g = W.heap.size → Below w.heap.size w W → Calls Tryz.prog 130 #[.slice (some ⟨g, 0, none⟩) 1 1] (W.alloc (.cells #[.slice p a.l.length c] 32)) fun e w' => ∃ G, e = .returned (.slice (some ⟨G, 0, none⟩) a.l.length a.l.length) ∧ Veil (w.heap.size ≤ G ∧ w'.heap[G]? = some (.cells (spCells a.l).toArray 70 (0, 0))) ∧ Below W.heap.size W w') :=
  ⟨fun W g hg hW => by
    have e : flat [⟨p, c, a.l⟩] 1 = a.l := by simp [flat]
    have := joined_new [⟨p, c, a.l⟩] (fun x hx => by rw [List.mem_singleton.1 hx]; exact h.s) (by simp) (by simp only [List.length_cons, List.length_nil, Nat.zero_add]; rw [e]; have := h.ok.few; omega) W hW g 1 #[.slice p a.l.length c] hg rfl rfl
    simp only [List.length_cons, List.length_nil, Nat.zero_add] at this
    rwa [e] at this⟩

theorem take_end {w w4 w5 : World} {a : Al} {G : Nat} {c0 c1 : Array Value} (hX : Below w.heap.size w w4) (hT : Turned (fun j => j = w.heap.size ∨ j = w.heap.size + 1) w4 w5) (hG : w.heap.size ≤ G ∧ w4.heap[G]? = some (.cells (spCells a.l).toArray 70 (0, 0)))
    (h0 : w4.heap[w.heap.size]? = some (.cells c0 34 (0, 0))) (h1 : w4.heap[w.heap.size + 1]? = some (.cells c1 34 (0, 0))) (hok : a.Ok) : AlNew w5 w.heap.size a (some ⟨G, 0, none⟩) a.l.length ∧ Below w.heap.size w w5 := by
  refine ⟨⟨.inr ⟨G, hG.1, rfl, hT.heap hG.2 ?_⟩, rfl, hok⟩, hX.trans (hT.toBelow hX.size (fun j _ h => by omega))⟩
  rintro (rfl | rfl)
  · rw [h0] at hG; simp at hG
  · rw [h1] at hG; simp at hG
theorem turn_two {w4 : World} {B : Nat} (v0 v1 v2 v3 v4 : Value) : Turned (fun j => j = B ∨ j = B + 1) w4 (((((w4.setCell ⟨B, 2, none⟩ v0).setCell ⟨B, 0, none⟩ v1).setCell ⟨B + 1, 0, none⟩ v2).setCell ⟨B + 1, 1, none⟩ v3).setCell ⟨B + 1, 2, none⟩ v4) :=
  (((((Turned.refl _ w4).setCell (p := ⟨B, 2, none⟩) (.inl rfl) v0).setCell (p := ⟨B, 0, none⟩) (.inl rfl) v1).setCell (p := ⟨B + 1, 0, none⟩) (.inr rfl) v2).setCell (p := ⟨B + 1, 1, none⟩) (.inr rfl) v3).setCell (p := ⟨B + 1, 2, none⟩) (.inr rfl) v4
theorem turn_one {w4 : World} {B : Nat} (v0 v2 v3 v4 : Value) : Turned (fun j => j = B ∨ j = B + 1) w4 ((((w4.setCell ⟨B, 2, none⟩ v0).setCell ⟨B + 1, 0, none⟩ v2).setCell ⟨B + 1, 1, none⟩ v3).setCell ⟨B + 1, 2, none⟩ v4) :=
  ((((Turned.refl _ w4).setCell (p := ⟨B, 2, none⟩) (.inl rfl) v0).setCell (p := ⟨B + 1, 0, none⟩) (.inr rfl) v2).setCell (p := ⟨B + 1, 1, none⟩) (.inr rfl) v3).setCell (p := ⟨B + 1, 2, none⟩) (.inr rfl) v4
theorem set_ne {w : World} {b g : Nat} {o : Obj} (h : w.heap[g]? = some o) (hn : g ≠ b) (k : Nat) (v : Value) : (w.setCell ⟨b, k, none⟩ v).heap[g]? = some o := by
  rw [Below.heap_setCell _ _ _ _ hn]; exact h

set_option maxRecDepth 20000 in
set_option maxHeartbeats 2000000 in
theorem atake_none {w : World} {a : Al} {p : Option Addr} {c : Nat} (h : AlAt w a p c) (oldest : Nat) (hr : a.right = true) (hf : ¬ firstAt (old oldest) a.l < a.l.length) :
    Calls Tryz.prog 138 #[a.v p c, .int .u64 oldest] w (TakePost w (a.take oldest)) := by
  have HT : Veil (a.take oldest = if a.high = a.most then ⟨a, 0, 51⟩ else ⟨⟨a.high + 1, a.most, a.l⟩, a.high, 0⟩) := ⟨by simp [Al.take, hr, hf]⟩
  have HOK : Veil _ := ⟨h.ok⟩
  have hm : a.most ≤ 16384 := ((Al.right_iff a).1 hr).1.2.2.1
  have hm2 : a.high ≤ a.most := ((Al.right_iff a).1 hr).1.2.1
  have HR := take_right_of h hr
  have HU := take_unread_of h oldest
  have HJ := take_join_of h
  rw [show unAt oldest a.l = 0 by simp [unAt, hf], show unSp oldest a.l = Sp.zero by simp [unSp, hf]] at HU
  have HTO : Veil (Tk.a (a.take oldest) = ⟨(a.take oldest).a.high, a.most, a.l⟩ ∧ (a.take oldest).a.Ok) := ⟨by rw [HT.out]; split <;> rfl, (Al.take_ok HOK.out oldest).1⟩
  revert HT HTO
  generalize a.take oldest = T
  intro HT HTO
  clear h hr hf HOK
  obtain ⟨hi, mo, L⟩ := a
  unfold Al.v Sp.v at *
  dsimp only [Sp.zero] at *
  by_cases hfull : hi = mo
  · subst hfull
    have HTT : Veil (T = ⟨⟨hi, hi, L⟩, 0, 51⟩) := ⟨by have h2 := HT.out; rwa [if_pos rfl] at h2⟩
    clear HT
    clear hm hm2
    go_enter Tryz.func138, Tryz.ntmps138
    go_wp2_with (first
      | (go_at_call 154; refine (HU.out _ HX2.out).mono ?_; rintro e w3 ⟨rfl, hb3⟩; have HX3 : Veil (Below w.heap.size w w3) := ⟨alb_then HX2.out hb3⟩; have HB3 : Veil _ := ⟨(hb3.block w.heap.size (lt_of_heap HB2.out)).trans HB2.out⟩; have HC3 : Veil _ := ⟨(hb3.block (w.heap.size + 1) (lt_of_heap HC2.out)).trans HC2.out⟩; obtain ⟨⟨r0, r1, r2⟩, f0, f1, f2⟩ := pack3 HB3.out; have hz3 : w.heap.size < w3.heap.size := lt_of_heap HB3.out; clear hb3)
      | (go_at_call 25; refine (HR.out _ (below_al (below_al (Below.refl _ _) _) _)).mono ?_; rintro e w2 ⟨rfl, hb2⟩; have HX2 : Veil (Below w.heap.size w w2) := ⟨alb_then (below_al (below_al (Below.refl _ _) _) _) hb2⟩; have HB2 : Veil _ := ⟨(hb2.block w.heap.size (by simp only [World.size_alloc]; omega)).trans (heap_alloc2_old _ _ _)⟩; have HC2 : Veil _ := ⟨(hb2.block (w.heap.size + 1) (by simp)).trans (heap_alloc2_new _ _ _)⟩; obtain ⟨⟨q0, q1, q2⟩, -⟩ := pack3 HB2.out; clear hb2))
    go_at_call 130
    refine (HJ.out (w3.alloc (.cells #[.int .u32 0, .int .u64 0] 70)) _ (by simp) (below_al HX3.out _)).mono ?_
    rintro e w4 ⟨G, rfl, HG, hb4⟩
    have HX4 : Veil (Below w.heap.size w w4) := ⟨alb_then (below_al HX3.out _) hb4⟩
    have HB4 : Veil _ := ⟨(hb4.block w.heap.size (by have := lt_of_heap HB3.out; simp only [World.size_alloc]; omega)).trans ((Below.heap_alloc _ _ _ (lt_of_heap HB3.out)).trans HB3.out)⟩
    have HC4 : Veil _ := ⟨(hb4.block (w.heap.size + 1) (by have := lt_of_heap HC3.out; simp only [World.size_alloc]; omega)).trans ((Below.heap_alloc _ _ _ (lt_of_heap HC3.out)).trans HC3.out)⟩
    obtain ⟨⟨s0, s1, s2⟩, k0, k1, k2⟩ := pack3 HB4.out
    obtain ⟨⟨z0, z1, z2⟩, g0, g1, g2⟩ := pack3 HC4.out
    clear hb4
    go_wp2
    have e := take_end (a := ⟨hi, hi, L⟩) HX4.out (turn_one (.slice (some ⟨G, 0, none⟩) L.length L.length) (.int .u32 hi) (.int .u32 hi) (.slice (some ⟨G, 0, none⟩) L.length L.length)) HG.out HB4.out HC4.out (by have h1 := HTO.out.2; rw [HTT.out] at h1; exact h1)
    refine bodyPost_ret (results_alloc3 (g := w.heap.size + 1) (y := .int .u32 0) (z := .int .i64 51) rfl rfl rfl rfl (set3 (set_ne HC4.out (by omega) _ _) _ _ _)) rfl ⟨some ⟨G, 0, none⟩, L.length, ?_, ?_, e.2⟩
    · rw [HTT.out]; rfl
    · rw [HTT.out]; exact e.1
  · have hne : ((hi : Int) == (mo : Int)) = false := by simpa using fun e => hfull (by omega)
    have HTT : Veil (T = ⟨⟨hi + 1, mo, L⟩, hi, 0⟩) := ⟨by have h2 := HT.out; rwa [if_neg hfull] at h2⟩
    clear hfull HT
    have HM : Veil (mo ≤ 16384 ∧ hi ≤ mo) := ⟨hm, hm2⟩
    have hw1 : IntKind.u32.wrap ((hi : Int) + 1) = (hi : Int) + 1 := by rw [IntKind.wrap_u32']; omega
    clear hm hm2
    go_enter Tryz.func138, Tryz.ntmps138
    go_wp2_with (first
      | (go_at_call 154; refine (HU.out _ HX2.out).mono ?_; rintro e w3 ⟨rfl, hb3⟩; have HX3 : Veil (Below w.heap.size w w3) := ⟨alb_then HX2.out hb3⟩; have HB3 : Veil _ := ⟨(hb3.block w.heap.size (lt_of_heap HB2.out)).trans HB2.out⟩; have HC3 : Veil _ := ⟨(hb3.block (w.heap.size + 1) (lt_of_heap HC2.out)).trans HC2.out⟩; obtain ⟨⟨r0, r1, r2⟩, f0, f1, f2⟩ := pack3 HB3.out; have hz3 : w.heap.size < w3.heap.size := lt_of_heap HB3.out; clear hb3)
      | (go_at_call 25; refine (HR.out _ (below_al (below_al (Below.refl _ _) _) _)).mono ?_; rintro e w2 ⟨rfl, hb2⟩; have HX2 : Veil (Below w.heap.size w w2) := ⟨alb_then (below_al (below_al (Below.refl _ _) _) _) hb2⟩; have HB2 : Veil _ := ⟨(hb2.block w.heap.size (by simp only [World.size_alloc]; omega)).trans (heap_alloc2_old _ _ _)⟩; have HC2 : Veil _ := ⟨(hb2.block (w.heap.size + 1) (by simp)).trans (heap_alloc2_new _ _ _)⟩; obtain ⟨⟨q0, q1, q2⟩, -⟩ := pack3 HB2.out; clear hb2))
    go_at_call 130
    refine (HJ.out (w3.alloc (.cells #[.int .u32 0, .int .u64 0] 70)) _ (by simp) (below_al HX3.out _)).mono ?_
    rintro e w4 ⟨G, rfl, HG, hb4⟩
    have HX4 : Veil (Below w.heap.size w w4) := ⟨alb_then (below_al HX3.out _) hb4⟩
    have HB4 : Veil _ := ⟨(hb4.block w.heap.size (by have := lt_of_heap HB3.out; simp only [World.size_alloc]; omega)).trans ((Below.heap_alloc _ _ _ (lt_of_heap HB3.out)).trans HB3.out)⟩
    have HC4 : Veil _ := ⟨(hb4.block (w.heap.size + 1) (by have := lt_of_heap HC3.out; simp only [World.size_alloc]; omega)).trans ((Below.heap_alloc _ _ _ (lt_of_heap HC3.out)).trans HC3.out)⟩
    obtain ⟨⟨s0, s1, s2⟩, k0, k1, k2⟩ := pack3 HB4.out
    obtain ⟨⟨z0, z1, z2⟩, g0, g1, g2⟩ := pack3 HC4.out
    clear hb4
    go_wp2
    have e := take_end (a := ⟨hi + 1, mo, L⟩) HX4.out (turn_two (.slice (some ⟨G, 0, none⟩) L.length L.length) (.int .u32 ((hi : Int) + 1)) (.int .u32 ((hi : Int) + 1)) (.int .u32 mo) (.slice (some ⟨G, 0, none⟩) L.length L.length)) HG.out HB4.out HC4.out (by have h1 := HTO.out.2; rw [HTT.out] at h1; exact h1)
    have hn1 : w.heap.size + 1 ≠ w.heap.size := by omega
    have hres := set3 (set_ne (set_ne HC4.out hn1 2 (.slice (some ⟨G, 0, none⟩) L.length L.length)) hn1 0 (.int .u32 ((hi : Int) + 1))) (.int .u32 ((hi : Int) + 1)) (.int .u32 mo) (.slice (some ⟨G, 0, none⟩) L.length L.length)
    refine bodyPost_ret (results_alloc3 (g := w.heap.size + 1) (y := .int .u32 hi) (z := .int .i64 0) rfl rfl rfl rfl hres) rfl ⟨some ⟨G, 0, none⟩, L.length, ?_, ?_, e.2⟩
    · rw [HTT.out]; rfl
    · rw [HTT.out]; exact e.1
end Go.Proofs.YtokbmimbbeedcaaGreatDoor

/- The walk of Take where a spare is taken. -/
namespace Go.Proofs.YtokbmimbbeedcaaGreatDoor
open Go Go.RowKit Sm
attribute [local go_sem] Oper.semAt_some

theorem erase_flat (L : List Sp) (p q : Option Addr) (k c1 c2 : Nat) (_hk : k < L.length) : flat [⟨p, c1, (L.drop 0).take k⟩, ⟨q, c2, (L.drop (k + 1)).take (L.length - (k + 1))⟩] 2 = L.eraseIdx k := by
  simp only [flat, List.take_succ_cons, List.take_zero, List.flatMap_cons, List.flatMap_nil, List.append_nil, List.drop_zero]
  rw [List.take_of_length_le (l := L.drop (k + 1)) (by simp), List.eraseIdx_eq_take_drop_succ]

theorem take_join2_of {w : World} {a : Al} {p : Option Addr} {c : Nat} (h : AlAt w a p c) (k : Nat) (hk : k < a.l.length) : Veil (∀ W g, g = W.heap.size → Below w.heap.size w W → Calls Tryz.prog 130 #[.slice (some ⟨g, 0, none⟩) 2 2] (W.alloc (.cells #[.slice (cutP p 0 k) k k, .slice (cutP p (k + 1) (a.l.length - (k + 1))) ((a.l.length - (k + 1) : Nat) : Nat) (a.l.length - (k + 1))] 32)) fun e w' => ∃ G, e = .returned (.slice (some ⟨G, 0, none⟩) (a.l.eraseIdx k).length (a.l.eraseIdx k).length) ∧ Veil (w.heap.size ≤ G ∧ w'.heap[G]? = some (.cells (spCells (a.l.eraseIdx k)).toArray 70 (0, 0))) ∧ Below W.heap.size W w') :=
  ⟨fun W g hg hW => by
    have e := erase_flat a.l (cutP p 0 k) (cutP p (k + 1) (a.l.length - (k + 1))) k k (a.l.length - (k + 1)) hk
    have l1 : ((a.l.drop 0).take k).length = k := by simp; omega
    have l2 : ((a.l.drop (k + 1)).take (a.l.length - (k + 1))).length = a.l.length - (k + 1) := by simp
    have := joined_new [⟨cutP p 0 k, k, (a.l.drop 0).take k⟩, ⟨cutP p (k + 1) (a.l.length - (k + 1)), a.l.length - (k + 1), (a.l.drop (k + 1)).take (a.l.length - (k + 1))⟩] (fun x hx => by
      rcases List.mem_cons.1 hx with rfl | hx
      · exact cutP_sps h.s 0 k (by omega)
      · rw [List.mem_singleton.1 hx]
        exact cutP_sps h.s (k + 1) (a.l.length - (k + 1)) (by omega)) (by simp) (by
        simp only [List.length_cons, List.length_nil, Nat.zero_add, Nat.reduceAdd]; rw [e]; have := h.ok.few; rw [List.length_eraseIdx]; split <;> omega) W hW g 2 #[.slice (cutP p 0 k) k k, .slice (cutP p (k + 1) (a.l.length - (k + 1))) ((a.l.length - (k + 1) : Nat) : Nat) (a.l.length - (k + 1))] hg rfl (by simp only [List.map_cons, List.map_nil, Ls.v, l1, l2])
    simp only [List.length_cons, List.length_nil, Nat.zero_add, Nat.reduceAdd] at this
    rwa [e] at this⟩

set_option maxRecDepth 20000 in
set_option maxHeartbeats 2000000 in
theorem take_found {w : World} {a : Al} {p : Option Addr} {c : Nat} (h : AlAt w a p c) (oldest : Nat) (hr : a.right = true) (hf : firstAt (old oldest) a.l < a.l.length) :
    Calls Tryz.prog 138 #[a.v p c, .int .u64 oldest] w (TakePost w (a.take oldest)) := by
  have HT : Veil (a.take oldest = ⟨⟨a.high, a.most, a.l.eraseIdx (firstAt (old oldest) a.l)⟩, (a.l.getD (firstAt (old oldest) a.l) Sp.zero).page, 0⟩) := ⟨by simp [Al.take, hr, hf]⟩
  have HTO : Veil ((a.take oldest).a.Ok) := ⟨(Al.take_ok h.ok oldest).1⟩
  have hs1 : 1 ≤ (a.l.getD (firstAt (old oldest) a.l) Sp.zero).tx := by
    have hm : a.l.getD (firstAt (old oldest) a.l) Sp.zero ∈ a.l := by rw [List.getD, List.getElem?_eq_getElem hf]; exact List.getElem_mem ..
    exact (rising_ge ((Al.right_iff a).1 hr).2 _ hm).2.2
  have HR := take_right_of h hr
  have HU := take_unread_of h oldest
  have HJ := take_join2_of h _ hf
  have HC1 : Veil (∀ W, Calls Tryz.prog 131 #[.slice p a.l.length c, .int .i64 0, .int .i64 ((firstAt (old oldest) a.l : Nat) : Int)] W fun e w' => e = .returned (.slice (cutP p 0 (firstAt (old oldest) a.l)) (firstAt (old oldest) a.l) (firstAt (old oldest) a.l)) ∧ W = w') := ⟨fun W => by
    have := acut_any (p := p) a.l.length c 0 (firstAt (old oldest) a.l) (by omega) h.len h.few h.none (fun a ha => (h.old a ha).2) W
    rwa [Nat.zero_add] at this⟩
  have HC2 : Veil (∀ W, Calls Tryz.prog 131 #[.slice p a.l.length c, .int .i64 ((firstAt (old oldest) a.l : Nat) + 1 : Int), .int .i64 a.l.length] W fun e w' => e = .returned (.slice (cutP p (firstAt (old oldest) a.l + 1) (a.l.length - (firstAt (old oldest) a.l + 1))) ((a.l.length - (firstAt (old oldest) a.l + 1) : Nat) : Nat) (a.l.length - (firstAt (old oldest) a.l + 1))) ∧ W = w') := ⟨fun W => by
    have := acut_any (p := p) a.l.length c (firstAt (old oldest) a.l + 1) (a.l.length - (firstAt (old oldest) a.l + 1)) (by omega) h.len h.few h.none (fun a ha => (h.old a ha).2) W
    rwa [show firstAt (old oldest) a.l + 1 + (a.l.length - (firstAt (old oldest) a.l + 1)) = a.l.length by omega] at this⟩
  rw [show unAt oldest a.l = firstAt (old oldest) a.l by simp [unAt, hf], show unSp oldest a.l = a.l.getD (firstAt (old oldest) a.l) Sp.zero by simp [unSp, hf]] at HU
  have hk6 : firstAt (old oldest) a.l ≤ 1000000 := by have := h.ok.few; omega
  clear h hr hf
  revert HT HTO hs1 HU HJ HC1 HC2 hk6
  generalize a.take oldest = T
  generalize a.l.getD (firstAt (old oldest) a.l) Sp.zero = s
  generalize firstAt (old oldest) a.l = k
  generalize a.l.eraseIdx k = M
  intro HT HTO hs1 HU HJ HC1 HC2 hk6
  obtain ⟨hi, mo, L⟩ := a
  obtain ⟨pg, tx⟩ := s
  unfold Al.v Sp.v at *
  dsimp only at *
  revert HJ HC1 HC2
  generalize L.length - (k + 1) = n2
  generalize cutP p 0 k = p1
  generalize cutP p (k + 1) n2 = p2
  intro HJ HC1 HC2
  have hne : ((tx : Int) == 0) = false := by simp; omega
  clear hs1
  go_enter Tryz.func138, Tryz.ntmps138
  go_wp2_with (first
      | (go_at_call 154; refine (HU.out _ HX2.out).mono ?_; rintro e w3 ⟨rfl, hb3⟩; have HX3 : Veil (Below w.heap.size w w3) := ⟨alb_then HX2.out hb3⟩; have HB3 : Veil _ := ⟨(hb3.block w.heap.size (lt_of_heap HB2.out)).trans HB2.out⟩; have HC3 : Veil _ := ⟨(hb3.block (w.heap.size + 1) (lt_of_heap HCC2.out)).trans HCC2.out⟩; obtain ⟨⟨r0, r1, r2⟩, f0, f1, f2⟩ := pack3 HB3.out; have hz3 : w.heap.size < w3.heap.size := lt_of_heap HB3.out; clear hb3)
      | (go_at_call 25; refine (HR.out _ (below_al (below_al (Below.refl _ _) _) _)).mono ?_; rintro e w2 ⟨rfl, hb2⟩; have HX2 : Veil (Below w.heap.size w w2) := ⟨alb_then (below_al (below_al (Below.refl _ _) _) _) hb2⟩; have HB2 : Veil _ := ⟨(hb2.block w.heap.size (by simp only [World.size_alloc]; omega)).trans (heap_alloc2_old _ _ _)⟩; have HCC2 : Veil _ := ⟨(hb2.block (w.heap.size + 1) (by simp)).trans (heap_alloc2_new _ _ _)⟩; obtain ⟨⟨q0, q1, q2⟩, -⟩ := pack3 HB2.out; clear hb2))
  obtain ⟨S3, hS3⟩ : ∃ S3, w3.heap.size = S3 := ⟨_, rfl⟩
  obtain ⟨W5, hW5⟩ : ∃ W5, (w3.alloc (.cells #[.int .u32 pg, .int .u64 tx] 70)).drew = W5 := ⟨_, rfl⟩
  have HX5 : Veil (Below w.heap.size w W5) := ⟨by rw [← hW5]; exact (below_al HX3.out _).drew⟩
  have HB5 : Veil (W5.heap[w.heap.size]? = some (.cells #[.int .u32 hi, .int .u32 mo, .slice p L.length c] 34 (0, 0))) := ⟨by rw [← hW5]; exact (Below.heap_alloc _ _ _ (lt_of_heap HB3.out)).trans HB3.out⟩
  have HC5 : Veil (W5.heap[w.heap.size + 1]? = some (.cells #[.int .u32 0, .int .u32 0, .slice none 0 0] 34 (0, 0))) := ⟨by rw [← hW5]; exact (Below.heap_alloc _ _ _ (lt_of_heap HC3.out)).trans HC3.out⟩
  have HS5 : Veil (W5.heap[S3]? = some (.cells #[.int .u32 pg, .int .u64 tx] 70 (0, 0))) := ⟨by rw [← hW5, ← hS3]; exact heap_alloc_new _ _⟩
  have HN : Veil (S3 ≠ w.heap.size ∧ S3 ≠ w.heap.size + 1) := ⟨by have h1 := lt_of_heap HB3.out; have h2 := lt_of_heap HC3.out; omega⟩
  rw [hS3]
  refine region_tail 12 (by kernel_rfl) (by kernel_rfl) W5 hW5 ?_
  clear hS3 hW5 HX2 HX3 HB2 HB3 HCC2 HC3 HU HR hz3 r0 r1 r2 f0 f1 f2 q0 q1 q2
  obtain ⟨⟨r0, r1, r2⟩, f0, f1, f2⟩ := pack3 HB5.out
  simp only [List.take_succ_cons, List.take_zero, List.drop_succ_cons, List.drop_zero]
  iterate 3 still_step
  still_call ((HC1.out _).mono fun _ _ h => ⟨h.1, h.2.symm⟩)
  have hwk : IntKind.i64.wrap ((k : Int) + 1) = (k : Int) + 1 := by rw [IntKind.wrap_i64]; omega
  iterate 7 still_step
  clear hwk
  still_call ((HC2.out _).mono fun _ _ h => ⟨h.1, h.2.symm⟩)
  refine wpStill_nil ?_
  go_wp2_with fail
  go_at_call 130
  refine (HJ.out _ _ rfl HX5.out).mono ?_
  rintro e w4 ⟨G, rfl, HG, hb4⟩
  have HX4 : Veil (Below w.heap.size w w4) := ⟨alb_then HX5.out hb4⟩
  have HB4 : Veil _ := ⟨(hb4.block w.heap.size (lt_of_heap HB5.out)).trans HB5.out⟩
  have HC4 : Veil _ := ⟨(hb4.block (w.heap.size + 1) (lt_of_heap HC5.out)).trans HC5.out⟩
  have HS4 : Veil _ := ⟨(hb4.block S3 (lt_of_heap HS5.out)).trans HS5.out⟩
  obtain ⟨⟨s0, s1, s2⟩, k0, k1, k2⟩ := pack3 HB4.out
  clear hb4 r0 r1 r2 f0 f1 f2 HJ HC1 HC2 HX5
  go_wp2
  refine only_normal ?_
  obtain ⟨W6, hW6⟩ : ∃ W6, w4.setCell ⟨w.heap.size, 2, none⟩ (.slice (some ⟨G, 0, none⟩) M.length M.length) = W6 := ⟨_, rfl⟩
  have HT6 : Veil (Turned (· = w.heap.size) w4 W6) := ⟨by rw [← hW6]; exact (Turned.refl (· = w.heap.size) w4).setCell (p := ⟨w.heap.size, 2, none⟩) rfl _⟩
  have HB6 : Veil (W6.heap[w.heap.size]? = some (.cells #[.int .u32 hi, .int .u32 mo, .slice (some ⟨G, 0, none⟩) M.length M.length] 34 (0, 0))) := ⟨by rw [← hW6]; exact heap_setCell_at HB4.out 2 _⟩
  rw [hW6]
  clear hW6 s0 s1 s2 k0 k1 k2
  go_wp2
  obtain ⟨W7, hW7⟩ : ∃ W7, W6.drew = W7 := ⟨_, rfl⟩
  have HT7 : Veil (Turned (fun j => j = w.heap.size ∨ j = w.heap.size + 1) w4 W7) := ⟨by rw [← hW7]; exact (HT6.out.wider (fun _ _ h => .inl h)).drew⟩
  have HB7 : Veil _ := ⟨(show W7.heap[w.heap.size]? = W6.heap[w.heap.size]? by rw [← hW7]; rfl).trans HB6.out⟩
  have HC7 : Veil _ := ⟨(show W7.heap[w.heap.size + 1]? = W6.heap[w.heap.size + 1]? by rw [← hW7]; rfl).trans (HT6.out.heap HC4.out (by omega))⟩
  have HS7 : Veil _ := ⟨(show W7.heap[S3]? = W6.heap[S3]? by rw [← hW7]; rfl).trans (HT6.out.heap HS4.out HN.out.1)⟩
  obtain ⟨⟨d0, d1⟩, -⟩ := pack2 HS7.out
  obtain ⟨⟨z0, z1, z2⟩, g0, g1, g2⟩ := pack3 HC7.out
  have HSS : Veil (W7.cell? ⟨w.heap.size, 0, none⟩ = some (.int .u32 hi) ∧ W7.cell? ⟨w.heap.size, 1, none⟩ = some (.int .u32 mo) ∧ W7.cell? ⟨w.heap.size, 2, none⟩ = some (.slice (some ⟨G, 0, none⟩) M.length M.length) ∧ W7.cell? ⟨S3, 0, none⟩ = some (.int .u32 pg)) := ⟨(pack3 HB7.out).1.1, (pack3 HB7.out).1.2.1, (pack3 HB7.out).1.2.2, d0⟩
  have hn3 : S3 ≠ w.heap.size + 1 := HN.out.2
  clear d0 d1
  refine region_plan 4 [(true, 0), (true, 1), (true, 2), (false, 3)] (by kernel_rfl) (by kernel_rfl) (fun w' => w'.cell? ⟨w.heap.size, 0, none⟩ = some (.int .u32 hi) ∧ w'.cell? ⟨w.heap.size, 1, none⟩ = some (.int .u32 mo) ∧ w'.cell? ⟨w.heap.size, 2, none⟩ = some (.slice (some ⟨G, 0, none⟩) M.length M.length) ∧ w'.cell? ⟨S3, 0, none⟩ = some (.int .u32 pg)) W7 hW7 HSS.out ?_
  clear hW7
  simp only [planOps, List.filterMap_cons, List.filterMap_nil, List.getElem?_toArray, List.getElem?_cons_zero, List.getElem?_cons_succ, Option.map_some]
  iterate 3 (refine plan_quiet rfl ?_ ?_ (fun K hK => ?_); rotate_left; (rintro w' ⟨s0, s1, s2, s3⟩; go_simp; rfl); (go_simp; refine hK _ ?_; clear hK K))
  refine plan_change (fun K hK => ?_)
  go_wp2
  refine hK _ _ ⟨?_, ?_, ?_, ?_⟩ ?_
  · go_simp; exact HSS.out.1
  · go_simp; exact HSS.out.2.1
  · go_simp; exact HSS.out.2.2.1
  · go_simp; exact HSS.out.2.2.2
  clear hK K
  refine wpPlan_nil ?_
  simp only [List.drop_succ_cons, List.drop_zero]
  go_wp2
  refine only_normal ?_
  go_wp2
  have hT : Turned (fun j => j = w.heap.size ∨ j = w.heap.size + 1) w4 (((W7.setCell ⟨w.heap.size + 1, 0, none⟩ (.int .u32 hi)).setCell ⟨w.heap.size + 1, 1, none⟩ (.int .u32 mo)).setCell ⟨w.heap.size + 1, 2, none⟩ (.slice (some ⟨G, 0, none⟩) M.length M.length)) :=
    ((HT7.out.setCell (p := ⟨w.heap.size + 1, 0, none⟩) (.inr rfl) _).setCell (p := ⟨w.heap.size + 1, 1, none⟩) (.inr rfl) _).setCell (p := ⟨w.heap.size + 1, 2, none⟩) (.inr rfl) _
  have e := take_end (a := ⟨hi, mo, M⟩) HX4.out hT HG.out HB4.out HC4.out (by have h1 := HTO.out; rw [HT.out] at h1; exact h1)
  have hres := set3 HC7.out (.int .u32 hi) (.int .u32 mo) (.slice (some ⟨G, 0, none⟩) M.length M.length)
  refine bodyPost_ret (results_alloc3 (g := w.heap.size + 1) (y := .int .u32 pg) (z := .int .i64 0) rfl rfl rfl rfl hres) rfl ⟨some ⟨G, 0, none⟩, M.length, ?_, ?_, e.2⟩
  · rw [HT.out]; rfl
  · rw [HT.out]; exact e.1

/-- Take, whatever the alloc. -/
theorem take_any {w : World} {a : Al} {p : Option Addr} {c : Nat} (h : AlAt w a p c) (oldest : Nat) :
    Calls Tryz.prog 138 #[a.v p c, .int .u64 oldest] w (TakePost w (a.take oldest)) := by
  cases hr : a.right
  · exact take_bad h oldest hr
  · by_cases hf : firstAt (old oldest) a.l < a.l.length
    · exact take_found h oldest hr hf
    · exact atake_none h oldest hr hf
end Go.Proofs.YtokbmimbbeedcaaGreatDoor

/- The walk of Give. -/
namespace Go.Proofs.YtokbmimbbeedcaaGreatDoor
open Go Go.RowKit Sm
attribute [local go_sem] Oper.semAt_some

theorem ins_flat (L : List Sp) (x : Sp) (p q r : Option Addr) (c1 c2 c3 : Nat) : flat [⟨p, c1, (L.drop 0).take (firstAt (ahead x.page) L)⟩, ⟨q, c2, [x]⟩, ⟨r, c3, (L.drop (firstAt (ahead x.page) L)).take (L.length - firstAt (ahead x.page) L)⟩] 3 = insS x L := by
  simp only [flat, List.take_succ_cons, List.take_zero, List.flatMap_cons, List.flatMap_nil, List.append_nil, List.drop_zero]
  rw [List.take_of_length_le (l := L.drop _) (by simp), insS_eq]
theorem give_join_of {w : World} {a : Al} {p : Option Addr} {c : Nat} (h : AlAt w a p c) (x : Sp) : Veil (∀ W g1 g2, g1 = W.heap.size → g2 = W.heap.size + 1 → Below w.heap.size w W → Calls Tryz.prog 130 #[.slice (some ⟨g2, 0, none⟩) 3 3] ((W.alloc (.cells #[.int .u32 x.page, .int .u64 x.tx] 70)).alloc (.cells #[.slice (cutP p 0 (firstAt (ahead x.page) a.l)) (firstAt (ahead x.page) a.l) (firstAt (ahead x.page) a.l), .slice (some ⟨g1, 0, none⟩) 1 1, .slice (cutP p (firstAt (ahead x.page) a.l) (a.l.length - firstAt (ahead x.page) a.l)) ((a.l.length - firstAt (ahead x.page) a.l : Nat) : Nat) (a.l.length - firstAt (ahead x.page) a.l)] 32)) fun e w' => ∃ G, e = .returned (.slice (some ⟨G, 0, none⟩) (insS x a.l).length (insS x a.l).length) ∧ Veil (w.heap.size ≤ G ∧ w'.heap[G]? = some (.cells (spCells (insS x a.l)).toArray 70 (0, 0))) ∧ Below W.heap.size W w') :=
  ⟨fun W g1 g2 hg1 hg2 hW => by
    subst hg1
    have hk := firstAt_le (ahead x.page) a.l
    have e := ins_flat a.l x (cutP p 0 (firstAt (ahead x.page) a.l)) (some ⟨W.heap.size, 0, none⟩) (cutP p (firstAt (ahead x.page) a.l) (a.l.length - firstAt (ahead x.page) a.l)) (firstAt (ahead x.page) a.l) 1 (a.l.length - firstAt (ahead x.page) a.l)
    have hb1 : Below W.heap.size W (W.alloc (.cells #[.int .u32 x.page, .int .u64 x.tx] 70)) := below_al (Below.refl _ _) _
    have hx : Sps (W.alloc (.cells #[.int .u32 x.page, .int .u64 x.tx] 70)) (some ⟨W.heap.size, 0, none⟩) [x] := Made.sps (B := 0) ⟨W.heap.size, Nat.zero_le _, rfl, heap_alloc_new _ _⟩
    have l1 : ((a.l.drop 0).take (firstAt (ahead x.page) a.l)).length = firstAt (ahead x.page) a.l := by simp; omega
    have l2 : ((a.l.drop (firstAt (ahead x.page) a.l)).take (a.l.length - firstAt (ahead x.page) a.l)).length = a.l.length - firstAt (ahead x.page) a.l := by simp
    have := joined_new (w := W.alloc (.cells #[.int .u32 x.page, .int .u64 x.tx] 70)) [⟨cutP p 0 (firstAt (ahead x.page) a.l), firstAt (ahead x.page) a.l, (a.l.drop 0).take (firstAt (ahead x.page) a.l)⟩, ⟨some ⟨W.heap.size, 0, none⟩, 1, [x]⟩, ⟨cutP p (firstAt (ahead x.page) a.l) (a.l.length - firstAt (ahead x.page) a.l), a.l.length - firstAt (ahead x.page) a.l, (a.l.drop (firstAt (ahead x.page) a.l)).take (a.l.length - firstAt (ahead x.page) a.l)⟩] (fun y hy => by
      rcases List.mem_cons.1 hy with rfl | hy
      · exact ((cutP_sps h.s 0 _ (by omega)).below hW).below hb1
      · rcases List.mem_cons.1 hy with rfl | hy
        · exact hx
        · rw [List.mem_singleton.1 hy]
          exact ((cutP_sps h.s _ _ (by omega)).below hW).below hb1) (by simp) (by
        simp only [List.length_cons, List.length_nil, Nat.zero_add, Nat.reduceAdd]; rw [e, insS_length]; have := h.ok.few; omega) _ (Below.refl _ _) g2 3 #[.slice (cutP p 0 (firstAt (ahead x.page) a.l)) (firstAt (ahead x.page) a.l) (firstAt (ahead x.page) a.l), .slice (some ⟨W.heap.size, 0, none⟩) 1 1, .slice (cutP p (firstAt (ahead x.page) a.l) (a.l.length - firstAt (ahead x.page) a.l)) ((a.l.length - firstAt (ahead x.page) a.l : Nat) : Nat) (a.l.length - firstAt (ahead x.page) a.l)] (by rw [hg2]; simp) rfl (by simp only [List.map_cons, List.map_nil, Ls.v, l1, l2, List.length_cons, List.length_nil])
    simp only [List.length_cons, List.length_nil, Nat.zero_add, Nat.reduceAdd] at this
    rw [e] at this
    refine this.mono ?_
    rintro e' w' ⟨G, he, hG, hb⟩
    exact ⟨G, he, ⟨by have := hG.out.1; have := hb1.size; have := hW.size; omega, hG.out.2⟩, hb1.trans (hb.mono hb1.size)⟩⟩

/-- What Give leaves. -/
def GivePost (w : World) (t : Al × Int) (e : Ending) (w' : World) : Prop := ∃ p' c', e = .returned (.tuple #[t.1.v p' c', .int .i64 t.2]) ∧ AlNew w' w.heap.size t.1 p' c' ∧ Below w.heap.size w w'
theorem results_alloc2 {fn : Func} {p q : Tmp} {tmps : Array Value} {w : World} {g : Nat} {x0 x1 x2 y : Value} (h : fn.results = #[.cell p 34, .tmp q]) (hp : tmps.getD p undef = .pointer (some ⟨g, 0, none⟩)) (hq : tmps.getD q undef = y) (hg : w.heap[g]? = some (.cells #[x0, x1, x2] 34 (0, 0))) :
    (results fn tmps).run Tryz.prog w = .ok (.tuple #[.agg #[x0, x1, x2], y]) w := by
  have hp' : tmps[p]?.getD undef = .pointer (some ⟨g, 0, none⟩) := by simpa using hp
  have hq' : tmps[q]?.getD undef = y := by simpa using hq
  obtain ⟨⟨c0, c1, c2⟩, -⟩ := pack3 hg
  simp [results, h, go_sem, hp', hq', c0, c1, c2]

set_option maxRecDepth 20000 in
set_option maxHeartbeats 2000000 in
theorem give_any {w : World} {a : Al} {p : Option Addr} {c : Nat} (h : AlAt w a p c) (hfew : a.l.length < 100000) (page tx : Nat) (hpg : page < 4294967296) (htx : tx < 18446744073709551616) :
    Calls Tryz.prog 92 #[a.v p c, .int .u32 page, .int .u64 tx] w (GivePost w (a.give page tx)) := by
  have HG : Veil (a.give page tx = if a.given page tx = true then (⟨a.high, a.most, insS ⟨page, tx⟩ a.l⟩, 0) else (Al.zero, 50)) := ⟨rfl⟩
  have HJ := give_join_of h ⟨page, tx⟩
  have hk : firstAt (ahead page) a.l ≤ a.l.length := firstAt_le _ _
  have HOK : Veil (Al.Ok ⟨a.high, a.most, insS ⟨page, tx⟩ a.l⟩) := ⟨⟨h.ok.high, h.ok.most, insS_ok ⟨hpg, htx⟩ h.ok.l, by rw [insS_length]; omega⟩⟩
  have HR : Veil (∀ W G, Made W w.heap.size (some ⟨G, 0, none⟩) (insS ⟨page, tx⟩ a.l) → Calls Tryz.prog 25 #[.agg #[.int .u32 a.high, .int .u32 a.most, .slice (some ⟨G, 0, none⟩) (insS ⟨page, tx⟩ a.l).length (insS ⟨page, tx⟩ a.l).length]] W fun e w' => e = .returned (.bool (a.given page tx)) ∧ Below W.heap.size W w') := ⟨fun W G hM => by
    have := aright_of (a := ⟨a.high, a.most, insS ⟨page, tx⟩ a.l⟩) hM.sps (fun b hb => by obtain ⟨g, -, hp, hg⟩ := hM; rw [hp] at hb; cases hb; exact lt_of_heap hg) (insS ⟨page, tx⟩ a.l).length HOK
    rw [Al.given_right] at this
    exact this⟩
  have HP : Veil (∀ W, Below w.heap.size w W → Calls Tryz.prog 129 #[.slice p a.l.length c, .int .u32 page] W fun e w' => e = .returned (.int .i64 (firstAt (ahead page) a.l)) ∧ Below W.heap.size W w') :=
    ⟨fun W hW => place_of (h.below hW).s (fun b hb => ((h.below hW).old b hb).1) c page h.ok.few hpg⟩
  have HC1 : Veil (∀ W, Calls Tryz.prog 131 #[.slice p a.l.length c, .int .i64 0, .int .i64 ((firstAt (ahead page) a.l : Nat) : Int)] W fun e w' => e = .returned (.slice (cutP p 0 (firstAt (ahead page) a.l)) (firstAt (ahead page) a.l) (firstAt (ahead page) a.l)) ∧ W = w') := ⟨fun W => by
    have := acut_any (p := p) a.l.length c 0 (firstAt (ahead page) a.l) (by omega) h.len h.few h.none (fun a ha => (h.old a ha).2) W
    rwa [Nat.zero_add] at this⟩
  have HC2 : Veil (∀ W, Calls Tryz.prog 131 #[.slice p a.l.length c, .int .i64 ((firstAt (ahead page) a.l : Nat) : Int), .int .i64 a.l.length] W fun e w' => e = .returned (.slice (cutP p (firstAt (ahead page) a.l) (a.l.length - firstAt (ahead page) a.l)) ((a.l.length - firstAt (ahead page) a.l : Nat) : Nat) (a.l.length - firstAt (ahead page) a.l)) ∧ W = w') := ⟨fun W => by
    have := acut_any (p := p) a.l.length c (firstAt (ahead page) a.l) (a.l.length - firstAt (ahead page) a.l) (by omega) h.len h.few h.none (fun a ha => (h.old a ha).2) W
    rwa [show firstAt (ahead page) a.l + (a.l.length - firstAt (ahead page) a.l) = a.l.length by omega] at this⟩
  clear h hfew hpg htx hk
  revert HG HJ HOK HR HP HC1 HC2
  dsimp only
  generalize a.give page tx = T
  generalize insS ⟨page, tx⟩ a.l = M
  generalize a.given page tx = gv
  generalize firstAt (ahead page) a.l = k
  intro HG HJ HOK HR HP HC1 HC2
  obtain ⟨hi, mo, L⟩ := a
  unfold Al.v at *
  dsimp only at *
  revert HJ HC1 HC2
  generalize L.length - k = n2
  generalize cutP p 0 k = p1
  generalize cutP p k n2 = p2
  intro HJ HC1 HC2
  go_enter Tryz.func92, Tryz.ntmps92
  go_wp2_with (go_at_call 129; refine (HP.out _ (below_al (below_al (Below.refl _ _) _) _)).mono ?_; rintro e w2 ⟨rfl, hb2⟩; have HX2 : Veil (Below w.heap.size w w2) := ⟨alb_then (below_al (below_al (Below.refl _ _) _) _) hb2⟩; have HB2 : Veil _ := ⟨(hb2.block w.heap.size (by simp only [World.size_alloc]; omega)).trans (heap_alloc2_old _ _ _)⟩; have HCC2 : Veil _ := ⟨(hb2.block (w.heap.size + 1) (by simp)).trans (heap_alloc2_new _ _ _)⟩; clear hb2)
  have HJ2 : Veil (Calls Tryz.prog 130 #[.slice (some ⟨w2.heap.size + 1, 0, none⟩) 3 3] (((w2.alloc (.cells #[.int .u32 page, .int .u64 tx] 70)).alloc (.cells #[.slice p1 k k, .slice (some ⟨w2.heap.size, 0, none⟩) 1 1, .slice p2 (n2 : Nat) n2] 32)).drew) fun e w' => ∃ G, e = .returned (.slice (some ⟨G, 0, none⟩) M.length M.length) ∧ Veil (w.heap.size ≤ G ∧ w'.heap[G]? = some (.cells (spCells M).toArray 70 (0, 0))) ∧ Below w2.heap.size w2 w') :=
    ⟨(HJ.out w2.drew w2.heap.size (w2.heap.size + 1) rfl rfl HX2.out.drew).mono fun e w' ⟨G, he, hg, hb⟩ => ⟨G, he, hg, (Below.refl _ w2).drew.trans hb⟩⟩
  have hz2 : w.heap.size < w2.heap.size := lt_of_heap HB2.out
  have ST : Veil (∀ W, Below w2.heap.size w2 W → W.cell? ⟨w.heap.size, 2, none⟩ = some (.slice p L.length c)) := ⟨fun W hW => (hW.cell hz2).trans (pack3 HB2.out).1.2.2⟩
  go_region_held3 (fun W => W.cell? ⟨w.heap.size, 2, none⟩ = some (.slice p L.length c) ∧ Below w2.heap.size w2 W) (refine ⟨ST.out _ ?_, ?_⟩ <;> first | assumption | exact (Below.refl _ _).drew | exact (below_al (Below.refl _ _) _).drew | exact (below_al (below_al (Below.refl _ _) _) _).drew) (first
    | (go_at_call 130; refine HJ2.out.mono ?_; rintro e w4 ⟨G, rfl, HGG, hb4⟩)
    | (go_at_call 131; (with_reducible refine (HC2.out _).mono ?_); rintro e w3 ⟨rfl, rfl⟩)
    | (go_at_call 131; (with_reducible refine (HC1.out _).mono ?_); rintro e w3 ⟨rfl, rfl⟩))
  all_goals
    clear HJ HJ2 HC1 HC2 HP ST
    have HX4 : Veil (Below w.heap.size w w4) := ⟨alb_then HX2.out hb4⟩
    have HB4 : Veil _ := ⟨(hb4.block w.heap.size (lt_of_heap HB2.out)).trans HB2.out⟩
    have HC4 : Veil _ := ⟨(hb4.block (w.heap.size + 1) (lt_of_heap HCC2.out)).trans HCC2.out⟩
    obtain ⟨⟨s0, s1, s2⟩, -⟩ := pack3 HB4.out
    clear hb4 hz2 HX2 HB2 HCC2
    obtain ⟨W5, hW5⟩ : ∃ W5, w4.alloc (.cells #[.int .u32 hi, .int .u32 mo, .slice (some ⟨G, 0, none⟩) M.length M.length] 34) = W5 := ⟨_, rfl⟩
    obtain ⟨S4, hS4⟩ : ∃ S4, w4.heap.size = S4 := ⟨_, rfl⟩
    have hb5 : Below w4.heap.size w4 W5 := by rw [← hW5]; exact below_al (Below.refl _ _) _
    have HX5 : Veil (Below w.heap.size w W5) := ⟨alb_then HX4.out hb5⟩
    have HM5 : Veil (w.heap.size ≤ G ∧ W5.heap[G]? = some (.cells (spCells M).toArray 70 (0, 0))) := ⟨HGG.out.1, (hb5.block G (lt_of_heap HGG.out.2)).trans HGG.out.2⟩
    have HS5 : Veil (W5.heap[S4]? = some (.cells #[.int .u32 hi, .int .u32 mo, .slice (some ⟨G, 0, none⟩) M.length M.length] 34 (0, 0))) := ⟨by rw [← hW5, ← hS4]; exact heap_alloc_new _ _⟩
    have HC5 : Veil _ := ⟨(hb5.block (w.heap.size + 1) (lt_of_heap HC4.out)).trans HC4.out⟩
    have HN : Veil (w.heap.size < S4 ∧ w.heap.size + 1 < S4) := ⟨by have h1 := lt_of_heap HB4.out; have h2 := lt_of_heap HC4.out; omega⟩
    have HRR := HR.out W5 G ⟨G, HM5.out.1, rfl, HM5.out.2⟩
    have HRV : Veil _ := ⟨HRR⟩
    obtain ⟨⟨r0, r1, r2⟩, -⟩ := pack3 HS5.out
    clear hb5 HRR HR
    go_wp2_with fail
    go_at_call 25
    refine HRV.out.mono ?_
    rintro e w6 ⟨rfl, hb6⟩
    have HX6 : Veil (Below w.heap.size w w6) := ⟨alb_then HX5.out hb6⟩
    have HM6 : Veil (AlNew w6 w.heap.size ⟨hi, mo, M⟩ (some ⟨G, 0, none⟩) M.length) := ⟨⟨.inr ⟨G, HM5.out.1, rfl, (hb6.block G (lt_of_heap HM5.out.2)).trans HM5.out.2⟩, rfl, HOK.out⟩⟩
    have HG6 : Veil (G ≠ w.heap.size + 1) := ⟨by rintro rfl; have h1 := HM5.out.2; rw [HC5.out] at h1; simp at h1⟩
    have HS6 : Veil _ := ⟨(hb6.block S4 (lt_of_heap HS5.out)).trans HS5.out⟩
    have HC6 : Veil _ := ⟨(hb6.block (w.heap.size + 1) (lt_of_heap HC5.out)).trans HC5.out⟩
    obtain ⟨⟨q0, q1, q2⟩, -⟩ := pack3 HS6.out
    obtain ⟨⟨z0, z1, z2⟩, g0, g1, g2⟩ := pack3 HC6.out
    clear hb6 hW5 hS4 s0 s1 s2 r0 r1 r2
    cases gv
    · have HT : Veil (T = (Al.zero, 50)) := ⟨HG.out⟩
      go_wp2
      have hT := ((((Turned.refl (· = w.heap.size + 1) w6).setCell (p := ⟨w.heap.size + 1, 0, none⟩) rfl (.int .u32 0)).setCell (p := ⟨w.heap.size + 1, 1, none⟩) rfl (.int .u32 0)).setCell (p := ⟨w.heap.size + 1, 2, none⟩) rfl (.slice none 0 0))
      exact bodyPost_ret (results_alloc2 (g := w.heap.size + 1) (y := .int .i64 50) rfl rfl rfl (set3 HC6.out _ _ _)) rfl ⟨none, 0, by rw [HT.out]; rfl, by rw [HT.out]; exact AlNew.zero _ _, HX6.out.trans (hT.toBelow HX6.out.size (fun j _ h => by omega))⟩
    · have HT : Veil (T = (⟨hi, mo, M⟩, 0)) := ⟨HG.out⟩
      go_wp2
      have hT := ((((Turned.refl (· = w.heap.size + 1) w6).setCell (p := ⟨w.heap.size + 1, 0, none⟩) rfl (.int .u32 hi)).setCell (p := ⟨w.heap.size + 1, 1, none⟩) rfl (.int .u32 mo)).setCell (p := ⟨w.heap.size + 1, 2, none⟩) rfl (.slice (some ⟨G, 0, none⟩) M.length M.length))
      refine bodyPost_ret (results_alloc2 (g := w.heap.size + 1) (y := .int .i64 0) rfl rfl rfl (set3 HC6.out _ _ _)) rfl ⟨some ⟨G, 0, none⟩, M.length, by rw [HT.out]; rfl, ?_, HX6.out.trans (hT.toBelow HX6.out.size (fun j _ h => by omega))⟩
      rw [HT.out]
      rcases HM6.out.f with ⟨-, h0⟩ | ⟨g, h1, h2, h3⟩
      · cases h0
      · cases h2
        exact ⟨.inr ⟨G, h1, rfl, hT.heap h3 HG6.out⟩, rfl, HOK.out⟩
end Go.Proofs.YtokbmimbbeedcaaGreatDoor

/- The walk of cut: an alloc of the first forty-one hundred spares, in new memory. -/
namespace Go.Proofs.YtokbmimbbeedcaaGreatDoor
open Go Go.RowKit Sm
attribute [local go_sem] Oper.semAt_some

/-- A list that a law holds: in a block of its own, with room. -/
def Room (w : World) (B g : Nat) (L : List Sp) : Prop := B ≤ g ∧ ∃ cur : Array Value, w.heap[g]? = some (.cells cur 70 (0, 0)) ∧ cur.toList.take (L.length * 2) = spCells L
theorem Room.sps {w : World} {B g : Nat} {L : List Sp} (h : Room w B g L) : Sps w (some ⟨g, 0, none⟩) L := fun _ => by
  obtain ⟨-, cur, hg, ht⟩ := h
  refine ⟨g, 0, rfl, fun i hi => ?_⟩
  have hg' : w.heap[g]? = some (.cells cur.toList.toArray 70 (0, 0)) := by simpa using hg
  obtain ⟨h1, h2⟩ := spCells_at L i hi
  have e : ∀ j, j < L.length * 2 → cur.toList[j]? = (spCells L)[j]? := fun j hj => by rw [← ht, List.getElem?_take, if_pos hj]
  rw [cell_whole hg', cell_whole hg', Nat.zero_add, e _ (by omega), e _ (by omega)]
  exact ⟨h1, h2⟩
theorem Room.turned {F : Nat → Prop} {w w' : World} {B g : Nat} {L : List Sp} (h : Room w B g L) (ht : Turned F w w') (hF : ¬ F g) : Room w' B g L := by
  obtain ⟨h1, cur, hg, h2⟩ := h
  exact ⟨h1, cur, ht.heap hg hF, h2⟩
theorem Room.below {w w' : World} {B g : Nat} {L : List Sp} (h : Room w B g L) (hb : Below w.heap.size w w') : Room w' B g L := h.turned (Turned.new hb : Turned (fun _ => False) w w') (fun h => h)
theorem Room.lt {w : World} {B g : Nat} {L : List Sp} (h : Room w B g L) : g < w.heap.size := by
  obtain ⟨-, cur, hg, -⟩ := h
  exact lt_of_heap hg
theorem Sps.take {w : World} {p : Option Addr} {L : List Sp} (h : Sps w p L) (n : Nat) : Sps w p (L.take n) := fun hne => by
  obtain ⟨b, o, rfl, hr⟩ := h (by rintro rfl; simp at hne)
  refine ⟨b, o, rfl, fun i hi => ?_⟩
  have hi' : i < n ∧ i < L.length := by rw [List.length_take] at hi; omega
  have e : (L.take n).getD i Sp.zero = L.getD i Sp.zero := by simp [List.getD, hi'.1]
  rw [e]
  exact hr i hi'.2
theorem Sps.news {w : World} {p : Option Addr} {L : List Sp} (h : Sps w p L) : ∀ ad, p = some ad → ∀ j u, (spCells L)[j]? = some u → w.cell? (ad.add j) = some u := fun ad hp j v hj => by
  have hjl : j < L.length * 2 := by have := (List.getElem?_eq_some_iff.1 hj).1; rwa [length_spCells] at this
  obtain ⟨b, o, he, hr⟩ := h (by rintro rfl; simp at hjl)
  rw [hp] at he
  cases he
  rw [Addr.add_mid]
  have hi : j / 2 < L.length := by omega
  obtain ⟨r1, r2⟩ := hr (j / 2) hi
  obtain ⟨s1, s2⟩ := spCells_at L (j / 2) hi
  rcases Nat.mod_two_eq_zero_or_one j with hm | hm
  · rw [show j = j / 2 * 2 by omega] at hj ⊢
    rw [s1] at hj; cases hj; exact r1
  · rw [show j = j / 2 * 2 + 1 by omega] at hj ⊢
    rw [s2] at hj; cases hj; exact r2

end Go.Proofs.YtokbmimbbeedcaaGreatDoor

/- The law AllocFresh. -/
namespace Go.Proofs.YtokbmimbbeedcaaGreatDoor
open Go Go.RowKit Sm
attribute [local go_sem] Oper.semAt_some

/-- An alloc as a law is handed it. -/
structure AlIn (w : World) (a : Al) (p : Option Addr) (c : Nat) : Prop where
  s : Sps w p a.l
  len : a.l.length ≤ c
  few : c ≤ 9223372036854775807
  nil : p = none → c = 0
  old : ∀ b, p = some b → b.spot = none
  high : a.high < 4294967296
  most : a.most < 4294967296
  l : ∀ s ∈ a.l, s.Ok
theorem AlIn.below {w w' : World} {a : Al} {p : Option Addr} {c : Nat} (h : AlIn w a p c) (hb : Below w.heap.size w w') : AlIn w' a p c := ⟨h.s.below hb, h.len, h.few, h.nil, h.old, h.high, h.most, h.l⟩
/-- Its first forty-one hundred spares. -/
def Al.cut (a : Al) : Al := ⟨a.high, a.most, a.l.take 4100⟩
theorem Room.at' {w : World} {B g : Nat} {a : Al} (h : Room w B g a.l) (hok : a.Ok) (hf : a.l.length ≤ 4100) : AlAt w a (some ⟨g, 0, none⟩) 4100 :=
  ⟨h.sps, fun b hb => by cases hb; exact ⟨h.lt, rfl⟩, hf, by decide, (fun e => by cases e), hok⟩

end Go.Proofs.YtokbmimbbeedcaaGreatDoor

/- The law AllocOwn. -/
namespace Go.Proofs.YtokbmimbbeedcaaGreatDoor
open Go Go.RowKit Sm
attribute [local go_sem] Oper.semAt_some

/-- Where an answered list lies, as it is written into. -/
def Writ (w : World) (B : Nat) (p : Option Addr) (n : Nat) : Prop := n = 0 ∨ ∃ g cur, B ≤ g ∧ p = some ⟨g, 0, none⟩ ∧ w.heap[g]? = some (.cells (List.toArray cur) 70 (0, 0)) ∧ List.length cur = n * 2
/-- Only what p holds has turned. -/
def inP (p : Option Addr) : Nat → Prop := fun j => ∃ a, p = some a ∧ a.block = j
theorem Writ.at' {w : World} {B n : Nat} {p : Option Addr} (h : Writ w B p n) {i : Nat} (hi : i < n) : ∃ g x, p = some ⟨g, 0, none⟩ ∧ B ≤ g ∧ w.cell? ⟨g, i * 2, none⟩ = some x ∧ w.frozen? ⟨g, i * 2, none⟩ = false ∧ ∀ v, Writ (w.setCell ⟨g, i * 2, none⟩ v) B p n ∧ Turned (inP p) w (w.setCell ⟨g, i * 2, none⟩ v) := by
  rcases h with h0 | ⟨g, cur, h1, h2, h3, h4⟩
  · omega
  · have hc : i * 2 < cur.length := by omega
    refine ⟨g, cur[i * 2], h2, h1, by rw [cell_whole h3]; simp [hc], frozen_whole h3 _, fun v => ⟨.inr ⟨g, cur.set (i * 2) v, h1, h2, ?_, by simp [h4]⟩, (Turned.refl _ w).setCell (p := ⟨g, i * 2, none⟩) ⟨_, h2, rfl⟩ v⟩⟩
    have := heap_setCell_at h3 (i * 2) v
    simpa using this

end Go.Proofs.YtokbmimbbeedcaaGreatDoor

/- The walk of the document's own Right of an alloc. -/
namespace Go.Proofs.YtokbmimbbeedcaaGreatDoor
open Go Go.RowKit Sm
attribute [local go_sem] Oper.semAt_some

/-- The least page that may come next. -/
def leastOf (L : List Sp) : Nat → Nat
  | 0 => 2
  | j + 1 => (L.getD j Sp.zero).page + 1
theorem blw_nq {w w1 : World} (n : Nat) (h : Below w.heap.size w w1) : Below w.heap.size w (w1.drewN n) := ⟨h.os, h.tape, h.output, h.size, h.block⟩

set_option maxRecDepth 20000 in
set_option maxHeartbeats 2000000 in
theorem refright_of {w : World} {p : Option Addr} {a : Al} (h : Sps w p a.l) (c : Nat) (hok : Veil a.Ok) :
    Calls Tryz.prog 17 #[a.v p c] w fun e w' => e = .returned (.bool a.right) ∧ Below w.heap.size w w' := by
  have HRI : Veil _ := ⟨a.right_iff⟩
  obtain ⟨r, hr⟩ : ∃ r, a.right = r := ⟨_, rfl⟩
  rw [hr] at HRI ⊢
  clear hr
  obtain ⟨hi, mo, L⟩ := a
  unfold Al.v
  dsimp only at *
  have HH := Lib.hid h
  have hl : L.length ≤ 100000 := hok.out.few
  clear h
  by_cases h3' : mo < 2
  · obtain rfl : r = false := by cases r with | false => rfl | true => have := (HRI.out.1 rfl).1; omega
    go_enter Tryz.func17, Tryz.ntmps17
    go_wp2
    go_ret
    exact ⟨rfl, below_al (Below.refl _ _) _⟩
  by_cases h3 : 16384 < mo
  · obtain rfl : r = false := by cases r with | false => rfl | true => have := (HRI.out.1 rfl).1; omega
    go_enter Tryz.func17, Tryz.ntmps17
    go_wp2
    go_ret
    exact ⟨rfl, below_al (Below.refl _ _) _⟩
  by_cases h1 : hi < 2
  · obtain rfl : r = false := by cases r with | false => rfl | true => have := (HRI.out.1 rfl).1; omega
    go_enter Tryz.func17, Tryz.ntmps17
    go_wp2
    go_ret
    exact ⟨rfl, below_al (Below.refl _ _) _⟩
  by_cases h2 : mo < hi
  · obtain rfl : r = false := by cases r with | false => rfl | true => have := (HRI.out.1 rfl).1; omega
    go_enter Tryz.func17, Tryz.ntmps17
    go_wp2
    go_ret
    exact ⟨rfl, below_al (Below.refl _ _) _⟩
  by_cases h4 : 4096 < L.length
  · obtain rfl : r = false := by cases r with | false => rfl | true => have := (HRI.out.1 rfl).1; omega
    go_enter Tryz.func17, Tryz.ntmps17
    go_wp2
    go_ret
    exact ⟨rfl, below_al (Below.refl _ _) _⟩
  have HS : Veil (2 ≤ hi ∧ hi ≤ mo ∧ mo ≤ 16384 ∧ L.length ≤ 4096) := ⟨by omega⟩
  go_enter Tryz.func17, Tryz.ntmps17
  go_wp2
  clear h3' h3 h1 h2 h4
  obtain ⟨W1, hW1⟩ : ∃ W1, w.alloc (.cells #[.int .u32 hi, .int .u32 mo, .slice p L.length c] 34) = W1 := ⟨_, rfl⟩
  have HB1 : Veil (W1.heap[w.heap.size]? = some (.cells #[.int .u32 hi, .int .u32 mo, .slice p L.length c] 34 (0, 0))) := ⟨by rw [← hW1]; exact heap_alloc_new _ _⟩
  have HX1 : Veil (Below w.heap.size w W1) := ⟨by rw [← hW1]; exact below_al (Below.refl _ _) _⟩
  have HS1 : Veil _ := ⟨HH.out.below HX1.out⟩
  rw [hW1]
  clear hW1 HH
  go_loopw [3, 4] (fun i _ wr => ∃ k : Nat, k ≤ L.length ∧ i = .int .i64 k ∧ Veil (Below W1.heap.size W1 wr ∧ rising hi 2 L = rising hi (leastOf L k) (L.drop k) ∧ 2 ≤ leastOf L k)) (fun i _ _ => L.length - (intOf i).toNat)
  case atStart => exact ⟨0, Nat.zero_le _, rfl, ⟨Below.refl _ _, rfl, Nat.le_refl _⟩⟩
  case round =>
    obtain ⟨k, hk, rfl, hJ⟩ := hrel
    have HB2 : Veil _ := ⟨(hJ.out.1.block w.heap.size (lt_of_heap HB1.out)).trans HB1.out⟩
    obtain ⟨⟨a0, a1, a2⟩, -⟩ := pack3 HB2.out
    have hzz : w.heap.size < wr.heap.size := lt_of_heap HB2.out
    by_cases hlt : k < L.length
    · have HS2 : Veil _ := ⟨HS1.out.below hJ.out.1⟩
      obtain ⟨b, o, rfl, hc⟩ := HS2.out (by rintro rfl; simp at hlt)
      obtain ⟨c1, c2⟩ := hc k hlt
      have HR : Veil _ := ⟨by have := hJ.out.2.1; rw [drop_at hlt] at this; exact this⟩
      have HBL : Veil _ := ⟨hJ.out.1⟩
      have H2L : Veil _ := ⟨hJ.out.2.2⟩
      have hl1 : Veil (leastOf L (k + 1) = (L.getD k Sp.zero).page + 1) := ⟨rfl⟩
      have hbb : b < wr.heap.size := World.block_lt_of_cell? wr _ c1
      clear hJ
      revert c1 c2 HR hl1
      generalize L.getD k Sp.zero = s
      obtain ⟨sp, st⟩ := s
      intro c1 c2 HR hl1
      have stop : Veil (¬ (leastOf L k ≤ sp ∧ sp < hi ∧ 1 ≤ st) → r = false) := ⟨fun hn => by
        cases r with
        | false => rfl
        | true =>
          have := (HRI.out.1 rfl).2
          rw [HR.out] at this
          exact absurd ((rising_cons _ _ _ _).1 this).1 hn⟩
      have hkI : (0 : Int) ≤ k := by omega
      obtain ⟨W2, hW2⟩ : ∃ W2, wr.alloc (.cells #[.int .u32 sp, .int .u64 st] 70) = W2 := ⟨_, rfl⟩
      obtain ⟨S2, hS2⟩ : ∃ S2, wr.heap.size = S2 := ⟨_, rfl⟩
      have hb2 : Below wr.heap.size wr W2 := by rw [← hW2]; exact below_al (Below.refl _ _) _
      have HX2 : Veil (Below w.heap.size w W2) := ⟨alb_then (alb_then HX1.out HBL.out) hb2⟩
      have HBL2 : Veil (Below W1.heap.size W1 W2) := ⟨alb_then HBL.out hb2⟩
      obtain ⟨⟨s0, s1⟩, -⟩ := pack2 (show W2.heap[S2]? = some (.cells #[.int .u32 sp, .int .u64 st] 70 (0, 0)) by rw [← hW2, ← hS2]; exact heap_alloc_new _ _)
      obtain ⟨⟨b0, b1, b2⟩, -⟩ := pack3 ((hb2.block _ (lt_of_heap HB2.out)).trans HB2.out)
      have hbc : ∀ i, i < L.length → W2.cell? ⟨b, o + i * 2, none⟩ = some (.int .u32 (L.getD i Sp.zero).page) := fun i hi => (hb2.cell hbb).trans (hc i hi).1
      have HBC : Veil _ := ⟨hbc⟩
      clear hbc hb2 hbb hc
      by_cases g1 : sp < 2
      · obtain rfl : r = false := stop.out (by have := H2L.out; omega)
        have G1 : decide ((sp : Int) < 2) = true := by simp; omega
        clear g1
        go_wp2
        go_quiet (fail)
        go_wp2
        go_ret
        exact ⟨rfl, blw_nq _ HX2.out⟩
      have G1 : decide ((sp : Int) < 2) = false := by simp; omega
      by_cases g2 : hi ≤ sp
      · obtain rfl : r = false := stop.out (by omega)
        have G2 : decide (hi ≤ sp) = true := by simp [g2]
        clear g1 g2
        go_wp2
        go_quiet (fail)
        go_wp2
        go_ret
        exact ⟨rfl, blw_nq _ HX2.out⟩
      have G2 : decide (hi ≤ sp) = false := by simp [g2]
      by_cases g3 : st < 1
      · obtain rfl : r = false := stop.out (by omega)
        have G3 : decide ((st : Int) < 1) = true := by simp; omega
        clear g1 g2 g3
        go_wp2
        go_quiet (fail)
        go_wp2
        go_ret
        exact ⟨rfl, blw_nq _ HX2.out⟩
      have G3 : decide ((st : Int) < 1) = false := by simp; omega
      have HRR : Veil (leastOf L k ≤ sp → rising hi 2 L = rising hi (sp + 1) (L.drop (k + 1))) := ⟨fun e1 => by
        rw [HR.out]
        simp only [rising]
        have e2 : sp < hi := by omega
        have e3 : 1 ≤ st := by omega
        simp [e1, e2, e3]⟩
      have HG : Veil (¬ sp < 2) := ⟨g1⟩
      cases k with
      | zero =>
        have hrr := HRR.out (by have := H2L.out; show 2 ≤ sp; omega)
        have HRV : Veil _ := ⟨hrr⟩
        clear g1 g2 g3 hrr
        simp only [Nat.zero_mul, Nat.add_zero] at c1 c2
        go_wp2
        go_quiet (fail)
        go_wp2
        refine ⟨⟨1, by omega, rfl, ⟨blw_nq _ HBL2.out, by rw [hl1.out]; exact HRV.out, by have h1 : leastOf L 1 = sp + 1 := hl1.out; have h2 := HG.out; omega⟩⟩, ?_⟩
        simp only [intOf]; omega
      | succ j =>
        have d1 := HBC.out j (by omega)
        have hle : Veil (leastOf L (j + 1) = (L.getD j Sp.zero).page + 1) := ⟨rfl⟩
        revert d1 hle
        generalize (L.getD j Sp.zero).page = pv
        intro d1 hle
        have ej : ((j + 1 : Nat) : Int) - 1 = (j : Int) := by omega
        have ej2 : IntKind.i64.wrap (((j + 1 : Nat) : Int) - 1) = (j : Int) := by rw [IntKind.wrap_i64]; omega
        have ej3 : decide ((0 : Int) < ((j + 1 : Nat) : Int)) = true := by rw [decide_eq_true_eq]; omega
        have hj0 : (0 : Int) ≤ j := by omega
        have hj1 : (j : Int) < L.length := by omega
        by_cases g4 : sp ≤ pv
        · obtain rfl : r = false := stop.out (by have := hle.out; omega)
          have G4 : decide (sp ≤ pv) = true := by simp [g4]
          clear g1 g2 g3 g4
          go_wp2
          go_quiet (fail)
          go_wp2
          go_ret
          exact ⟨rfl, blw_nq _ HX2.out⟩
        · have G4 : decide (sp ≤ pv) = false := by simp [g4]
          have HRV : Veil _ := ⟨HRR.out (by have := hle.out; omega)⟩
          clear g1 g2 g3 g4
          go_wp2
          go_quiet (fail)
          go_wp2
          refine ⟨⟨j + 1 + 1, by omega, by go_num, ⟨blw_nq _ HBL2.out, by rw [hl1.out]; exact HRV.out, by have h1 := hl1.out; have h2 := HG.out; omega⟩⟩, ?_⟩
          simp only [intOf]; omega
    · obtain rfl : k = L.length := by omega
      obtain rfl : r = true := HRI.out.2 ⟨HS.out, by rw [hJ.out.2.1, List.drop_length]; rfl⟩
      have HX2 : Veil (Below w.heap.size w wr) := ⟨alb_then HX1.out hJ.out.1⟩
      clear hJ
      go_wp2
      go_ret
      exact ⟨rfl, HX2.out⟩
end Go.Proofs.YtokbmimbbeedcaaGreatDoor
