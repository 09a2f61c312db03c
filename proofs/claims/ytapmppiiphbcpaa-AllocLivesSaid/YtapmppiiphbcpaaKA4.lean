/- The walk of place: how many spares stand ahead of a page's place. -/
import Derived.Test.YtapmppiiphbcpaaKA1
import Derived.Test.YtapmppiiphbcpaaKPK
namespace Go.Proofs.Ytapmppiiphbcpaa
open Go Go.RowKit Sm
attribute [local go_sem] Oper.semAt_some

/-- Between two rounds over spares: the boxes of what is asked, of the count, of the list. -/
structure PlI (w : World) (B1 B2 : Nat) (p : Option Addr) (L : List Sp) (cap page k : Nat) (A : World) : Prop where
  pg : A.heap[w.heap.size]? = some (.cells #[.int .u32 page] 46 (0, 0))
  n : A.heap[B1]? = some (.cells #[.int .i64 k] 3 (0, 0))
  bx : A.heap[B2]? = some (.cells #[.slice p L.length cap] 57 (0, 0))
  s : Sps A p L
  t : Turned (fun _ => False) w A
section
variable {w : World} {B1 B2 : Nat} {p : Option Addr} {L : List Sp} {cap page k : Nat} {A A' : World}
theorem PlI.booked {B : Nat} (h : PlI w B1 B2 p L cap page k A) (hb : Booked B A A') (hB : w.heap.size ≤ B) : PlI w B1 B2 p L cap page k A' :=
  ⟨hb.heap h.pg, hb.heap h.n, hb.heap h.bx, h.s.booked hb, hb.turned h.t hB⟩
theorem PlI.new (h : PlI w B1 B2 p L cap page k A) (hb : Turned (fun _ => False) A A') : PlI w B1 B2 p L cap page k A' :=
  ⟨hb.heap h.pg (fun h => h), hb.heap h.n (fun h => h), hb.heap h.bx (fun h => h), h.s.turned hb (fun _ _ h => h), h.t.trans hb⟩
theorem PlI.more (h : PlI w B1 B2 p L cap page k A) (hp : ∀ a, p = some a → a.block < w.heap.size) (h1 : w.heap.size < B1) (h2 : B1 < B2) (k' : Nat) : PlI w B1 B2 p L cap page k' (A.setCell ⟨B1, 0, none⟩ (.int .i64 k')) :=
  have ht : Turned (· = B1) A (A.setCell ⟨B1, 0, none⟩ (.int .i64 k')) := (Turned.refl (· = B1) A).setCell (p := ⟨B1, 0, none⟩) rfl _
  ⟨ht.heap h.pg (by omega), heap_setCell_at h.n 0 _, ht.heap h.bx (by omega), h.s.turned ht (fun a ha e => by have := hp a ha; omega), h.t.then ht (fun k hk e => by omega)⟩
end
theorem old_block {w : World} {p : Option Addr} {L : List Sp} (h : Sps w p L) (hL : L ≠ []) : ∀ a, p = some a → a.block < w.heap.size := by
  obtain ⟨b, o, rfl, hr⟩ := h hL
  intro a ha
  cases ha
  exact World.block_lt_of_cell? w _ (hr 0 (by cases L with | nil => exact absurd rfl hL | cons => simp)).1

set_option maxRecDepth 20000 in
set_option maxHeartbeats 2000000 in
theorem place_of {w : World} {p : Option Addr} {L : List Sp} (h : Sps w p L) (hp : ∀ a, p = some a → a.block < w.heap.size) (cap page : Nat) (hl : L.length ≤ 100000) (_hpg : page < 4294967296) :
    Calls Try.prog 65 #[.slice p L.length cap, .int .u32 page] w fun e w' => e = .returned (.int .i64 (firstAt (ahead page) L)) ∧ Below w.heap.size w w' := by
  refine calls_of_wp_marks Try.func65 rfl ?_
  simp only [Try.ntmps65, List.size_toArray, List.length_cons, List.length_nil, Nat.reduceAdd, Nat.reduceSub, Array.replicate_succ, Array.replicate_zero, List.push_toArray, List.append_toArray, List.nil_append, List.cons_append]
  have HH := Lib.hid h
  clear h
  go_wp2
  go_step3
  go_wp2
  go_step3
  go_wp2_with (go_at_call 66; refine (aeach_any _ _ _ _).mono ?_; rintro e w1 ⟨rfl, hw1⟩)
  obtain ⟨B1, e1⟩ : ∃ B1, w.heap.size + 1 = B1 := ⟨_, rfl⟩
  obtain ⟨B2, e2⟩ : ∃ B2, B1 + 1 = B2 := ⟨_, rfl⟩
  have hI : PlI w B1 B2 p L cap page 0 w1 := by
    rw [← hw1]
    refine ⟨?_, ?_, ?_, HH.out.turned ((((Turned.refl (fun _ => False) w).alloc _).alloc _).alloc _) (fun _ _ h => h), (((Turned.refl (fun _ => False) w).alloc _).alloc _).alloc _⟩
    all_goals
      simp only [heap_alloc_if, World.size_alloc]
      repeat (first | rw [if_neg (by omega)] | rw [if_pos (by first | trivial | omega)])
    all_goals rfl
  have hz1 : w1.heap.size = B2 + 1 := by rw [← hw1]; simp; omega
  have HW : Veil (w.heap.size < B1 ∧ B1 < B2) := ⟨by omega⟩
  have HZ : Veil (w1.heap.size = B2 + 1) := ⟨hz1⟩
  rw [e1, e2]
  clear hw1 e1 e2 hz1
  refine wp_range_break (gf := 84) (lb := #[.pointer (some ⟨B2, 0, none⟩)]) rfl (enters_of Try.func84 (by kernel_rfl) rfl)
    (aeach_seq B2 p L cap (by omega)) (fun k => rfl)
    (fun k A => PlI w B1 B2 p L cap page k A ∧ ∀ i, i < k → ahead page (L.getD i Sp.zero) = false)
    (fun A => PlI w B1 B2 p L cap page (firstAt (ahead page) L) A) ?hI ?hE ?hF ?h0 ?hN ?hround ?hend
  case hI => rintro k A A' ⟨h1, h3⟩ hb; exact ⟨h1.booked hb (by have := HW.out; have := HZ.out; omega), h3⟩
  case hE => rintro A A' h1 hb; exact h1.booked hb (by have := HW.out; have := HZ.out; omega)
  case hF => rintro k A ⟨h, _⟩; exact ⟨cell_row1 h.bx, h.s⟩
  case h0 => exact ⟨hI, fun i hi => absurd hi (by omega)⟩
  case hN => rintro A ⟨h1, h3⟩; rw [firstAt_none h3]; exact h1
  case hround =>
    rintro l m k A hl2 hlt ⟨hi, hr⟩
    simp only [handsA, List.zip_cons_cons, List.zip_nil_right, List.foldl_cons, List.foldl_nil, List.setIfInBounds_toArray, List.set_cons_succ, List.set_cons_zero]
    have HR : Veil _ := ⟨hr⟩
    have HK : Veil (ahead page (L.getD k Sp.zero) = true → firstAt (ahead page) L = k) := ⟨fun ht => firstAt_of hlt ht hr⟩
    clear hI hr
    have HKF : Veil (ahead page (L.getD k Sp.zero) = false → ∀ i, i < k + 1 → ahead page (L.getD i Sp.zero) = false) := ⟨fun hf i hi => by
      rcases Nat.lt_or_eq_of_le (Nat.le_of_lt_succ hi) with h | h
      · exact HR.out i h
      · rw [h]; exact hf⟩
    revert HK HKF
    generalize L.getD k Sp.zero = s
    obtain ⟨pg, tx⟩ := s
    intro HK HKF
    gi_wp2
    have hT1 : Turned (fun _ => False) A (A.alloc (.cells #[.int .u32 pg, .int .u64 tx] 80)) := (Turned.refl _ A).alloc _
    refine ⟨keepsFrom_new hT1, fun A2 hbk hsz => ?_⟩
    have hi2 := (hi.new hT1).booked hbk (by have := HW.out; have := HZ.out; omega)
    have hs2 := hbk.heap (heap_alloc_new A (.cells #[.int .u32 pg, .int .u64 tx] 80))
    clear hi hT1 hbk
    have HI2 : Veil _ := ⟨hi2⟩
    have c0 := cell_row1 hi2.pg
    have c1 := cell_row1 hi2.n
    have f1 : A2.frozen? ⟨B1, 0, none⟩ = false := frozen_whole hi2.n _
    have hs3 : A2.heap[A.heap.size]? = some (.cells [Value.int .u32 pg, Value.int .u64 tx].toArray 80 (0, 0)) := hs2
    have c2 : A2.cell? ⟨A.heap.size, 0, none⟩ = some (.int .u32 pg) := cell_whole hs3 0
    clear hi2 hs2 hs3 hsz
    by_cases hge : page ≤ pg
    · have hgI : decide (page ≤ pg) = true := by simp [hge]
      have HP : Veil (firstAt (ahead page) L = k) := ⟨HK.out (by simp [ahead, hge])⟩
      clear hge
      gi_wp2
      exact ⟨KeepsFrom.refl _ _, rfl, by rw [HP.out]; exact HI2.out⟩
    · have hgI : decide (page ≤ pg) = false := by simp [hge]
      have HP : Veil _ := ⟨HKF.out (by simp [ahead, hge])⟩
      clear hge
      gi_wp2
      have hW := HW.out
      have hT := (Turned.refl (· = B1) A2).setCell (p := ⟨B1, 0, none⟩) rfl (.int .i64 ((k + 1 : Nat) : Int))
      have e : Value.int .i64 ((k : Int) + 1) = .int .i64 ((k + 1 : Nat) : Int) := by go_num
      rw [e]
      exact ⟨keepsFrom_turned hT (fun j hj => .inl (by have := HZ.out; omega)), HI2.out.more hp hW.1 hW.2 (k + 1), HP.out⟩
  case hend =>
    rintro Dd A hDd h1 hdd
    have HI : Veil _ := ⟨h1⟩
    have HD : Veil _ := ⟨hdd⟩
    have c1 := cell_row1 h1.n
    clear h1 hdd hI
    go_wp2
    try rw [Exit.noGoto_ret]
    refine leaves_mark (D := Dd) (B := w.heap.size) HD.out (by have := HW.out; have := HZ.out; omega) ?_
    intro w' hb _
    refine leaves_none (results_tmp rfl _ _ _) ⟨rfl, ?_⟩
    exact (hb.turned HI.out.t (Nat.le_refl _)).toBelow (Nat.le_refl _) (fun _ _ h => h.elim)
end Go.Proofs.Ytapmppiiphbcpaa

/- The walk of unread: the first spare that nobody reads any more. -/
namespace Go.Proofs.Ytapmppiiphbcpaa
open Go Go.RowKit Sm
attribute [local go_sem] Oper.semAt_some

/-- Between two rounds: the boxes of the oldest, of the answer, of what was found, of its place, of the list. -/
structure UnI (w : World) (B1 B2 B3 B4 : Nat) (p : Option Addr) (L : List Sp) (cap oldest at' : Nat) (s : Sp) (A : World) : Prop where
  o : A.heap[w.heap.size]? = some (.cells #[.int .u64 oldest] 47 (0, 0))
  r : A.heap[B1]? = some (.cells #[.int .u32 0, .int .u64 0] 80 (0, 0))
  f : A.heap[B2]? = some (.cells #[.int .u32 s.page, .int .u64 s.tx] 80 (0, 0))
  n : A.heap[B3]? = some (.cells #[.int .i64 at'] 3 (0, 0))
  bx : A.heap[B4]? = some (.cells #[.slice p L.length cap] 57 (0, 0))
  s : Sps A p L
  t : Turned (fun _ => False) w A
section
variable {w : World} {B1 B2 B3 B4 : Nat} {p : Option Addr} {L : List Sp} {cap oldest k : Nat} {s : Sp} {A A' : World}
theorem UnI.booked {B : Nat} (h : UnI w B1 B2 B3 B4 p L cap oldest k s A) (hb : Booked B A A') (hB : w.heap.size ≤ B) : UnI w B1 B2 B3 B4 p L cap oldest k s A' :=
  ⟨hb.heap h.o, hb.heap h.r, hb.heap h.f, hb.heap h.n, hb.heap h.bx, h.s.booked hb, hb.turned h.t hB⟩
theorem UnI.new (h : UnI w B1 B2 B3 B4 p L cap oldest k s A) (hb : Turned (fun _ => False) A A') : UnI w B1 B2 B3 B4 p L cap oldest k s A' :=
  ⟨hb.heap h.o (fun h => h), hb.heap h.r (fun h => h), hb.heap h.f (fun h => h), hb.heap h.n (fun h => h), hb.heap h.bx (fun h => h), h.s.turned hb (fun _ _ h => h), h.t.trans hb⟩
theorem UnI.found (h : UnI w B1 B2 B3 B4 p L cap oldest k s A) (hp : ∀ a, p = some a → a.block < w.heap.size) (h1 : w.heap.size < B1) (h2 : B1 < B2) (h3 : B2 < B3) (h4 : B3 < B4) (k' : Nat) (s' : Sp) :
    UnI w B1 B2 B3 B4 p L cap oldest k' s' (((A.setCell ⟨B3, 0, none⟩ (.int .i64 k')).setCell ⟨B2, 0, none⟩ (.int .u32 s'.page)).setCell ⟨B2, 1, none⟩ (.int .u64 s'.tx)) :=
  have ht3 : Turned (· = B3) A (A.setCell ⟨B3, 0, none⟩ (.int .i64 k')) := (Turned.refl (· = B3) A).setCell (p := ⟨B3, 0, none⟩) rfl _
  have ht2 : Turned (· = B2) (A.setCell ⟨B3, 0, none⟩ (.int .i64 k')) (((A.setCell ⟨B3, 0, none⟩ (.int .i64 k')).setCell ⟨B2, 0, none⟩ (.int .u32 s'.page)).setCell ⟨B2, 1, none⟩ (.int .u64 s'.tx)) :=
    ((Turned.refl (· = B2) _).setCell (p := ⟨B2, 0, none⟩) rfl _).setCell (p := ⟨B2, 1, none⟩) rfl _
  ⟨ht2.heap (ht3.heap h.o (by omega)) (by omega), ht2.heap (ht3.heap h.r (by omega)) (by omega), heap_setCell_at (heap_setCell_at (ht3.heap h.f (by omega)) 0 _) 1 _, ht2.heap (heap_setCell_at h.n 0 _) (by omega), ht2.heap (ht3.heap h.bx (by omega)) (by omega),
    (h.s.turned ht3 (fun a ha e => by have := hp a ha; omega)).turned ht2 (fun a ha e => by have := hp a ha; omega), (h.t.then ht3 (fun k hk e => by omega)).then ht2 (fun k hk e => by omega)⟩
end
theorem pack2 {w : World} {g : Nat} {a0 a1 : Value} {t : TypeId} (h : w.heap[g]? = some (.cells #[a0, a1] t (0, 0))) :
    (w.cell? ⟨g, 0, none⟩ = some a0 ∧ w.cell? ⟨g, 1, none⟩ = some a1) ∧ (w.frozen? ⟨g, 0, none⟩ = false ∧ w.frozen? ⟨g, 1, none⟩ = false) := by
  have h' : w.heap[g]? = some (.cells [a0, a1].toArray t (0, 0)) := h
  exact ⟨⟨cell_whole h' 0, cell_whole h' 1⟩, frozen_whole h _, frozen_whole h _⟩
/-- What is answered. -/
def unAt (oldest : Nat) (L : List Sp) : Nat := if firstAt (old oldest) L < L.length then firstAt (old oldest) L else 0
def unSp (oldest : Nat) (L : List Sp) : Sp := if firstAt (old oldest) L < L.length then L.getD (firstAt (old oldest) L) Sp.zero else Sp.zero

theorem results_spare2 {fn : Func} {p q : Tmp} {tmps : Array Value} {w : World} {g : Nat} {x0 x1 y : Value} (h : fn.results = #[.tmp q, .cell p 80]) (hp : tmps.getD p undef = .pointer (some ⟨g, 0, none⟩)) (hq : tmps.getD q undef = y) (hg : w.heap[g]? = some (.cells #[x0, x1] 80 (0, 0))) :
    (results fn tmps).run Try.prog w = .ok (.tuple #[y, .agg #[x0, x1]]) w := by
  have hp' : tmps[p]?.getD undef = .pointer (some ⟨g, 0, none⟩) := by simpa using hp
  have hq' : tmps[q]?.getD undef = y := by simpa using hq
  have c0 : w.cell? ⟨g, 0, none⟩ = some x0 := (pack2 hg).1.1
  have c1 : w.cell? ⟨g, 1, none⟩ = some x1 := (pack2 hg).1.2
  simp [results, h, go_sem, hp', hq', c0, c1]

set_option maxRecDepth 20000 in
set_option maxHeartbeats 2000000 in
theorem unread_of {w : World} {p : Option Addr} {L : List Sp} (h : Sps w p L) (hp : ∀ a, p = some a → a.block < w.heap.size) (cap oldest : Nat) (hl : L.length ≤ 100000) :
    Calls Try.prog 62 #[.slice p L.length cap, .int .u64 oldest] w fun e w' => e = .returned (.tuple #[.int .i64 (unAt oldest L), (unSp oldest L).v]) ∧ Below w.heap.size w w' := by
  refine calls_of_wp_marks Try.func62 rfl ?_
  simp only [Try.ntmps62, List.size_toArray, List.length_cons, List.length_nil, Nat.reduceAdd, Nat.reduceSub, Array.replicate_succ, Array.replicate_zero, List.push_toArray, List.append_toArray, List.nil_append, List.cons_append]
  have HH := Lib.hid h
  clear h
  go_wp2
  go_step3
  go_wp2
  go_step3
  go_wp2_with (go_at_call 66; refine (aeach_any _ _ _ _).mono ?_; rintro e w1 ⟨rfl, hw1⟩)
  obtain ⟨B1, e1⟩ : ∃ B1, w.heap.size + 1 = B1 := ⟨_, rfl⟩
  obtain ⟨B2, e2⟩ : ∃ B2, B1 + 1 = B2 := ⟨_, rfl⟩
  obtain ⟨B3, e3⟩ : ∃ B3, B2 + 1 = B3 := ⟨_, rfl⟩
  obtain ⟨B4, e4⟩ : ∃ B4, B3 + 1 = B4 := ⟨_, rfl⟩
  have hI : UnI w B1 B2 B3 B4 p L cap oldest 0 Sp.zero w1 := by
    rw [← hw1]
    refine ⟨?_, ?_, ?_, ?_, ?_, HH.out.turned ((((((Turned.refl (fun _ => False) w).alloc _).alloc _).alloc _).alloc _).alloc _) (fun _ _ h => h), (((((Turned.refl (fun _ => False) w).alloc _).alloc _).alloc _).alloc _).alloc _⟩
    all_goals
      simp only [heap_alloc_if, World.size_alloc]
      repeat (first | rw [if_neg (by omega)] | rw [if_pos (by first | trivial | omega)])
    all_goals rfl
  have hz1 : w1.heap.size = B4 + 1 := by rw [← hw1]; simp; omega
  have HW : Veil (w.heap.size < B1 ∧ B1 < B2 ∧ B2 < B3 ∧ B3 < B4) := ⟨by omega⟩
  have HZ : Veil (w1.heap.size = B4 + 1) := ⟨hz1⟩
  rw [e1, e2, e3, e4]
  clear hw1 e1 e2 e3 e4 hz1
  refine wp_range_break (gf := 84) (lb := #[.pointer (some ⟨B4, 0, none⟩)]) rfl (enters_of Try.func84 (by kernel_rfl) rfl)
    (aeach_seq B4 p L cap (by omega)) (fun k => rfl)
    (fun k A => UnI w B1 B2 B3 B4 p L cap oldest 0 Sp.zero A ∧ ∀ i, i < k → old oldest (L.getD i Sp.zero) = false)
    (fun A => UnI w B1 B2 B3 B4 p L cap oldest (unAt oldest L) (unSp oldest L) A) ?hI ?hE ?hF ?h0 ?hN ?hround ?hend
  case hI => rintro k A A' ⟨h1, h3⟩ hb; exact ⟨h1.booked hb (by have := HW.out; have := HZ.out; omega), h3⟩
  case hE => rintro A A' h1 hb; exact h1.booked hb (by have := HW.out; have := HZ.out; omega)
  case hF => rintro k A ⟨h, _⟩; exact ⟨cell_row1 h.bx, h.s⟩
  case h0 => exact ⟨hI, fun i hi => absurd hi (by omega)⟩
  case hN =>
    rintro A ⟨h1, h3⟩
    have := firstAt_none h3
    rw [unAt, unSp, if_neg (by omega), if_neg (by omega)]
    exact h1
  case hround =>
    rintro l m k A hl2 hlt ⟨hi, hr⟩
    simp only [handsA, List.zip_cons_cons, List.zip_nil_right, List.foldl_cons, List.foldl_nil, List.setIfInBounds_toArray, List.set_cons_succ, List.set_cons_zero]
    have HR : Veil _ := ⟨hr⟩
    have HK : Veil (old oldest (L.getD k Sp.zero) = true → unAt oldest L = k ∧ unSp oldest L = L.getD k Sp.zero) := ⟨fun ht => by
      have := firstAt_of hlt ht hr
      rw [unAt, unSp, this, if_pos hlt, if_pos hlt]
      exact ⟨rfl, rfl⟩⟩
    have HBA : Veil (B4 < A.heap.size) := ⟨lt_of_heap hi.bx⟩
    clear hI hr
    have HKF : Veil (old oldest (L.getD k Sp.zero) = false → ∀ i, i < k + 1 → old oldest (L.getD i Sp.zero) = false) := ⟨fun hf i hi => by
      rcases Nat.lt_or_eq_of_le (Nat.le_of_lt_succ hi) with h | h
      · exact HR.out i h
      · rw [h]; exact hf⟩
    revert HK HKF
    generalize L.getD k Sp.zero = s
    obtain ⟨pg, tx⟩ := s
    intro HK HKF
    gi_wp2
    have hT1 : Turned (fun _ => False) A (A.alloc (.cells #[.int .u32 pg, .int .u64 tx] 80)) := (Turned.refl _ A).alloc _
    refine ⟨keepsFrom_new hT1, fun A2 hbk hsz => ?_⟩
    have hi2 := (hi.new hT1).booked hbk (by have := HW.out; have := HZ.out; omega)
    have hs2 := hbk.heap (heap_alloc_new A (.cells #[.int .u32 pg, .int .u64 tx] 80))
    clear hi hT1 hbk
    have HI2 : Veil _ := ⟨hi2⟩
    have c0 := cell_row1 hi2.o
    obtain ⟨⟨c1, c2⟩, -⟩ := pack2 hs2
    have HS2 : Veil _ := ⟨hs2⟩
    clear hi2 hs2 hsz
    by_cases hge : tx ≤ oldest
    · have hgI : decide (tx ≤ oldest) = true := by simp [hge]
      have HP : Veil _ := ⟨HK.out (by simp [old, hge])⟩
      clear hge
      gi_wp2
      have q3 := cell_row1 HI2.out.n
      have g3 : A2.frozen? ⟨B3, 0, none⟩ = false := frozen_whole HI2.out.n _
      have hAb : A.heap.size ≠ B3 := by have := HW.out; have := HBA.out; omega
      have hAb' : B3 ≠ A.heap.size := fun e => hAb e.symm
      have h32 : B3 ≠ B2 := by have := HW.out; omega
      obtain ⟨W5, hW5⟩ : ∃ W5, A2.drew = W5 := ⟨_, rfl⟩
      have hS : W5.cell? ⟨A.heap.size, 0, none⟩ = some (.int .u32 pg) ∧ W5.cell? ⟨A.heap.size, 1, none⟩ = some (.int .u64 tx) := by rw [← hW5]; exact ⟨c1, c2⟩
      refine region_plan_in 3 [(true, 0), (true, 1), (false, 2)] (by kernel_rfl) (by kernel_rfl) (by rfl) (fun w' => w'.cell? ⟨A.heap.size, 0, none⟩ = some (.int .u32 pg) ∧ w'.cell? ⟨A.heap.size, 1, none⟩ = some (.int .u64 tx)) W5 hW5 hS ?_
      simp only [planOps, List.filterMap_cons, List.filterMap_nil, List.getElem?_toArray, List.getElem?_cons_zero, List.getElem?_cons_succ, Option.map_some]
      iterate 2 (refine plan_quiet rfl ?_ ?_ (fun K hK => ?_); rotate_left; (rintro w' ⟨s0, s1⟩; go_simp; rfl); (go_simp; refine hK _ ?_; clear hK K))
      have HSS : Veil _ := ⟨hS⟩
      have q5 : W5.cell? ⟨B3, 0, none⟩ = some (.int .i64 0) := by rw [← hW5]; exact q3
      have g5 : W5.frozen? ⟨B3, 0, none⟩ = false := by rw [← hW5]; exact g3
      have HT5 : Veil (Turned (fun _ => False) A2 W5) := ⟨by rw [← hW5]; exact (Turned.refl _ A2).drew⟩
      have HI5 : Veil _ := ⟨HI2.out.new HT5.out⟩
      obtain ⟨⟨r0, r1⟩, k0, k1⟩ := pack2 HI5.out.f
      clear hW5 hS q3 g3
      refine plan_change (fun K hK => ?_)
      go_wp2
      refine hK _ _ ⟨?_, ?_⟩ ?_
      · go_simp; exact HSS.out.1
      · go_simp; exact HSS.out.2
      clear hK K
      refine wpPlan_nil ?_
      simp only [List.drop_succ_cons, List.drop_zero]
      go_wp2
      refine only_normal ?_
      gi_wp2
      have hT : Turned (fun j => j = B2 ∨ j = B3) A2 (((W5.setCell ⟨B3, 0, none⟩ (.int .i64 k)).setCell ⟨B2, 0, none⟩ (.int .u32 pg)).setCell ⟨B2, 1, none⟩ (.int .u64 tx)) :=
        (((HT5.out.wider (F := fun j => j = B2 ∨ j = B3) (fun _ _ h => h.elim)).setCell (p := ⟨B3, 0, none⟩) (.inr rfl) _).setCell (p := ⟨B2, 0, none⟩) (.inl rfl) _).setCell (p := ⟨B2, 1, none⟩) (.inl rfl) _
      have hW := HW.out
      refine ⟨keepsFrom_turned hT (fun j hj => .inl (by have := HZ.out; omega)), rfl, ?_⟩
      rw [HP.out.1, HP.out.2]
      exact HI5.out.found hp hW.1 hW.2.1 hW.2.2.1 hW.2.2.2 k ⟨pg, tx⟩
    · have hgI : decide (tx ≤ oldest) = false := by simp [hge]
      have HP : Veil _ := ⟨HKF.out (by simp [old, hge])⟩
      clear hge
      gi_wp2
      exact ⟨KeepsFrom.refl _ _, HI2.out, HP.out⟩
  case hend =>
    rintro Dd A hDd h1 hdd
    have HI : Veil _ := ⟨h1⟩
    have HD : Veil _ := ⟨hdd⟩
    obtain ⟨a, ha⟩ : ∃ a, unAt oldest L = a := ⟨_, rfl⟩
    obtain ⟨s, hs⟩ : ∃ s, unSp oldest L = s := ⟨_, rfl⟩
    rw [ha, hs] at h1 HI
    have HA : Veil _ := ⟨ha⟩
    have HSP : Veil _ := ⟨hs⟩
    clear ha hs
    obtain ⟨pg, tx⟩ := s
    have c1 := cell_row1 h1.n
    have hc : A.cell? ⟨B2, 0, none⟩ = some (.int .u32 pg) ∧ A.cell? ⟨B2, 1, none⟩ = some (.int .u64 tx) := (pack2 h1.f).1
    obtain ⟨c2, c3⟩ := hc
    obtain ⟨⟨r0, r1⟩, k0, k1⟩ := pack2 h1.r
    clear h1 hdd hI
    obtain ⟨W5, hW5⟩ : ∃ W5, A.drew = W5 := ⟨_, rfl⟩
    go_wp2
    refine region_tail 3 (by kernel_rfl) (by kernel_rfl) W5 hW5 ?_
    have hq : W5.cell? ⟨B3, 0, none⟩ = some (.int .i64 a) ∧ W5.cell? ⟨B2, 0, none⟩ = some (.int .u32 pg) ∧ W5.cell? ⟨B2, 1, none⟩ = some (.int .u64 tx) ∧ W5.cell? ⟨B1, 0, none⟩ = some (.int .u32 0) ∧ W5.cell? ⟨B1, 1, none⟩ = some (.int .u64 0) ∧ W5.frozen? ⟨B1, 0, none⟩ = false ∧ W5.frozen? ⟨B1, 1, none⟩ = false := by rw [← hW5]; exact ⟨c1, c2, c3, r0, r1, k0, k1⟩
    have HT5 : Veil (Turned (fun _ => False) A W5) := ⟨by rw [← hW5]; exact (Turned.refl _ A).drew⟩
    clear c1 c2 c3 r0 r1 k0 k1 hW5
    obtain ⟨c1, c2, c3, r0, r1, k0, k1⟩ := hq
    simp only [List.take_succ_cons, List.take_zero, List.drop_succ_cons, List.drop_zero]
    iterate 3 still_step
    refine wpStill_nil ?_
    go_wp2
    refine only_normal ?_
    go_wp2
    try rw [Exit.noGoto_ret]
    have hT : Turned (· = B1) A ((W5.setCell ⟨B1, 0, none⟩ (.int .u32 pg)).setCell ⟨B1, 1, none⟩ (.int .u64 tx)) := (((HT5.out.wider (F := (· = B1)) (fun _ _ h => h.elim)).setCell (p := ⟨B1, 0, none⟩) rfl _).setCell (p := ⟨B1, 1, none⟩) rfl _)
    have hdd : ((W5.setCell ⟨B1, 0, none⟩ (.int .u32 pg)).setCell ⟨B1, 1, none⟩ (.int .u64 tx)).heap[Dd]? = some (.deferred (some [])) := hT.heap HD.out (by have := HW.out; have := HZ.out; omega)
    have hr := heap_setCell_at (heap_setCell_at ((HT5.out.heap HI.out.r (fun h => h))) 0 (.int .u32 pg)) 1 (.int .u64 tx)
    refine leaves_mark (D := Dd) (B := w.heap.size) hdd (by have := HW.out; have := HZ.out; omega) ?_
    intro w' hb _
    refine leaves_none (results_spare2 (g := B1) (y := .int .i64 a) rfl rfl rfl (hb.heap hr)) ⟨by rw [HA.out, HSP.out]; rfl, ?_⟩
    exact (hb.turned (HI.out.t.then hT (fun k hk e => by have := HW.out; omega)) (Nat.le_refl _)).toBelow (Nat.le_refl _) (fun _ _ h => h.elim)
end Go.Proofs.Ytapmppiiphbcpaa

/- The walk of Right of an alloc. -/
namespace Go.Proofs.Ytapmppiiphbcpaa
open Go Go.RowKit Sm
attribute [local go_sem] Oper.semAt_some

def Al.v (a : Al) (p : Option Addr) (c : Nat) : Value := .agg #[.int .u32 a.high, .int .u32 a.most, .slice p a.l.length c]
/-- Between two rounds: the boxes of the alloc, of the answer, of the least page, of the list. -/
structure RiI (w : World) (B1 B2 B3 : Nat) (hi mo : Nat) (p : Option Addr) (L : List Sp) (c least : Nat) (A : World) : Prop where
  a : A.heap[w.heap.size]? = some (.cells #[.int .u32 hi, .int .u32 mo, .slice p L.length c] 59 (0, 0))
  r : A.heap[B1]? = some (.cells #[.bool false] 4 (0, 0))
  n : A.heap[B2]? = some (.cells #[.int .u32 least] 46 (0, 0))
  bx : A.heap[B3]? = some (.cells #[.slice p L.length c] 57 (0, 0))
  s : Sps A p L
  t : Turned (fun _ => False) w A
section
variable {w : World} {B1 B2 B3 hi mo : Nat} {p : Option Addr} {L : List Sp} {c least : Nat} {A A' : World}
theorem RiI.booked {B : Nat} (h : RiI w B1 B2 B3 hi mo p L c least A) (hb : Booked B A A') (hB : w.heap.size ≤ B) : RiI w B1 B2 B3 hi mo p L c least A' :=
  ⟨hb.heap h.a, hb.heap h.r, hb.heap h.n, hb.heap h.bx, h.s.booked hb, hb.turned h.t hB⟩
theorem RiI.new (h : RiI w B1 B2 B3 hi mo p L c least A) (hb : Turned (fun _ => False) A A') : RiI w B1 B2 B3 hi mo p L c least A' :=
  ⟨hb.heap h.a (fun h => h), hb.heap h.r (fun h => h), hb.heap h.n (fun h => h), hb.heap h.bx (fun h => h), h.s.turned hb (fun _ _ h => h), h.t.trans hb⟩
theorem RiI.more (h : RiI w B1 B2 B3 hi mo p L c least A) (hp : ∀ a, p = some a → a.block < w.heap.size) (h1 : w.heap.size < B1) (h2 : B1 < B2) (h3 : B2 < B3) (k' : Nat) : RiI w B1 B2 B3 hi mo p L c k' (A.setCell ⟨B2, 0, none⟩ (.int .u32 k')) :=
  have ht : Turned (· = B2) A (A.setCell ⟨B2, 0, none⟩ (.int .u32 k')) := (Turned.refl (· = B2) A).setCell (p := ⟨B2, 0, none⟩) rfl _
  ⟨ht.heap h.a (by omega), ht.heap h.r (by omega), heap_setCell_at h.n 0 _, ht.heap h.bx (by omega), h.s.turned ht (fun a ha e => by have := hp a ha; omega), h.t.then ht (fun k hk e => by omega)⟩
end
theorem pack3 {w : World} {g : Nat} {a0 a1 a2 : Value} {t : TypeId} (h : w.heap[g]? = some (.cells #[a0, a1, a2] t (0, 0))) :
    (w.cell? ⟨g, 0, none⟩ = some a0 ∧ w.cell? ⟨g, 1, none⟩ = some a1 ∧ w.cell? ⟨g, 2, none⟩ = some a2) ∧ (w.frozen? ⟨g, 0, none⟩ = false ∧ w.frozen? ⟨g, 1, none⟩ = false ∧ w.frozen? ⟨g, 2, none⟩ = false) := by
  have h' : w.heap[g]? = some (.cells [a0, a1, a2].toArray t (0, 0)) := h
  exact ⟨⟨cell_whole h' 0, cell_whole h' 1, cell_whole h' 2⟩, frozen_whole h _, frozen_whole h _, frozen_whole h _⟩
theorem drop_at {L : List Sp} {k : Nat} (h : k < L.length) : L.drop k = L.getD k Sp.zero :: L.drop (k + 1) := by
  rw [List.drop_eq_getElem_cons h]
  simp [List.getD, h]

theorem results_bool {fn : Func} {p : Tmp} {tmps : Array Value} {w : World} {g : Nat} {x : Value} (h : fn.results = #[.cell p 4]) (hp : tmps.getD p undef = .pointer (some ⟨g, 0, none⟩)) (hg : w.heap[g]? = some (.cells #[x] 4 (0, 0))) :
    (results fn tmps).run Try.prog w = .ok x w := by
  have hp' : tmps[p]?.getD undef = .pointer (some ⟨g, 0, none⟩) := by simpa using hp
  have c0 := cell_row1 hg
  simp [results, h, go_sem, hp', c0]

set_option maxRecDepth 20000 in
set_option maxHeartbeats 2000000 in
theorem aright_of {w : World} {p : Option Addr} {a : Al} (h : Sps w p a.l) (hp : ∀ b, p = some b → b.block < w.heap.size) (c : Nat) (hok : Veil a.Ok) :
    Calls Try.prog 35 #[a.v p c] w fun e w' => e = .returned (.bool a.right) ∧ Below w.heap.size w w' := by
  refine calls_of_wp_marks Try.func35 rfl ?_
  simp only [Try.ntmps35, List.size_toArray, List.length_cons, List.length_nil, Nat.reduceAdd, Nat.reduceSub, Array.replicate_succ, Array.replicate_zero, List.push_toArray, List.append_toArray, List.nil_append, List.cons_append]
  have HRI : Veil _ := ⟨a.right_iff⟩
  obtain ⟨r, hr⟩ : ∃ r, a.right = r := ⟨_, rfl⟩
  rw [hr] at HRI ⊢
  clear hr
  obtain ⟨hi, mo, L⟩ := a
  unfold Al.v
  dsimp only at *
  have HH := Lib.hid h
  have hl : L.length ≤ 100000 := hok.out.few
  clear h
  by_cases h1 : hi < 2
  · obtain rfl : r = false := by cases r with | false => rfl | true => have := (HRI.out.1 rfl).1.1; omega
    go_wp2
    exact leaves_none (results_bool (g := w.heap.size + 1) rfl rfl (heap_alloc2_new _ _ _)) ⟨rfl, below_al (below_al (Below.refl _ _) _) _⟩
  by_cases h2 : mo < hi
  · obtain rfl : r = false := by cases r with | false => rfl | true => have := (HRI.out.1 rfl).1.2.1; omega
    go_wp2
    exact leaves_none (results_bool (g := w.heap.size + 1) rfl rfl (heap_alloc2_new _ _ _)) ⟨rfl, below_al (below_al (Below.refl _ _) _) _⟩
  by_cases h3 : 16384 < mo
  · obtain rfl : r = false := by cases r with | false => rfl | true => have := (HRI.out.1 rfl).1.2.2.1; omega
    go_wp2
    exact leaves_none (results_bool (g := w.heap.size + 1) rfl rfl (heap_alloc2_new _ _ _)) ⟨rfl, below_al (below_al (Below.refl _ _) _) _⟩
  by_cases h4 : 4096 < L.length
  · obtain rfl : r = false := by cases r with | false => rfl | true => have := (HRI.out.1 rfl).1.2.2.2; omega
    go_wp2
    exact leaves_none (results_bool (g := w.heap.size + 1) rfl rfl (heap_alloc2_new _ _ _)) ⟨rfl, below_al (below_al (Below.refl _ _) _) _⟩
  go_wp2_with (go_at_call 66; refine (aeach_any _ _ _ _).mono ?_; rintro e w1 ⟨rfl, hw1⟩)
  obtain ⟨B1, e1⟩ : ∃ B1, w.heap.size + 1 = B1 := ⟨_, rfl⟩
  obtain ⟨B2, e2⟩ : ∃ B2, B1 + 1 = B2 := ⟨_, rfl⟩
  obtain ⟨B3, e3⟩ : ∃ B3, B2 + 1 = B3 := ⟨_, rfl⟩
  have hI : RiI w B1 B2 B3 hi mo p L c 2 w1 := by
    rw [← hw1]
    refine ⟨?_, ?_, ?_, ?_, HH.out.turned (((((Turned.refl (fun _ => False) w).alloc _).alloc _).alloc _).alloc _) (fun _ _ h => h), ((((Turned.refl (fun _ => False) w).alloc _).alloc _).alloc _).alloc _⟩
    all_goals
      simp only [heap_alloc_if, World.size_alloc]
      repeat (first | rw [if_neg (by omega)] | rw [if_pos (by first | trivial | omega)])
    all_goals rfl
  have hz1 : w1.heap.size = B3 + 1 := by rw [← hw1]; simp; omega
  have HW : Veil (w.heap.size < B1 ∧ B1 < B2 ∧ B2 < B3) := ⟨by omega⟩
  have HZ : Veil (w1.heap.size = B3 + 1) := ⟨hz1⟩
  rw [e1, e2, e3]
  clear hw1 e1 e2 e3 hz1
  have HS : Veil (2 ≤ hi ∧ hi ≤ mo ∧ mo ≤ 16384 ∧ L.length ≤ 4096) := ⟨by omega⟩
  refine wp_range_seq (gf := 84) (lb := #[.pointer (some ⟨B3, 0, none⟩)]) rfl (enters_of Try.func84 (by kernel_rfl) rfl)
    (aeach_seq B3 p L c (by omega)) (fun k => rfl)
    (fun k A => ∃ least, RiI w B1 B2 B3 hi mo p L c least A ∧ rising hi 2 L = rising hi least (L.drop k) ∧ least ≤ 100000)
    (fun cd k A => cd = .ret ∧ r = false ∧ A.heap[B1]? = some (.cells #[.bool false] 4 (0, 0)) ∧ Turned (fun _ => False) w A) ?hI ?hIx ?hF ?h0 ?hround ?hdone ?hstop
  case hI => rintro k A A' ⟨least, h1, h2⟩ hb; exact ⟨least, h1.booked hb (by have := HW.out; have := HZ.out; omega), h2⟩
  case hIx => rintro cd k A A' ⟨h1, h2, h3, h4⟩ hb; exact ⟨h1, h2, hb.heap h3, hb.turned h4 (by have := HW.out; have := HZ.out; omega)⟩
  case hF => rintro k A ⟨least, h, _⟩; exact ⟨cell_row1 h.bx, h.s⟩
  case h0 => exact ⟨2, hI, rfl, by omega⟩
  case hround =>
    rintro l m k A hl2 hlt ⟨least, hi1, hr, hle⟩
    simp only [handsA, List.zip_cons_cons, List.zip_nil_right, List.foldl_cons, List.foldl_nil, List.setIfInBounds_toArray, List.set_cons_succ, List.set_cons_zero]
    rw [drop_at hlt] at hr
    have HR : Veil _ := ⟨hr⟩
    clear hI hr
    revert HR
    generalize L.getD k Sp.zero = s
    obtain ⟨pg, tx⟩ := s
    intro HR
    gi_wp2
    have hT1 : Turned (fun _ => False) A (A.alloc (.cells #[.int .u32 pg, .int .u64 tx] 80)) := (Turned.refl _ A).alloc _
    refine ⟨keepsFrom_new hT1, fun A2 hbk hsz => ?_⟩
    have hi2 := (hi1.new hT1).booked hbk (by have := HW.out; have := HZ.out; omega)
    have hs2 := hbk.heap (heap_alloc_new A (.cells #[.int .u32 pg, .int .u64 tx] 80))
    clear hi1 hT1 hbk
    have HI2 : Veil _ := ⟨hi2⟩
    obtain ⟨⟨a0, a1, a2⟩, -⟩ := pack3 hi2.a
    have q1 := cell_row1 hi2.r
    have f1 : A2.frozen? ⟨B1, 0, none⟩ = false := frozen_whole hi2.r _
    have q2 := cell_row1 hi2.n
    have f2 : A2.frozen? ⟨B2, 0, none⟩ = false := frozen_whole hi2.n _
    obtain ⟨⟨c1, c2⟩, -⟩ := pack2 hs2
    clear hi2 hs2 hsz
    have stop : Veil (¬ (least ≤ pg ∧ pg < hi ∧ 1 ≤ tx) → r = false) := ⟨fun hn => by
      cases r with
      | false => rfl
      | true =>
        have := (HRI.out.1 rfl).2
        rw [HR.out] at this
        exact absurd ((rising_cons _ _ _ _).1 this).1 hn⟩
    have badEnd : r = false → KeepsFrom w1.heap.size A2 (A2.setCell ⟨B1, 0, none⟩ (.bool false)) ∧ r = false ∧ (A2.setCell ⟨B1, 0, none⟩ (.bool false)).heap[B1]? = some (.cells #[.bool false] 4 (0, 0)) ∧ Turned (fun _ => False) w (A2.setCell ⟨B1, 0, none⟩ (.bool false)) := fun hr => by
      have hT : Turned (· = B1) A2 (A2.setCell ⟨B1, 0, none⟩ (.bool false)) := (Turned.refl (· = B1) A2).setCell (p := ⟨B1, 0, none⟩) rfl _
      have hW := HW.out
      exact ⟨keepsFrom_turned hT (fun j hj => .inl (by have := HZ.out; omega)), hr, heap_setCell_at HI2.out.r 0 _, HI2.out.t.then hT (fun j hj e => by omega)⟩
    have HBE : Veil _ := ⟨badEnd⟩
    clear badEnd
    by_cases g1 : pg < least
    · have G1 : decide (pg < least) = true := by simp [g1]
      gi_wp2
      have hbe := HBE.out (stop.out (by omega))
      exact ⟨hbe.1, rfl, hbe.2⟩
    have G1 : decide (pg < least) = false := by simp [g1]
    by_cases g2 : hi ≤ pg
    · have G2 : decide (hi ≤ pg) = true := by simp [g2]
      gi_wp2
      have hbe := HBE.out (stop.out (by omega))
      exact ⟨hbe.1, rfl, hbe.2⟩
    have G2 : decide (hi ≤ pg) = false := by simp [g2]
    by_cases g3 : tx < 1
    · gi_wp2
      have hbe := HBE.out (stop.out (by omega))
      exact ⟨hbe.1, rfl, hbe.2⟩
    have HRR : Veil (rising hi 2 L = rising hi (pg + 1) (L.drop (k + 1))) := ⟨by
      rw [HR.out]
      simp only [rising]
      have e1 : least ≤ pg := by omega
      have e2 : pg < hi := by omega
      have e3 : 1 ≤ tx := by omega
      simp [e1, e2, e3]⟩
    have hpg : pg < 16384 := by have := HS.out; omega
    have hnw : ¬ (4294967295 : Int) < (pg : Int) + 1 := by omega
    gi_wp2
    have e : Value.int .u32 ((pg : Int) + 1) = .int .u32 ((pg + 1 : Nat) : Int) := by go_num
    rw [e]
    have hT := (Turned.refl (· = B2) A2).setCell (p := ⟨B2, 0, none⟩) rfl (.int .u32 ((pg + 1 : Nat) : Int))
    have hW := HW.out
    exact ⟨keepsFrom_turned hT (fun j hj => .inl (by have := HZ.out; omega)), pg + 1, HI2.out.more hp hW.1 hW.2.1 hW.2.2 (pg + 1), HRR.out, by omega⟩
  case hdone =>
    rintro Dd A hDd ⟨least, h1, hr, -⟩ hdd
    have HI : Veil _ := ⟨h1⟩
    have HD : Veil _ := ⟨hdd⟩
    obtain rfl : r = true := HRI.out.2 ⟨HS.out, by rw [hr, List.drop_length]; rfl⟩
    have q1 := cell_row1 h1.r
    have f1 : A.frozen? ⟨B1, 0, none⟩ = false := frozen_whole h1.r _
    clear h1 hdd hI hr
    go_wp2
    have hT : Turned (· = B1) A (A.setCell ⟨B1, 0, none⟩ (.bool true)) := (Turned.refl (· = B1) A).setCell (p := ⟨B1, 0, none⟩) rfl _
    refine leaves_mark (D := Dd) (B := w.heap.size) (hT.heap HD.out (by have := HW.out; have := HZ.out; omega)) (by have := HW.out; have := HZ.out; omega) ?_
    intro w' hb _
    refine leaves_none (results_bool (g := B1) rfl rfl (hb.heap (heap_setCell_at HI.out.r 0 (.bool true)))) ⟨rfl, ?_⟩
    exact (hb.turned (HI.out.t.then hT (fun k hk e => by have := HW.out; omega)) (Nat.le_refl _)).toBelow (Nat.le_refl _) (fun _ _ h => h.elim)
  case hstop =>
    rintro Dd cd k A hDd hlt ⟨rfl, rfl, h3, h4⟩ hdd
    clear hI
    go_wp2
    refine leaves_mark (D := Dd) (B := w.heap.size) hdd (by have := HW.out; have := HZ.out; omega) ?_
    intro w' hb _
    refine leaves_none (results_bool (g := B1) rfl rfl (hb.heap h3)) ⟨rfl, ?_⟩
    exact (hb.turned h4 (Nat.le_refl _)).toBelow (Nat.le_refl _) (fun _ _ h => h.elim)
end Go.Proofs.Ytapmppiiphbcpaa
