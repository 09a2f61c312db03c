/- Goods, by the program: each and its iterator, cut, first. -/
import Derived.Test.YtckkiilbabbeaaaDoorKI0
import Derived.Test.YtckkiilbabbeaaaDoorKI4
import Derived.Test.YtckkiilbabbeaaaDoorKO1
import Derived.Test.YtckkiilbabbeaaaDoorKS3
namespace Go.Proofs.YtckkiilbabbeaaaDoor
open Go Go.RowKit Sm
attribute [local go_sem] Oper.semAt_some

theorem calls_roundG {P : Program} {f : FuncId} {args : Array Value} {w : World} {R : Ending → World → Prop} {l m : Nat} (h : Calls P f args w R) :
    Fence.wide.fn f ∧ (Fence.wide.depth.isSome = true → 1 ≤ m) ∧ CallsIn (Fence.wide.inRound l) (m - 1) P f args w R := by
  refine ⟨trivial, fun hd => by simp [Fence.wide] at hd, ?_⟩
  have h' := (callsIn_wide (n := m - 1)).2 h
  refine ⟨trivial, fun cs hr => ?_⟩
  obtain ⟨e, w2, fr, hR, hs, hf⟩ := h'.2 cs (room_wide _)
  exact ⟨e, w2, fr, hR, hs, hf⟩
theorem packG {w : World} {g : Nat} {a0 a1 : Value} {t : TypeId} (h : w.heap[g]? = some (.cells #[a0, a1] t (0, 0))) :
    (w.cell? ⟨g, 0, none⟩ = some a0 ∧ w.cell? ⟨g, 1, none⟩ = some a1) ∧ (w.frozen? ⟨g, 0, none⟩ = false ∧ w.frozen? ⟨g, 1, none⟩ = false) := by
  have h' : w.heap[g]? = some (.cells [a0, a1].toArray t (0, 0)) := h
  exact ⟨⟨cell_whole h' 0, cell_whole h' 1⟩, frozen_whole h _, frozen_whole h _⟩
theorem results_tmpst {fn : Func} {p q : Tmp} {tmps : Array Value} {w : World} {g : Nat} {x0 x1 y : Value} (h : fn.results = #[.tmp q, .cell p 25]) (hp : tmps.getD p undef = .pointer (some ⟨g, 0, none⟩)) (hq : tmps.getD q undef = y) (hg : w.heap[g]? = some (.cells #[x0, x1] 25 (0, 0))) :
    (results fn tmps).run Tryd.prog w = .ok (.tuple #[y, .agg #[x0, x1]]) w := by
  have hp' : tmps[p]?.getD undef = .pointer (some ⟨g, 0, none⟩) := by simpa using hp
  have hq' : tmps[q]?.getD undef = y := by simpa using hq
  have c0 : w.cell? ⟨g, 0, none⟩ = some x0 := (packG hg).1.1
  have c1 : w.cell? ⟨g, 1, none⟩ = some x1 := (packG hg).1.2
  simp [results, h, go_sem, hp', hq', c0, c1]
section
variable {α : Type} {E : El α}
theorem els_old {w : World} {p : Option Addr} {L : List α} (h : Els E w p L) (hL : L ≠ []) : ∀ a, p = some a → a.block < w.heap.size := by
  obtain ⟨b, o, rfl, hr⟩ := h hL
  intro a ha
  cases ha
  have h0 := hr 0 0 (by cases L with | nil => exact absurd rfl hL | cons => simp) E.pos
  have h2 : 0 < (E.enc (L.getD 0 E.d)).length := by rw [E.len]; exact E.pos
  rw [List.getElem?_eq_getElem h2] at h0
  exact (World.block_lt_of_cell? w _ h0 :)
theorem Els.turned' {F : Nat → Prop} {w w' : World} {p : Option Addr} {L : List α} (h : Els E w p L) (ht : Turned F w w') (hF : L ≠ [] → ∀ a, p = some a → ¬ F a.block) : Els E w' p L := by
  by_cases hL : L = []
  · subst hL; exact Els.nil _ _
  · exact h.turned ht (hF hL)
theorem Els.booked' {B : Nat} {w w' : World} {p : Option Addr} {L : List α} (h : Els E w p L) (hb : Booked B w w') : Els E w' p L := h.cells fun _ _ _ _ _ hx => hb.cell6 hx
end

/-! ### The iterator -/
theorem gdeach_any (p : Option Addr) (n c : Nat) (w : World) : Calls Tryd.prog 62 #[.slice p n c] w fun e w' => e = .returned (.func (.func 76) #[] #[.pointer (some ⟨w.heap.size, 0, none⟩)]) ∧ w.alloc (.cells #[.slice p n c] 38) = w' := by
  go_enter Tryd.func62, Tryd.ntmps62
  go_wp2
  go_ret
  exact ⟨rfl, rfl⟩
def handsG (L : List St) (k : Nat) : Array Value := #[.int .i64 k, .agg #[.int .u16 (L.getD k St.zero).item, .int .i64 (L.getD k St.zero).n]]
def ReadsG (Bx : Nat) (p : Option Addr) (L : List St) (cap : Nat) (W : World) : Prop := W.cell? ⟨Bx, 0, none⟩ = some (.slice p L.length cap) ∧ Els elS W p L

set_option maxRecDepth 20000 in
set_option maxHeartbeats 1000000 in
theorem gdeach_seq (Bx : Nat) (p : Option Addr) (L : List St) (cap : Nat) (hl : L.length ≤ 1000000) :
    Seq Tryd.prog 76 #[.pointer (some ⟨Bx, 0, none⟩)] (handsG L) L.length (ReadsG Bx p L cap) := by
  intro l n J Jx W hJ hJx hF hY h0
  obtain ⟨hf1, -⟩ := hF 0 W h0
  refine callsIn_of_wp Tryd.func76 rfl trivial ?_
  simp only [Tryd.ntmps76, List.size_toArray, List.length_cons, List.length_nil, Nat.reduceAdd, Nat.reduceSub, Array.replicate_succ, Array.replicate_zero, List.push_toArray, List.append_toArray, List.nil_append, List.cons_append]
  gi_wp2
  gi_loopw [7] (fun i wr => ∃ k : Nat, k ≤ L.length ∧ i = .int .i64 k ∧ J k wr) (fun i _ => L.length - (intOf i).toNat)
  case atStart => exact ⟨0, Nat.zero_le _, rfl, h0⟩
  case round =>
    obtain ⟨k, hk, rfl, hj⟩ := hrel
    clear hf1
    by_cases hlt : k < L.length
    · obtain ⟨-, hs⟩ := hF k wr hj
      obtain ⟨b, o, rfl, c1, c2⟩ := elS_at hs hlt
      have hYk := fun A hA => hY k A hlt hA
      simp only [handsG] at hYk
      have HY := Lib.hid hYk
      have HJ := Lib.hid hJ
      clear hs hY hF hYk hJ hJx
      revert c1 c2 HY
      generalize L.getD k St.zero = s
      obtain ⟨it, n⟩ := s
      intro c1 c2 HY
      have hb3 : Below wr.heap.size wr (wr.alloc (.cells #[.int .u16 it, .int .i64 n] 25)) := below_al (Below.refl _ _) _
      obtain ⟨fn, tmps, assign, body, hy, hR⟩ := HY.out _ (HJ.out k wr _ hj hb3)
      clear hb3
      gi_wp2
      refine hR.mono ?_
      rintro e W3 (⟨rfl, hj'⟩ | ⟨rfl, hjx⟩)
      · gi_wp2
        go_roundw
        case rel => exact ⟨k + 1, by omega, by go_num, hj'⟩
        case measure => simp [intOf]; omega
      · gi_wp2
        refine bodyPost_ret (results_none rfl _ _ _) rfl ?_
        exact ⟨⟨_, rfl⟩, .inr ⟨k, hlt, hjx⟩⟩
    · obtain rfl : k = L.length := by omega
      gi_wp2
      go_end0
      exact ⟨⟨_, rfl⟩, .inl hj⟩

/-! ### first -/
theorem idx_at {α : Type} {so : α → Bool} {L : List α} {d : α} {k : Nat} (h : k < L.length) (ht : so (L.getD k d) = true) (hn : ∀ i, i < k → so (L.getD i d) = false) : L.findIdx so = k := by
  rw [List.findIdx_eq h]
  have e : ∀ j, (hj : j < L.length) → L.getD j d = L[j] := fun j hj => by simp [List.getD, hj]
  rw [e k h] at ht
  refine ⟨ht, fun j hj => ?_⟩
  have := hn j hj
  rwa [e j (by omega)] at this
theorem idx_none {α : Type} {so : α → Bool} {L : List α} {d : α} (hn : ∀ i, i < L.length → so (L.getD i d) = false) : L.findIdx so = L.length := by
  rw [List.findIdx_eq_length]
  intro x hx
  obtain ⟨i, hi, rfl⟩ := List.getElem_of_mem hx
  have := hn i hi
  rwa [show L.getD i d = L[i] by simp [List.getD, hi]] at this
/-- Between two rounds: the boxes of what is asked, of the answer, of the place, of what was found, of the list. -/
structure FiI (w : World) (B1 B2 B3 B4 : Nat) (p : Option Addr) (L : List St) (cap : Nat) (F : Value) (at' : Nat) (s : St) (A : World) : Prop where
  o : A.heap[w.heap.size]? = some (.cells #[F] 109 (0, 0))
  r : A.heap[B1]? = some (.cells #[.int .u16 0, .int .i64 0] 25 (0, 0))
  n : A.heap[B2]? = some (.cells #[.int .i64 at'] 3 (0, 0))
  f : A.heap[B3]? = some (.cells #[.int .u16 s.item, .int .i64 s.n] 25 (0, 0))
  bx : A.heap[B4]? = some (.cells #[.slice p L.length cap] 38 (0, 0))
  s : Els elS A p L
  t : Turned (fun _ => False) w A
section
variable {w : World} {B1 B2 B3 B4 : Nat} {p : Option Addr} {L : List St} {cap k : Nat} {F : Value} {s : St} {A A' : World}
theorem FiI.booked {B : Nat} (h : FiI w B1 B2 B3 B4 p L cap F k s A) (hb : Booked B A A') (hB : w.heap.size ≤ B) : FiI w B1 B2 B3 B4 p L cap F k s A' :=
  ⟨hb.heap h.o, hb.heap h.r, hb.heap h.n, hb.heap h.f, hb.heap h.bx, h.s.booked' hb, hb.turned h.t hB⟩
theorem FiI.new (h : FiI w B1 B2 B3 B4 p L cap F k s A) (hb : Turned (fun _ => False) A A') : FiI w B1 B2 B3 B4 p L cap F k s A' :=
  ⟨hb.heap h.o (fun h => h), hb.heap h.r (fun h => h), hb.heap h.n (fun h => h), hb.heap h.f (fun h => h), hb.heap h.bx (fun h => h), h.s.turned hb (fun _ _ h => h), h.t.trans hb⟩
theorem FiI.found (h : FiI w B1 B2 B3 B4 p L cap F k s A) (hp : L ≠ [] → ∀ a, p = some a → a.block < w.heap.size) (h1 : w.heap.size < B1) (h2 : B1 < B2) (h3 : B2 < B3) (h4 : B3 < B4) (k' : Nat) (s' : St) :
    FiI w B1 B2 B3 B4 p L cap F k' s' (((A.setCell ⟨B2, 0, none⟩ (.int .i64 k')).setCell ⟨B3, 0, none⟩ (.int .u16 s'.item)).setCell ⟨B3, 1, none⟩ (.int .i64 s'.n)) :=
  have ht2 : Turned (· = B2) A (A.setCell ⟨B2, 0, none⟩ (.int .i64 k')) := (Turned.refl (· = B2) A).setCell (p := ⟨B2, 0, none⟩) rfl _
  have ht3 : Turned (· = B3) (A.setCell ⟨B2, 0, none⟩ (.int .i64 k')) (((A.setCell ⟨B2, 0, none⟩ (.int .i64 k')).setCell ⟨B3, 0, none⟩ (.int .u16 s'.item)).setCell ⟨B3, 1, none⟩ (.int .i64 s'.n)) :=
    ((Turned.refl (· = B3) _).setCell (p := ⟨B3, 0, none⟩) rfl _).setCell (p := ⟨B3, 1, none⟩) rfl _
  ⟨ht3.heap (ht2.heap h.o (by omega)) (by omega), ht3.heap (ht2.heap h.r (by omega)) (by omega), ht3.heap (heap_setCell_at h.n 0 _) (by omega), heap_setCell_at (heap_setCell_at (ht2.heap h.f (by omega)) 0 _) 1 _, ht3.heap (ht2.heap h.bx (by omega)) (by omega),
    (h.s.turned' ht2 (fun hL a ha e => by have := hp hL a ha; omega)).turned' ht3 (fun hL a ha e => by have := hp hL a ha; omega), (h.t.then ht2 (fun k hk e => by omega)).then ht3 (fun k hk e => by omega)⟩
end

set_option maxRecDepth 20000 in
set_option maxHeartbeats 2000000 in
theorem gdfirst_of {w : World} {p : Option Addr} {L : List St} (h : Els elS w p L) (cap : Nat) (hl : L.length ≤ 100000) (hw : GdW L) (cf : FuncId) (g : Nat) (u : Value) (so : St → Bool) (hg : w.cell? ⟨g, 0, none⟩ = some u) (heg : ∀ args w, (callFunc cf args).run Tryd.prog w = .ok (.enter cf args) w)
    (hso : ∀ W (s : St), s.item < 65536 → W.cell? ⟨g, 0, none⟩ = some u → Calls Tryd.prog cf #[s.v, .pointer (some ⟨g, 0, none⟩)] W fun e w' => e = .returned (.bool (so s)) ∧ Below W.heap.size W w') :
    Calls Tryd.prog 77 #[.slice p L.length cap, .func (.func cf) #[] #[.pointer (some ⟨g, 0, none⟩)]] w fun e w' => e = .returned (.tuple #[.int .i64 (L.findIdx so), (L.getD (L.findIdx so) St.zero).v]) ∧ Below w.heap.size w w' := by
  refine calls_of_wp_marks Tryd.func77 rfl ?_
  simp only [Tryd.ntmps77, List.size_toArray, List.length_cons, List.length_nil, Nat.reduceAdd, Nat.reduceSub, Array.replicate_succ, Array.replicate_zero, List.push_toArray, List.append_toArray, List.nil_append, List.cons_append]
  have hp := els_old h
  have HH := Lib.hid h
  have HG : Veil _ := ⟨hg⟩
  have HSO : Veil _ := ⟨hso⟩
  have HWD : Veil _ := ⟨hw⟩
  clear h hg hso hw
  go_wp2
  go_step3
  go_wp2
  go_step3
  go_wp2_with (go_at_call 62; refine (gdeach_any _ _ _ _).mono ?_; rintro e w1 ⟨rfl, hw1⟩)
  obtain ⟨B1, e1⟩ : ∃ B1, w.heap.size + 1 = B1 := ⟨_, rfl⟩
  obtain ⟨B2, e2⟩ : ∃ B2, B1 + 1 = B2 := ⟨_, rfl⟩
  obtain ⟨B3, e3⟩ : ∃ B3, B2 + 1 = B3 := ⟨_, rfl⟩
  obtain ⟨B4, e4⟩ : ∃ B4, B3 + 1 = B4 := ⟨_, rfl⟩
  obtain ⟨F, hFv⟩ : ∃ F, Value.func (.func cf) #[] #[.pointer (some ⟨g, 0, none⟩)] = F := ⟨_, rfl⟩
  have hI : FiI w B1 B2 B3 B4 p L cap F L.length St.zero w1 := by
    rw [← hw1, ← hFv]
    refine ⟨?_, ?_, ?_, ?_, ?_, HH.out.turned ((((((Turned.refl (fun _ => False) w).alloc _).alloc _).alloc _).alloc _).alloc _) (fun _ _ h => h), (((((Turned.refl (fun _ => False) w).alloc _).alloc _).alloc _).alloc _).alloc _⟩
    all_goals
      simp only [heap_alloc_if, World.size_alloc]
      repeat (first | rw [if_neg (by omega)] | rw [if_pos (by first | trivial | omega)])
    all_goals rfl
  have hz1 : w1.heap.size = B4 + 1 := by rw [← hw1]; simp; omega
  have HW : Veil (w.heap.size < B1 ∧ B1 < B2 ∧ B2 < B3 ∧ B3 < B4) := ⟨by omega⟩
  have HZ : Veil (w1.heap.size = B4 + 1) := ⟨hz1⟩
  have HFv : Veil _ := ⟨hFv⟩
  rw [e1, e2, e3, e4]
  clear hw1 e1 e2 e3 e4 hz1
  refine wp_range_break (gf := 76) (lb := #[.pointer (some ⟨B4, 0, none⟩)]) rfl (enters_of Tryd.func76 (by kernel_rfl) rfl)
    (gdeach_seq B4 p L cap (by omega)) (fun k => rfl)
    (fun k A => FiI w B1 B2 B3 B4 p L cap F L.length St.zero A ∧ ∀ i, i < k → so (L.getD i St.zero) = false)
    (fun A => FiI w B1 B2 B3 B4 p L cap F (L.findIdx so) (L.getD (L.findIdx so) St.zero) A) ?hI ?hE ?hF ?h0 ?hN ?hround ?hend
  case hI => rintro k A A' ⟨h1, h3⟩ hb; exact ⟨h1.booked hb (by have := HW.out; have := HZ.out; omega), h3⟩
  case hE => rintro A A' h1 hb; exact h1.booked hb (by have := HW.out; have := HZ.out; omega)
  case hF => rintro k A ⟨h, _⟩; exact ⟨cell_row6 h.bx, h.s⟩
  case h0 => exact ⟨hI, fun i hi => absurd hi (by omega)⟩
  case hN =>
    rintro A ⟨h1, h3⟩
    rw [idx_none h3, show L.getD L.length St.zero = St.zero by simp [List.getD]]
    exact h1
  case hround =>
    rintro l m k A hl2 hlt ⟨hi, hr⟩
    simp only [handsG, List.zip_cons_cons, List.zip_nil_right, List.foldl_cons, List.foldl_nil, List.setIfInBounds_toArray, List.set_cons_succ, List.set_cons_zero]
    have HR : Veil _ := ⟨hr⟩
    have HWk : Veil _ := ⟨HWD.out.at' hlt⟩
    have HK : Veil (so (L.getD k St.zero) = true → L.findIdx so = k ∧ L.getD (L.findIdx so) St.zero = L.getD k St.zero) := ⟨fun ht => by
      have := idx_at hlt ht hr
      rw [this]
      exact ⟨rfl, rfl⟩⟩
    have HBA : Veil (B4 < A.heap.size) := ⟨lt_of_heap hi.bx⟩
    clear hI hr hFv
    have HKF : Veil (so (L.getD k St.zero) = false → ∀ i, i < k + 1 → so (L.getD i St.zero) = false) := ⟨fun hf i hi => by
      rcases Nat.lt_or_eq_of_le (Nat.le_of_lt_succ hi) with h | h
      · exact HR.out i h
      · rw [h]; exact hf⟩
    have HC : Veil _ := ⟨fun W => HSO.out W (L.getD k St.zero) HWk.out⟩
    clear HSO
    revert HK HKF HWk HC
    generalize L.getD k St.zero = s
    obtain ⟨it, n⟩ := s
    intro HWk HK HKF HC
    unfold St.v at HC
    dsimp only at HC HWk
    gi_wp2
    have hT1 : Turned (fun _ => False) A (A.alloc (.cells #[.int .u16 it, .int .i64 n] 25)) := (Turned.refl _ A).alloc _
    refine ⟨keepsFrom_new6 hT1, fun A2 hbk hsz => ?_⟩
    have hi2 := (hi.new hT1).booked hbk (by have := HW.out; have := HZ.out; omega)
    have hs2 := hbk.heap (heap_alloc_new A (.cells #[.int .u16 it, .int .i64 n] 25))
    clear hi hT1 hbk
    have HI2 : Veil _ := ⟨hi2⟩
    have c0 := cell_row6 hi2.o
    rw [← HFv.out] at c0
    obtain ⟨⟨c1, c2⟩, -⟩ := packG hs2
    have HS2 : Veil _ := ⟨hs2⟩
    have HG2 : Veil _ := ⟨hi2.t.cell HG.out (fun h => h)⟩
    clear hi2 hs2 hsz
    by_cases hge : so ⟨it, n⟩ = true
    · have HP : Veil _ := ⟨HK.out hge⟩
      rw [hge] at HC
      clear hge
      gi_wp2_with (refine calls_roundG ?_; refine (HC.out _ HG2.out).mono ?_; rintro e w2 ⟨rfl, hb2⟩; have HI3 : Veil _ := ⟨HI2.out.new (Turned.new hb2)⟩; have HT2 : Veil (Turned (fun _ => False) A2 w2) := ⟨Turned.new hb2⟩; have HS3 : Veil _ := ⟨(Turned.new hb2 : Turned (fun _ => False) _ _).heap HS2.out (fun h => h)⟩; clear c0 c1 c2 hb2; obtain ⟨⟨c1, c2⟩, -⟩ := packG HS3.out)
      have q3 := cell_row6 HI3.out.n
      have g3 : w2.frozen? ⟨B2, 0, none⟩ = false := frozen_whole HI3.out.n _
      have hAb : A.heap.size ≠ B2 := by have := HW.out; have := HBA.out; omega
      have hAb' : B2 ≠ A.heap.size := fun e => hAb e.symm
      have h32 : B2 ≠ B3 := by have := HW.out; omega
      obtain ⟨W5, hW5⟩ : ∃ W5, w2.drew = W5 := ⟨_, rfl⟩
      have hS : W5.cell? ⟨A.heap.size, 0, none⟩ = some (.int .u16 it) ∧ W5.cell? ⟨A.heap.size, 1, none⟩ = some (.int .i64 n) := by rw [← hW5]; exact ⟨c1, c2⟩
      refine region_plan_in 3 [(true, 0), (true, 1), (false, 2)] (by kernel_rfl) (by kernel_rfl) (by rfl) (fun w' => w'.cell? ⟨A.heap.size, 0, none⟩ = some (.int .u16 it) ∧ w'.cell? ⟨A.heap.size, 1, none⟩ = some (.int .i64 n)) W5 hW5 hS ?_
      simp only [planOps, List.filterMap_cons, List.filterMap_nil, List.getElem?_toArray, List.getElem?_cons_zero, List.getElem?_cons_succ, Option.map_some]
      iterate 2 (refine plan_quiet rfl ?_ ?_ (fun K hK => ?_); rotate_left; (rintro w' ⟨s0, s1⟩; go_simp; rfl); (go_simp; refine hK _ ?_; clear hK K))
      have HSS : Veil _ := ⟨hS⟩
      have q5 : W5.cell? ⟨B2, 0, none⟩ = some (.int .i64 L.length) := by rw [← hW5]; exact q3
      have g5 : W5.frozen? ⟨B2, 0, none⟩ = false := by rw [← hW5]; exact g3
      have HT5 : Veil (Turned (fun _ => False) w2 W5) := ⟨by rw [← hW5]; exact (Turned.refl _ w2).drew⟩
      have HI5 : Veil _ := ⟨HI3.out.new HT5.out⟩
      obtain ⟨⟨r0, r1⟩, k0, k1⟩ := packG HI5.out.f
      clear hW5 hS q3 g3
      refine plan_change (fun K hK => ?_)
      go_wp2
      refine hK _ _ ⟨?_, ?_⟩ ?_
      · go_simp; exact HSS.out.1
      · go_simp; exact HSS.out.2
      clear hK K
      refine wpPlan_nil ?_
      simp only [List.drop_succ_cons, List.drop_zero]
      go_wp2
      refine only_normal ?_
      gi_wp2
      have hT : Turned (fun j => j = B3 ∨ j = B2) w2 (((W5.setCell ⟨B2, 0, none⟩ (.int .i64 k)).setCell ⟨B3, 0, none⟩ (.int .u16 it)).setCell ⟨B3, 1, none⟩ (.int .i64 n)) :=
        (((HT5.out.wider (F := fun j => j = B3 ∨ j = B2) (fun _ _ h => h.elim)).setCell (p := ⟨B2, 0, none⟩) (.inr rfl) _).setCell (p := ⟨B3, 0, none⟩) (.inl rfl) _).setCell (p := ⟨B3, 1, none⟩) (.inl rfl) _
      have hW := HW.out
      refine ⟨keepsFrom_turned6 ((HT2.out.wider (fun _ _ h => h.elim)).trans hT) (fun j hj => .inl (by have := HZ.out; omega)), rfl, ?_⟩
      rw [HP.out.2, HP.out.1]
      exact HI5.out.found hp hW.1 hW.2.1 hW.2.2.1 hW.2.2.2 k ⟨it, n⟩
    · have hgf : so ⟨it, n⟩ = false := by simpa using hge
      have HP : Veil _ := ⟨HKF.out hgf⟩
      rw [hgf] at HC
      clear hge hgf
      gi_wp2_with (refine calls_roundG ?_; refine (HC.out _ HG2.out).mono ?_; rintro e w2 ⟨rfl, hb2⟩; have HI3 : Veil _ := ⟨HI2.out.new (Turned.new hb2)⟩; have HT2 : Veil (Turned (fun _ => False) A2 w2) := ⟨Turned.new hb2⟩; clear c0 c1 c2 hb2)
      exact ⟨keepsFrom_new6 HT2.out, HI3.out, HP.out⟩
  case hend =>
    rintro Dd A hDd h1 hdd
    have HI : Veil _ := ⟨h1⟩
    have HD : Veil _ := ⟨hdd⟩
    clear HSO
    obtain ⟨a, ha⟩ : ∃ a, L.findIdx so = a := ⟨_, rfl⟩
    rw [ha] at h1 HI
    obtain ⟨s, hs⟩ : ∃ s, L.getD a St.zero = s := ⟨_, rfl⟩
    rw [hs] at h1 HI
    have HA : Veil _ := ⟨ha⟩
    have HSP : Veil _ := ⟨hs⟩
    clear ha hs
    obtain ⟨it, n⟩ := s
    have c1 := cell_row6 h1.n
    have hc : A.cell? ⟨B3, 0, none⟩ = some (.int .u16 it) ∧ A.cell? ⟨B3, 1, none⟩ = some (.int .i64 n) := (packG h1.f).1
    obtain ⟨c2, c3⟩ := hc
    obtain ⟨⟨r0, r1⟩, k0, k1⟩ := packG h1.r
    clear h1 hdd hI
    obtain ⟨W5, hW5⟩ : ∃ W5, A.drew = W5 := ⟨_, rfl⟩
    go_wp2
    refine region_tail 3 (by kernel_rfl) (by kernel_rfl) W5 hW5 ?_
    have hq : W5.cell? ⟨B2, 0, none⟩ = some (.int .i64 a) ∧ W5.cell? ⟨B3, 0, none⟩ = some (.int .u16 it) ∧ W5.cell? ⟨B3, 1, none⟩ = some (.int .i64 n) ∧ W5.cell? ⟨B1, 0, none⟩ = some (.int .u16 0) ∧ W5.cell? ⟨B1, 1, none⟩ = some (.int .i64 0) ∧ W5.frozen? ⟨B1, 0, none⟩ = false ∧ W5.frozen? ⟨B1, 1, none⟩ = false := by rw [← hW5]; exact ⟨c1, c2, c3, r0, r1, k0, k1⟩
    have HT5 : Veil (Turned (fun _ => False) A W5) := ⟨by rw [← hW5]; exact (Turned.refl _ A).drew⟩
    clear c1 c2 c3 r0 r1 k0 k1 hW5
    obtain ⟨c1, c2, c3, r0, r1, k0, k1⟩ := hq
    simp only [List.take_succ_cons, List.take_zero, List.drop_succ_cons, List.drop_zero]
    iterate 3 still_step
    refine wpStill_nil ?_
    go_wp2
    refine only_normal ?_
    go_wp2
    try rw [Exit.noGoto_ret]
    have hT : Turned (· = B1) A ((W5.setCell ⟨B1, 0, none⟩ (.int .u16 it)).setCell ⟨B1, 1, none⟩ (.int .i64 n)) := (((HT5.out.wider (F := (· = B1)) (fun _ _ h => h.elim)).setCell (p := ⟨B1, 0, none⟩) rfl _).setCell (p := ⟨B1, 1, none⟩) rfl _)
    have hdd : ((W5.setCell ⟨B1, 0, none⟩ (.int .u16 it)).setCell ⟨B1, 1, none⟩ (.int .i64 n)).heap[Dd]? = some (.deferred (some [])) := hT.heap HD.out (by have := HW.out; have := HZ.out; omega)
    have hr := heap_setCell_at (heap_setCell_at ((HT5.out.heap HI.out.r (fun h => h))) 0 (.int .u16 it)) 1 (.int .i64 n)
    refine leaves_mark (D := Dd) (B := w.heap.size) hdd (by have := HW.out; have := HZ.out; omega) ?_
    intro w' hb _
    refine leaves_none (results_tmpst (g := B1) (y := .int .i64 a) rfl rfl rfl (hb.heap hr)) ⟨by rw [HA.out, HSP.out]; rfl, ?_⟩
    exact (hb.turned (HI.out.t.then hT (fun k hk e => by have := HW.out; omega)) (Nat.le_refl _)).toBelow (Nat.le_refl _) (fun _ _ h => h.elim)
end Go.Proofs.YtckkiilbabbeaaaDoor

/- Goods, by the program: Count, place. -/
namespace Go.Proofs.YtckkiilbabbeaaaDoor
open Go Go.RowKit Sm
attribute [local go_sem] Oper.semAt_some

theorem gdisc_any (item g : Nat) (W : World) (s : St) (hg : W.cell? ⟨g, 0, none⟩ = some (.int .u16 item)) :
    Calls Tryd.prog 78 #[s.v, .pointer (some ⟨g, 0, none⟩)] W fun e w' => e = .returned (.bool (decide (s.item = item))) ∧ Below W.heap.size W w' := by
  obtain ⟨si, sn⟩ := s
  unfold St.v
  dsimp only
  have hne : g ≠ W.heap.size := by have := World.block_lt_of_cell? _ _ hg; dsimp only at this; omega
  have hlt : g < W.heap.size := World.block_lt_of_cell? _ _ hg
  by_cases h : si = item
  · subst h
    rw [decide_eq_true rfl]
    go_enter Tryd.func78, Tryd.ntmps78
    go_wp2
    go_ret
    exact ⟨rfl, below_al (Below.refl _ _) _⟩
  · rw [decide_eq_false h]
    have h' : ((si : Int) == (item : Int)) = false := by rw [beq_eq_false_iff_ne]; omega
    clear h
    go_enter Tryd.func78, Tryd.ntmps78
    go_wp2
    go_ret
    exact ⟨rfl, below_al (Below.refl _ _) _⟩
theorem gdahead_any (item g : Nat) (W : World) (s : St) (hs : s.item < 65536) (hg : W.cell? ⟨g, 0, none⟩ = some (.int .i64 item)) :
    Calls Tryd.prog 90 #[s.v, .pointer (some ⟨g, 0, none⟩)] W fun e w' => e = .returned (.bool (decide (item ≤ s.item))) ∧ Below W.heap.size W w' := by
  obtain ⟨si, sn⟩ := s
  unfold St.v
  dsimp only at *
  have hne : g ≠ W.heap.size := by have := World.block_lt_of_cell? _ _ hg; dsimp only at this; omega
  have hlt : g < W.heap.size := World.block_lt_of_cell? _ _ hg
  by_cases h : item ≤ si
  · rw [decide_eq_true h]
    go_enter Tryd.func90, Tryd.ntmps90
    go_wp2
    go_ret
    exact ⟨rfl, below_al (Below.refl _ _) _⟩
  · rw [decide_eq_false h]
    go_enter Tryd.func90, Tryd.ntmps90
    go_wp2
    go_ret
    exact ⟨rfl, below_al (Below.refl _ _) _⟩

set_option maxRecDepth 20000 in
set_option maxHeartbeats 1000000 in
theorem gdcount_any {w : World} {p : Option Addr} (l : List St) (c : Nat) (item : Nat) (_ : item < 65536) (h : Els elS w p l) (hl : l.length ≤ 1000) (hw : GdW l) :
    Calls Tryd.prog 63 #[.slice p l.length c, .int .u16 item] w fun e w' => e = .returned (.int .i64 (countG l item)) ∧ Below w.heap.size w w' := by
  rw [count_idx]
  have HC : Veil (Calls Tryd.prog 77 #[.slice p l.length c, .func (.func 78) #[] #[.pointer (some ⟨w.heap.size, 0, none⟩)]] (w.alloc (.cells #[.int .u16 item] 23)) fun e w' => e = .returned (.tuple #[.int .i64 (l.findIdx fun s => decide (s.item = item)), (l.getD (l.findIdx fun s => decide (s.item = item)) St.zero).v]) ∧ Below (w.alloc (.cells #[.int .u16 item] 23)).heap.size (w.alloc (.cells #[.int .u16 item] 23)) w') :=
    ⟨gdfirst_of (h.below (below_al (Below.refl _ _) _)) c (by omega) hw _ w.heap.size (.int .u16 item) _ (cell_row6 (heap_alloc_new _ _)) (enters_of Tryd.func78 (by kernel_rfl) rfl) (fun W s _ hg => gdisc_any item _ W s hg)⟩
  revert HC
  generalize l.getD (l.findIdx fun s => decide (s.item = item)) St.zero = s
  generalize (l.findIdx fun s => decide (s.item = item)) = k
  intro HC
  obtain ⟨si, sn⟩ := s
  unfold St.v at HC
  dsimp only at HC ⊢
  clear h hw
  go_enter Tryd.func63, Tryd.ntmps63
  go_wp2_with (go_at_call 77; refine HC.out.mono ?_; rintro e w2 ⟨rfl, hb2⟩)
  go_ret
  exact ⟨rfl, below_al (bc_then (below_al (Below.refl _ _) _) hb2) _⟩

set_option maxRecDepth 20000 in
set_option maxHeartbeats 1000000 in
theorem gdplace_any {w : World} {p : Option Addr} (l : List St) (c : Nat) (item : Nat) (_ : item < 100000) (h : Els elS w p l) (hl : l.length ≤ 1000) (hw : GdW l) :
    Calls Tryd.prog 79 #[.slice p l.length c, .int .i64 item] w fun e w' => e = .returned (.int .i64 (l.findIdx fun s => decide (item ≤ s.item))) ∧ Below w.heap.size w w' := by
  have HC : Veil (Calls Tryd.prog 77 #[.slice p l.length c, .func (.func 90) #[] #[.pointer (some ⟨w.heap.size, 0, none⟩)]] (w.alloc (.cells #[.int .i64 item] 3)) fun e w' => e = .returned (.tuple #[.int .i64 (l.findIdx fun s => decide (item ≤ s.item)), (l.getD (l.findIdx fun s => decide (item ≤ s.item)) St.zero).v]) ∧ Below (w.alloc (.cells #[.int .i64 item] 3)).heap.size (w.alloc (.cells #[.int .i64 item] 3)) w') :=
    ⟨gdfirst_of (h.below (below_al (Below.refl _ _) _)) c (by omega) hw _ w.heap.size (.int .i64 item) _ (cell_row6 (heap_alloc_new _ _)) (enters_of Tryd.func90 (by kernel_rfl) rfl) (fun W s hs hg => gdahead_any item _ W s hs hg)⟩
  revert HC
  generalize l.getD (l.findIdx fun s => decide (item ≤ s.item)) St.zero = s
  generalize (l.findIdx fun s => decide (item ≤ s.item)) = k
  intro HC
  obtain ⟨si, sn⟩ := s
  unfold St.v at HC
  dsimp only at HC ⊢
  clear h hw
  go_enter Tryd.func79, Tryd.ntmps79
  go_wp2_with (go_at_call 77; refine HC.out.mono ?_; rintro e w2 ⟨rfl, hb2⟩)
  go_ret
  exact ⟨rfl, below_al (bc_then (below_al (Below.refl _ _) _) hb2) _⟩
end Go.Proofs.YtckkiilbabbeaaaDoor
