/- Shop, by the program: Bytes (an array, field by field). -/
import Derived.Test.YtckkiilbabbeaaaDoorKL90
namespace Go.Proofs.YtckkiilbabbeaaaDoor
open Go Go.RowKit Sm
attribute [local go_sem] Oper.semAt_some

theorem sizeU8 (w : World) : (sizeOf 5).run Tryd.prog w = .ok 1 w := by kernel_rfl
theorem lflds_key (m : Li) : m.flds.flatMap fldB = keyLi m := by
  simp [Li.flds, fldB, keyLi]
theorem lflds_few (m : Li) (k : Nat) (h : k < 4) : ((m.flds.take k).flatMap fldB).length + (m.flds.getD k (0, 0)).1 ≤ 22 := by
  match k, h with
  | 0, _ => simp [Li.flds]
  | 1, _ => simp [Li.flds, fldB]
  | 2, _ => simp [Li.flds, fldB]
  | 3, _ => simp [Li.flds, fldB]
theorem lflds_sz (m : Li) (k : Nat) (h : k < 4) : (m.flds.getD k (0, 0)).1 ≤ 8 ∧ 0 < (m.flds.getD k (0, 0)).1 := by
  match k, h with
  | 0, _ => simp [Li.flds]
  | 1, _ => simp [Li.flds]
  | 2, _ => simp [Li.flds]
  | 3, _ => simp [Li.flds]
theorem lflds_amt (m : Li) (hm : m.Ok) (hr : rightLi m = true) (k : Nat) (h : k < 4) : amt (m.flds.getD k (0, 0)).2 = true := by
  have hs := hm.src
  have hi := hm.item
  obtain ⟨-, h2, h3, -⟩ := (rightLi_iff m).1 hr
  rw [amt_iff]
  match k, h with
  | 0, _ => show 0 ≤ (m.src : Int) ∧ (m.src : Int) ≤ 1152921504606846976; omega
  | 1, _ => show 0 ≤ (m.item : Int) ∧ (m.item : Int) ≤ 1152921504606846976; omega
  | 2, _ => exact h2
  | 3, _ => exact h3
/-- Between two rounds: the array, how far it is filled, the listing's box. -/
structure LyB (w : World) (B1 B2 B3 : Nat) (m : Li) (acc : List UInt8) (A : World) : Prop where
  s : A.heap[B1]? = some (.cells (u8s (acc ++ List.replicate (22 - acc.length) 0)).toArray 50 (0, 0))
  n : A.heap[B2]? = some (.cells #[.int .i64 acc.length] 3 (0, 0))
  bx : A.heap[B3]? = some (.cells #[.int .u32 m.src, .int .u16 m.item, .int .i64 m.n, .int .i64 m.price] 27 (0, 0))
  t : Below w.heap.size w A
section
variable {w : World} {B1 B2 B3 : Nat} {m : Li} {acc : List UInt8} {A A' : World}
theorem LyB.booked {B : Nat} (h : LyB w B1 B2 B3 m acc A) (hb : Booked B A A') (hB : w.heap.size ≤ B) : LyB w B1 B2 B3 m acc A' :=
  ⟨hb.heap h.s, hb.heap h.n, hb.heap h.bx, (hb.turned (Turned.new h.t : Turned (fun _ => False) w A) hB).toBelow (Nat.le_refl _) (fun _ _ h => h.elim)⟩
theorem LyB.new (h : LyB w B1 B2 B3 m acc A) (hb : Turned (fun _ => False) A A') : LyB w B1 B2 B3 m acc A' :=
  ⟨hb.heap h.s (fun h => h), hb.heap h.n (fun h => h), hb.heap h.bx (fun h => h), h.t.trans (hb.toBelow h.t.size (fun _ _ h => h.elim))⟩
theorem LyB.box (h : LyB w B1 B2 B3 m acc A) : LiBox A B3 m.src m.item m.n m.price := by
  constructor <;> exact cell_whole (cur := [.int .u32 m.src, .int .u16 m.item, .int .i64 m.n, .int .i64 m.price]) h.bx _
theorem filled (acc x : List UInt8) (h : acc.length + x.length ≤ 22) : splice (u8s (acc ++ List.replicate (22 - acc.length) 0)) acc.length (u8s x) = u8s ((acc ++ x) ++ List.replicate (22 - (acc ++ x).length) 0) := by
  unfold splice u8s
  rw [← List.map_take, ← List.map_drop, ← List.map_append, ← List.map_append]
  congr 1
  rw [List.take_left' rfl, List.length_map, List.append_assoc]
  congr 2
  rw [List.drop_append, List.drop_eq_nil_of_le (by omega), List.nil_append, List.drop_replicate, List.length_append]
  congr 1
  omega
theorem LyB.wrote {A6 : World} {x : List UInt8} (h : LyB w B1 B2 B3 m acc A) (hw : w.heap.size ≤ B1) (h12 : B1 < B2) (h23 : B2 < B3) (hx : acc.length + x.length ≤ 22)
    (hs : A6.heap[B1]? = some (.cells (splice (u8s (acc ++ List.replicate (22 - acc.length) 0)) acc.length (u8s x)).toArray 50 (0, 0))) (ht : Turned (· = B1) A A6) :
    LyB w B1 B2 B3 m (acc ++ x) (A6.setCell ⟨B2, 0, none⟩ (.int .i64 (acc.length + x.length : Nat))) := by
  refine ⟨?_, ?_, ?_, ?_⟩
  · rw [Below.heap_setCell _ _ _ _ (by dsimp only; omega), hs, filled acc x hx]
  · rw [List.length_append]
    exact heap_setCell_at (ht.heap h.n (by omega)) 0 _
  · rw [Below.heap_setCell _ _ _ _ (by dsimp only; omega)]
    exact ht.heap h.bx (by omega)
  · refine h.t.trans (((ht.wider (F := fun j => j = B1 ∨ j = B2) fun _ _ h => .inl h).setCell (p := ⟨B2, 0, none⟩) (.inr rfl) _).toBelow h.t.size (fun k hk e => by omega))
end
theorem arr22 : Tryd.prog.arrayLen 50 = 22 := by kernel_rfl
/-- a[n:] of an array of twenty-two bytes. -/
theorem sl22 (w : World) (b n : Nat) (hn : n < 22) : (Instr.sliceAt 50 (.pointer (some ⟨b, 0, none⟩)) (some (.int .i64 (n : Int))) none none).run Tryd.prog w = .ok (.slice (some ⟨b, n, none⟩) (22 - n) (22 - n)) w := by
  have h := run_sliceAt_array_l (P := Tryd.prog) w 50 ⟨b, 0, none⟩ (by kernel_rfl) .i64 n (by omega) (by rw [arr22]; omega)
  rw [h]
  have e2 : (sizeOf (Tryd.prog.elem 50)).run Tryd.prog w = .ok 1 w := by kernel_rfl
  rw [e2]
  simp [Result.andThen, slicedAt, arr22, Addr.add, show ¬ 22 = n by omega]
  omega
theorem wrap_less8 (sz d : Nat) (h : d + sz = 8) : IntKind.i64.wrap (8 - (sz : Int)) = (d : Int) := by rw [IntKind.wrap_i64]; omega
theorem zero22 (w : World) : (zeroValue 50).run Tryd.prog w = .ok (.agg (u8s (List.replicate 22 0)).toArray) w := by kernel_rfl

set_option maxRecDepth 20000 in
set_option maxHeartbeats 4000000 in
theorem shbytes_any (m : Li) (hm : m.Ok) (w : World) (hS : MSent w) : Calls Tryd.prog 10 #[m.v] w fun e w' => e = .returned (.tuple #[.string ⟨(bytesLi m).1.toArray⟩, .int .i64 (bytesLi m).2]) ∧ Below w.heap.size w w' := by
  have HRt : Veil _ := ⟨fun w => shright_any m hm w⟩
  by_cases hr : rightLi m = true
  · have e : bytesLi m = (keyLi m, 0) := by unfold bytesLi; rw [if_pos hr]
    rw [e]
    rw [hr] at HRt
    clear e
    have HF : Veil _ := ⟨fun w => shfields_any m w⟩
    have HSQ : Veil _ := ⟨fun Bx => shfields_seq Bx m hm⟩
    have HA : Veil _ := ⟨lflds_amt m hm hr⟩
    have HMS : Veil (∀ W, Below w.heap.size w W → MSent W) := ⟨fun W hb => hS.below hb⟩
    have HKL : Veil _ := ⟨keyLi_len m⟩
    clear hr hS
    refine calls_of_wp_marks Tryd.func10 rfl ?_
    simp only [Tryd.ntmps10, List.size_toArray, List.length_cons, List.length_nil, Nat.reduceAdd, Nat.reduceSub, Array.replicate_succ, Array.replicate_zero, List.push_toArray, List.append_toArray, List.nil_append, List.cons_append]
    obtain ⟨M, hM⟩ : ∃ M : Li, M = m := ⟨_, rfl⟩
    have HM : Veil _ := ⟨hM⟩
    generalize hKM : keyLi m = KM at HKL ⊢
    have HKM : Veil _ := ⟨hKM⟩
    clear hM hKM
    obtain ⟨f, i, n, mo⟩ := m
    unfold Li.v at *
    dsimp only at *
    clear hm
    have HB0 : Veil _ := ⟨heap_alloc_new w (.cells #[.int .u32 f, .int .u16 i, .int .i64 n, .int .i64 mo] 27)⟩
    go_wp2_with (first
      | (go_at_call 25; refine (HF.out _).mono ?_; rintro e w2 ⟨rfl, hw2⟩)
      | (go_at_call 14; refine (HRt.out _).mono ?_; rintro e w1 ⟨rfl, hb1⟩; have HBl : Veil _ := ⟨bc_then (below_al (Below.refl _ w) _) hb1⟩; obtain ⟨⟨y0, y1, y2, y3⟩, -⟩ := pkM ((hb1.block _ (lt_of_heap HB0.out)).trans HB0.out); have hlt1 : w.heap.size < w1.heap.size := lt_of_heap ((hb1.block _ (lt_of_heap HB0.out)).trans HB0.out); clear hb1))
    obtain ⟨B1, e1⟩ : ∃ B1, w1.heap.size = B1 := ⟨_, rfl⟩
    obtain ⟨B2, e2⟩ : ∃ B2, B1 + 1 = B2 := ⟨_, rfl⟩
    obtain ⟨B3, e3⟩ : ∃ B3, B2 + 1 = B3 := ⟨_, rfl⟩
    have hI : LyB w B1 B2 B3 ⟨f, i, n, mo⟩ [] w2 := by
      rw [← hw2, ← e3, ← e2, ← e1]
      refine ⟨?_, ?_, ?_, bc_then HBl.out (below_al (below_al (below_al (Below.refl _ _) _) _) _)⟩
      all_goals
        simp only [heap_alloc_if, World.size_alloc]
        repeat (first | rw [if_neg (by omega)] | rw [if_pos (by first | trivial | omega)])
      all_goals rfl
    have hz2 : w2.heap.size = B3 + 1 := by rw [← hw2]; simp; omega
    have HW : Veil (w.heap.size < B1 ∧ B1 < B2 ∧ B2 < B3) := ⟨by omega⟩
    have HZ : Veil (w2.heap.size = B3 + 1) := ⟨hz2⟩
    rw [e1, e2, e3]
    clear hw2 e1 e2 e3 hz2 hlt1 y0 y1 y2 y3
    have HKM2 : Veil ((Li.flds ⟨f, i, n, mo⟩).flatMap fldB = KM) := ⟨(lflds_key _).trans HKM.out⟩
    refine wp_range_break (gf := 42) (lb := #[.pointer (some ⟨B3, 0, none⟩)]) rfl (enters_of Tryd.func42 (by kernel_rfl) rfl)
      (HSQ.out B3) (fun k => rfl)
      (fun k A => LyB w B1 B2 B3 ⟨f, i, n, mo⟩ (((Li.flds ⟨f, i, n, mo⟩).take k).flatMap fldB) A)
      (fun A => LyB w B1 B2 B3 ⟨f, i, n, mo⟩ KM A) ?hI ?hE ?hF ?h0 ?hN ?hround ?hend
    case hI => rintro k A A' h1 hb; exact h1.booked hb (by have := HW.out; have := HZ.out; omega)
    case hE => rintro A A' h1 hb; exact h1.booked hb (by have := HW.out; have := HZ.out; omega)
    case hF => rintro k A h; exact h.box
    case h0 => exact hI
    case hN =>
      rintro A h1
      rw [List.take_of_length_le (Nat.le_of_eq (lflds_len _)), HKM2.out] at h1
      exact h1
    case hround =>
      rintro l m k A hl2 hlt hi
      simp only [handsLi, List.zip_cons_cons, List.zip_nil_right, List.foldl_cons, List.foldl_nil, List.setIfInBounds_toArray, List.set_cons_succ, List.set_cons_zero]
      have HTk : Veil _ := ⟨flds_take (Li.flds ⟨f, i, n, mo⟩) k (show k < (Li.flds ⟨f, i, n, mo⟩).length from hlt)⟩
      have hfw := lflds_few ⟨f, i, n, mo⟩ k hlt
      have hsz := lflds_sz ⟨f, i, n, mo⟩ k hlt
      have ham := HA.out k hlt
      clear hI
      have HI : Veil _ := ⟨hi⟩
      clear hi
      revert HTk hfw hsz ham HI
      generalize ((Li.flds ⟨f, i, n, mo⟩).take k).flatMap fldB = acc
      generalize (Li.flds ⟨f, i, n, mo⟩).getD k (0, 0) = x
      obtain ⟨sz, y⟩ := x
      intro HTk hfw hsz ham HI
      dsimp only [fldB] at *
      have HMB : Veil _ := ⟨fun W hW => mobytes_one y ham W (HMS.out W hW)⟩
      obtain ⟨d, hd⟩ : ∃ d : Nat, d + sz = 8 := ⟨8 - sz, by omega⟩
      have hE : (putB y.toNat 8).drop d = putB y.toNat sz := by rw [← hd]; exact putB_drop _ _ _
      have hEl : (putB y.toNat 8).length = 8 := by simp
      rw [← hE] at HTk
      clear hE ham
      revert HMB HTk hEl
      generalize putB y.toNat 8 = E
      intro HMB HTk hEl
      obtain ⟨a, ha⟩ : ∃ a, acc.length = a := ⟨_, rfl⟩
      have hX : (E.drop d).length = sz := by rw [List.length_drop]; omega
      have HX : Veil ((E.drop d).length = sz ∧ acc.length = a ∧ acc.length + sz ≤ 22) := ⟨hX, ha, hfw⟩
      have HSX : Veil ((⟨E.toArray⟩ : ByteArray).extract d 8 = ⟨(E.drop d).toArray⟩) := ⟨by
        rw [extM, List.take_of_length_le (by rw [List.length_drop]; omega)]⟩
      have hsl : ∀ W, (Instr.sliceAt 50 (.pointer (some ⟨B1, 0, none⟩)) (some (.int .i64 (a : Int))) none none).run Tryd.prog W = .ok (.slice (some ⟨B1, a, none⟩) (22 - a) (22 - a)) W := fun W => sl22 W B1 a (by omega)
      have hw8 := wrap_less8 sz d hd
      have hSX := HSX.out
      have hd8 : d ≤ 8 := by omega
      have HD : Veil (d + sz = 8) := ⟨hd⟩
      clear hX hfw hsz hd ha
      gi_wp2
      refine ⟨KeepsFrom.refl _ _, fun A2 hbk hsz2 => ?_⟩
      have HI2 : Veil _ := ⟨HI.out.booked hbk (by have := HW.out; have := HZ.out; omega)⟩
      clear hbk hsz2
      gi_wp2_with (refine calls_roundG ?_; refine (HMB.out A2 HI2.out.t A2 _ rfl (Below.refl _ _)).mono ?_; rintro e w3 ⟨rfl, hb3⟩; have HB3 : Veil _ := ⟨hb3⟩; clear hb3)
      obtain ⟨W5, hW5⟩ : ∃ W5, w3.drew = W5 := ⟨_, rfl⟩
      have hT5 : Turned (fun _ => False) A2 W5 := by rw [← hW5]; exact (Turned.new HB3.out : Turned (fun _ => False) A2 w3).drew
      have HI5 : Veil _ := ⟨HI2.out.new hT5⟩
      have HT5 : Veil _ := ⟨hT5⟩
      have hS : W5.cell? ⟨B2, 0, none⟩ = some (.int .i64 a) := by have := cell_row6 HI5.out.n; rwa [HX.out.2.1] at this
      refine region_plan_in 11 [(true, 0), (true, 1), (true, 2), (true, 3), (true, 4), (true, 5), (true, 6), (true, 7), (true, 8), (false, 9), (true, 10)] (by kernel_rfl) (by kernel_rfl) (by rfl) (fun w' => w'.cell? ⟨B2, 0, none⟩ = some (.int .i64 a)) W5 hW5 hS ?_
      simp only [planOps, List.filterMap_cons, List.filterMap_nil, List.getElem?_toArray, List.getElem?_cons_zero, List.getElem?_cons_succ, Option.map_some]
      clear hW5 hT5
      have HS : Veil _ := ⟨hS⟩
      clear hS
      iterate 2 (refine plan_quiet rfl ?_ ?_ (fun K hK => ?_); rotate_left; (rintro w' s0; go_simp; rfl); (go_simp; refine hK _ ?_; clear hK K))
      refine plan_quiet rfl (.slice (some ⟨B1, a, none⟩) (22 - a) (22 - a)) ?_ (fun K hK => ?_)
      · rintro w' s0
        go_simp
      go_simp
      refine hK _ ?_
      clear hK K hsl
      iterate 5 (refine plan_quiet rfl ?_ ?_ (fun K hK => ?_); rotate_left; (rintro w' s0; go_simp; rfl); (go_simp; refine hK _ ?_; clear hK K))
      refine plan_quiet rfl (.string ⟨(E.drop d).toArray⟩) ?_ (fun K hK => ?_)
      · rintro w' s0
        go_simp
        intro h9
        exfalso
        omega
      go_simp
      refine hK _ ?_
      clear hK K hSX
      refine plan_change (fun K hK => ?_)
      refine wpList_copy_str rfl (.tmp 25) (.tmp 31) 55 9 rfl 5 Tryd.underlying55 sizeU8 B1 a (22 - a) (22 - a) (E.drop d) rfl rfl (by have := HX.out; omega) _ 50 HI5.out.s (by have := HX.out; simp only [length_u8s, List.length_append, List.length_replicate]; omega) ?_
      intro w6 hw6 hT6
      have HT6 : Veil _ := ⟨hT6⟩
      have HS6 : Veil _ := ⟨hw6.out⟩
      have hn6 := cell_row6 (hT6.heap HI5.out.n (by have := HW.out; omega))
      rw [HX.out.2.1] at hn6
      have hfr6 : w6.frozen? ⟨B2, 0, none⟩ = false := frozen_whole (hT6.heap HI5.out.n (by have := HW.out; omega)) _
      clear hw6 hT6
      refine wpList_nil ?_
      refine hK _ _ hn6 ?_
      clear hK K
      refine plan_quiet rfl ?_ ?_ (fun K hK => ?_); rotate_left; (rintro w' s0; go_simp; rfl); (go_simp; refine hK _ ?_; clear hK K)
      refine wpPlan_nil ?_
      simp only [List.drop_succ_cons, List.drop_zero]
      go_wp2
      refine only_normal ?_
      have ev : Value.int .i64 (wrap64 ((a : Int) + ((8 - d : Nat) : Int))) = .int .i64 ((acc.length + (E.drop d).length : Nat) : Int) := by
        have h1 := HX.out
        have h2 := HD.out
        congr 1
        unfold wrap64
        omega
      rw [ev]
      have hW := HW.out
      have hL := HI5.out.wrote (x := E.drop d) (by omega) hW.2.1 hW.2.2 (by have := HX.out; omega) (by have := HS6.out; rwa [← HX.out.2.1] at this) HT6.out
      have hT : Turned (fun j => j = B1 ∨ j = B2) A2 (w6.setCell ⟨B2, 0, none⟩ (.int .i64 ((acc.length + (E.drop d).length : Nat) : Int))) :=
        (((HT5.out.wider fun _ _ h => h.elim).trans (HT6.out.wider fun _ _ h => .inl h)).setCell (p := ⟨B2, 0, none⟩) (.inr rfl) _)
      refine ⟨keepsFrom_turned6 hT (fun j hj => .inl (by have := HZ.out; rcases hj with e | e <;> omega)), ?_⟩
      rw [HTk.out]
      exact hL
    case hend =>
      rintro Dd A hDd h1 hdd
      have HI : Veil _ := ⟨h1⟩
      have HD : Veil _ := ⟨hdd⟩
      have hcv := by
        have hs := HI.out.s
        rw [HKL.out, Nat.sub_self, List.replicate_zero, List.append_nil] at hs
        have := run_convert_u8s (P := Tryd.prog) A 55 9 5 Tryd.underlying55 Tryd.underlying5 Tryd.underlying9 B1 0 22 KM (by
          have hr := rangeAt_whole hs 0 (u8s KM).length
          rwa [List.drop_zero, List.take_length] at hr)
        rw [HKL.out] at this
        exact this
      clear h1 hdd hI
      go_wp2
      refine leaves_mark (D := Dd) (B := w.heap.size) HD.out (by have := HW.out; have := HZ.out; omega) ?_
      intro w' hb _
      refine leaves_none (results_two rfl rfl rfl) ⟨rfl, ?_⟩
      exact (hb.turned (Turned.new HI.out.t : Turned (fun _ => False) w A) (Nat.le_refl _)).toBelow (Nat.le_refl _) (fun _ _ h => h.elim)
  · have e : bytesLi m = ([], 150) := by unfold bytesLi; rw [if_neg hr]
    have hf : rightLi m = false := by simpa using hr
    rw [e]
    rw [hf] at HRt
    dsimp only
    clear e hf hr hS
    obtain ⟨f, i, n, mo⟩ := m
    unfold Li.v at *
    dsimp only at *
    clear hm
    go_enter Tryd.func10, Tryd.ntmps10
    go_wp2_with (go_at_call 14; refine (HRt.out _).mono ?_; rintro e w1 ⟨rfl, hb1⟩)
    go_ret2
    exact ⟨rfl, bc_then (below_al (Below.refl _ _) _) hb1⟩
end Go.Proofs.YtckkiilbabbeaaaDoor

/- Shop, by the program: numbers, listing, Parse. -/
namespace Go.Proofs.YtckkiilbabbeaaaDoor
open Go Go.RowKit Sm
attribute [local go_sem] Oper.semAt_some

def lszs : List Nat := [4, 2, 8, 8]
def loff (k : Nat) : Nat := (lszs.take k).foldl (· + ·) 0
def numLi (s : List UInt8) : List Int := [(seg s 0 4 : Int), (seg s 4 2 : Int), (seg s 6 8 : Int), (seg s 14 8 : Int)]
def okLi (s : List UInt8) : Bool := decide (s.length = 22) && (numLi s).all amt
theorem numLi_len (s : List UInt8) : (numLi s).length = 4 := rfl
theorem loff_next (k : Nat) (h : k < 4) : loff (k + 1) = loff k + lszs.getD k 0 ∧ 1 ≤ lszs.getD k 0 ∧ lszs.getD k 0 ≤ 8 ∧ loff k + lszs.getD k 0 ≤ 22 := by
  match k, h with
  | 0, _ => decide
  | 1, _ => decide
  | 2, _ => decide
  | 3, _ => decide
theorem handsZ (k : Nat) (h : k < 4) : handsLi Li.zero k = #[.int .i64 (lszs.getD k 0 : Nat), .int .i64 0] := by
  match k, h with
  | 0, _ => rfl
  | 1, _ => rfl
  | 2, _ => rfl
  | 3, _ => rfl
theorem numLi_at (s : List UInt8) (k : Nat) (h : k < 4) : (numLi s).getD k 0 = (seg s (loff k) (lszs.getD k 0) : Int) := by
  match k, h with
  | 0, _ => rfl
  | 1, _ => rfl
  | 2, _ => rfl
  | 3, _ => rfl
theorem numLi_take (s : List UInt8) (k : Nat) (h : k < 4) : (numLi s).take (k + 1) = (numLi s).take k ++ [(seg s (loff k) (lszs.getD k 0) : Int)] := by
  rw [List.take_succ_eq_append_getElem (show k < (numLi s).length from h), ← numLi_at s k h]
  simp [List.getD, show k < (numLi s).length from h]
theorem okLi_short (s : List UInt8) (h : s.length ≠ 22) : okLi s = false := by unfold okLi; rw [decide_eq_false h]; rfl
theorem okLi_bad (s : List UInt8) (k : Nat) (h : k < 4) (hb : ¬ seg s (loff k) (lszs.getD k 0) ≤ 1152921504606846976) : okLi s = false := by
  have e : (numLi s).all amt = false := by
    rw [List.all_eq_false]
    refine ⟨(numLi s)[k]'h, List.getElem_mem _, ?_⟩
    have := numLi_at s k h
    have e2 : (numLi s).getD k 0 = (numLi s)[k]'h := by simp only [List.getD]; rw [List.getElem?_eq_getElem (show k < (numLi s).length from h)]; rfl
    rw [e2] at this
    rw [this, amt_iff]
    omega
  unfold okLi
  rw [e, Bool.and_false]
theorem okLi_good (s : List UInt8) (h : s.length = 22) (ha : (numLi s).all amt = true) : okLi s = true := by unfold okLi; rw [decide_eq_true h, ha]; rfl
theorem okLi_of (s : List UInt8) (h : okLi s = true) : s.length = 22 ∧ liOf s = ⟨seg s 0 4, seg s 4 2, seg s 6 8, seg s 14 8⟩ := by
  unfold okLi numLi at h
  rw [Bool.and_eq_true, decide_eq_true_iff] at h
  obtain ⟨h1, h2⟩ := h
  simp only [List.all_cons, List.all_nil, Bool.and_true, Bool.and_eq_true, amt_iff] at h2
  refine ⟨h1, ?_⟩
  unfold liOf sgn
  rw [if_pos (by omega), if_pos (by omega)]
theorem okLi_not (s : List UInt8) (h : okLi s = false) : parseLi s = (Li.zero, 150) := by
  unfold parseLi
  rw [if_neg]
  rintro ⟨h1, h2⟩
  have hk : okLi s = true := by
    refine okLi_good s h1 ?_
    obtain ⟨-, h3, h4, -⟩ := (rightLi_iff _).1 h2
    have s1 := seg_lt s 0 4
    have s2 := seg_lt s 4 2
    have s3 := seg_lt s 6 8
    have s4 := seg_lt s 14 8
    rw [q4] at s1
    rw [q2] at s2
    rw [q8] at s3 s4
    unfold liOf sgn at h3 h4
    dsimp only at h3 h4
    unfold numLi
    simp only [List.all_cons, List.all_nil, Bool.and_true, Bool.and_eq_true, amt_iff]
    refine ⟨by omega, by omega, ?_, ?_⟩
    · split at h3 <;> omega
    · split at h4 <;> omega
  rw [h] at hk
  cases hk
theorem arr8 : Tryd.prog.arrayLen 73 = 8 := by kernel_rfl
/-- a[n:] of an array of eight bytes. -/
theorem sl8 (w : World) (b n : Nat) (hn : n < 8) : (Instr.sliceAt 73 (.pointer (some ⟨b, 0, none⟩)) (some (.int .i64 (n : Int))) none none).run Tryd.prog w = .ok (.slice (some ⟨b, n, none⟩) (8 - n) (8 - n)) w := by
  have h := run_sliceAt_array_l (P := Tryd.prog) w 73 ⟨b, 0, none⟩ (by kernel_rfl) .i64 n (by omega) (by rw [arr8]; omega)
  rw [h]
  have e2 : (sizeOf (Tryd.prog.elem 73)).run Tryd.prog w = .ok 1 w := by kernel_rfl
  rw [e2]
  simp [Result.andThen, slicedAt, arr8, Addr.add, show ¬ 8 = n by omega]
  omega
theorem filled8 (d : Nat) (x : List UInt8) (h : d + x.length = 8) : splice (u8s (List.replicate 8 0)) d (u8s x) = u8s (List.replicate d 0 ++ x) := by
  unfold splice u8s
  rw [← List.map_take, ← List.map_drop, ← List.map_append, ← List.map_append]
  congr 1
  rw [List.take_replicate, List.length_map, List.drop_eq_nil_of_le (by simp; omega), List.append_nil, show min d 8 = d by omega]
/-- Between two rounds: what is left of the text, the amounts so far, the box that is gone through. -/
structure NuI (w : World) (B1 B2 : Nat) (R : List UInt8) (v : Value) (ns : List Int) (A : World) : Prop where
  sb : A.heap[w.heap.size]? = some (.cells #[.string ⟨R.toArray⟩] 9 (0, 0))
  lb : A.heap[B1]? = some (.cells #[v] 59 (0, 0))
  bx : A.heap[B2]? = some (.cells #[.int .u32 0, .int .u16 0, .int .i64 0, .int .i64 0] 27 (0, 0))
  own : OwnE elL A w.heap.size v ns
  ap : ∀ j, v.ownBlock = some j → B2 < j
  t : Turned (fun _ => False) w A
section
variable {w : World} {B1 B2 : Nat} {R : List UInt8} {v : Value} {ns : List Int} {A A' : World}
theorem NuI.booked {B : Nat} (h : NuI w B1 B2 R v ns A) (hb : Booked B A A') (hB : w.heap.size ≤ B) : NuI w B1 B2 R v ns A' :=
  ⟨hb.heap h.sb, hb.heap h.lb, hb.heap h.bx, hb.ownsRow h.own, h.ap, hb.turned h.t hB⟩
theorem NuI.new (h : NuI w B1 B2 R v ns A) (hb : Below A.heap.size A A') : NuI w B1 B2 R v ns A' :=
  have ht : Turned (fun _ => False) A A' := Turned.new hb
  ⟨ht.heap h.sb (fun h => h), ht.heap h.lb (fun h => h), ht.heap h.bx (fun h => h), h.own.below hb, h.ap, h.t.trans ht⟩
theorem NuI.box (h : NuI w B1 B2 R v ns A) : LiBox A B2 (Li.zero.src : Nat) (Li.zero.item : Nat) Li.zero.n Li.zero.price := by
  constructor <;> exact cell_whole (cur := [.int .u32 0, .int .u16 0, .int .i64 0, .int .i64 0]) h.bx _
/-- One number more. -/
theorem NuI.push {w9 : World} {v' : Value} {ns' : List Int} (h : NuI w B1 B2 R v ns A) (h1 : w.heap.size < B1) (h2 : B1 < B2)
    (ho : OwnE elL w9 w.heap.size v' ns') (hg : A.grownBy w9 v.ownBlock) (hf : ∀ k, v'.ownBlock = some k → v.ownBlock = some k ∨ A.heap.size ≤ k) (R' : List UInt8) :
    NuI w B1 B2 R' v' ns' ((w9.setCell ⟨B1, 0, none⟩ v').setCell ⟨w.heap.size, 0, none⟩ (.string ⟨R'.toArray⟩)) ∧ Turned (fun j => v.ownBlock = some j ∨ j = B1 ∨ j = w.heap.size) A ((w9.setCell ⟨B1, 0, none⟩ v').setCell ⟨w.heap.size, 0, none⟩ (.string ⟨R'.toArray⟩)) := by
  have ht9 : Turned (fun j => v.ownBlock = some j) A w9 := Turned.grown hg (fun j hj _ => hj)
  have hT2 : Turned (fun j => j = B1 ∨ j = w.heap.size) w9 ((w9.setCell ⟨B1, 0, none⟩ v').setCell ⟨w.heap.size, 0, none⟩ (.string ⟨R'.toArray⟩)) :=
    ((Turned.refl (fun j => j = B1 ∨ j = w.heap.size) w9).setCell (p := ⟨B1, 0, none⟩) (.inl rfl) _).setCell (p := ⟨w.heap.size, 0, none⟩) (.inr rfl) _
  have hT : Turned (fun j => v.ownBlock = some j ∨ j = B1 ∨ j = w.heap.size) A ((w9.setCell ⟨B1, 0, none⟩ v').setCell ⟨w.heap.size, 0, none⟩ (.string ⟨R'.toArray⟩)) :=
    (ht9.wider fun _ _ h => .inl h).trans (hT2.wider fun _ _ h => .inr h)
  have hbx := lt_of_heap h.bx
  have hv : ∀ j, v.ownBlock = some j → w.heap.size ≤ j ∧ B2 < j := fun j hj => ⟨(h.own.lt hj).1, h.ap j hj⟩
  refine ⟨⟨?_, ?_, ?_, ?_, ?_, ?_⟩, hT⟩
  · exact heap_setCell_at ((Below.heap_setCell _ _ _ _ (by dsimp only; omega)).trans (ht9.heap h.sb (fun e => by have := hv _ e; omega))) 0 _
  · rw [Below.heap_setCell _ _ _ _ (by dsimp only; omega)]
    exact heap_setCell_at (ht9.heap h.lb (fun e => by have := hv _ e; omega)) 0 _
  · exact hT.heap h.bx (fun e => by rcases e with e | e | e; (have := hv _ e; omega); omega; omega)
  · exact ho.kept hT2 (fun j hj e => by
      rcases hf _ hj with e' | e'
      · have := hv _ e'; omega
      · omega)
  · intro j hj
    rcases hf _ hj with e | e
    · exact (hv _ e).2
    · omega
  · exact h.t.then hT (fun k hk e => by rcases e with e | e | e; (have := hv _ e; omega); omega; omega)
end
def NumLP (s : List UInt8) (w : World) (e : Ending) (w' : World) : Prop := ∃ v, e = .returned v ∧ ((okLi s = true ∧ ∃ p c, v = .slice p 4 c ∧ Els elL w' p (numLi s)) ∨ (okLi s = false ∧ ∃ p n c, v = .slice p n c ∧ n ≠ 4)) ∧ Below w.heap.size w w'

set_option maxRecDepth 20000 in
set_option maxHeartbeats 4000000 in
theorem shnumbers_any (s : List UInt8) (_ : s.length ≤ 1000) (w : World) :
    Calls Tryd.prog 29 #[.string ⟨s.toArray⟩] w (NumLP s w) := by
  by_cases h22 : s.length = 22
  rotate_left 1
  · have HE : Veil _ := ⟨okLi_short s h22⟩
    have hne : ((s.length : Int) != 22) = true := by simp; omega
    go_enter Tryd.func29, Tryd.ntmps29
    go_wp2
    go_step3
    go_wp2
    rw [Exit.noGoto_ret]
    go_ret
    exact ⟨_, rfl, .inr ⟨HE.out, _, _, _, rfl, by decide⟩, below_al (Below.refl _ _) _⟩
  have HF : Veil (∀ w, Calls Tryd.prog 25 #[.agg #[.int .u32 0, .int .u16 0, .int .i64 0, .int .i64 0]] w fun e w' => e = .returned (.func (.func 42) #[] #[.pointer (some ⟨w.heap.size, 0, none⟩)]) ∧ w.alloc (.cells #[.int .u32 0, .int .u16 0, .int .i64 0, .int .i64 0] 27) = w') := ⟨fun w => shfields_any Li.zero w⟩
  have HSQ : Veil _ := ⟨fun Bx => shfields_seq Bx Li.zero Li.zero_ok⟩
  have heq : ((s.length : Int) != 22) = false := by rw [h22]; rfl
  refine calls_of_wp_marks Tryd.func29 rfl ?_
  simp only [Tryd.ntmps29, List.size_toArray, List.length_cons, List.length_nil, Nat.reduceAdd, Nat.reduceSub, Array.replicate_succ, Array.replicate_zero, List.push_toArray, List.append_toArray, List.nil_append, List.cons_append]
  have H22 : Veil (s.length = 22) := ⟨h22⟩
  clear h22
  go_wp2
  go_step3
  go_wp2
  go_step3
  go_wp2_with (go_at_call 25; refine (HF.out _).mono ?_; rintro e w1 ⟨rfl, hw1⟩)
  obtain ⟨B1, e1⟩ : ∃ B1, w.heap.size + 1 = B1 := ⟨_, rfl⟩
  obtain ⟨B2, e2⟩ : ∃ B2, B1 + 1 = B2 := ⟨_, rfl⟩
  have hI : NuI w B1 B2 s (.slice none 0 0) [] w1 := by
    rw [← hw1]
    refine ⟨?_, ?_, ?_, OwnE.nil _ _ _, fun j hj => (by cases hj), (((Turned.refl (fun _ => False) w).alloc _).alloc _).alloc _⟩
    all_goals
      simp only [heap_alloc_if, World.size_alloc]
      repeat (first | rw [if_neg (by omega)] | rw [if_pos (by first | trivial | omega)])
  have hz1 : w1.heap.size = B2 + 1 := by rw [← hw1]; simp; omega
  have HW : Veil (w.heap.size < B1 ∧ B1 < B2) := ⟨by omega⟩
  have HZ : Veil (w1.heap.size = B2 + 1) := ⟨hz1⟩
  rw [e1, e2]
  clear hw1 e1 e2 hz1 heq
  refine wp_range_break (gf := 42) (lb := #[.pointer (some ⟨B2, 0, none⟩)]) rfl (enters_of Tryd.func42 (by kernel_rfl) rfl)
    (HSQ.out B2) (fun k => rfl)
    (fun k A => ∃ v, NuI w B1 B2 (s.drop (loff k)) v ((numLi s).take k) A ∧ ((numLi s).take k).all amt = true)
    (fun A => ∃ v ns R, NuI w B1 B2 R v ns A ∧ (okLi s = true ∧ ns = numLi s ∨ okLi s = false ∧ ns.length ≠ 4)) ?hI ?hE ?hF ?h0 ?hN ?hround ?hend
  case hI => rintro k A A' ⟨v, h1, h3⟩ hb; exact ⟨v, h1.booked hb (by have := HW.out; have := HZ.out; omega), h3⟩
  case hE => rintro A A' ⟨v, ns, R, h1, h2⟩ hb; exact ⟨v, ns, R, h1.booked hb (by have := HW.out; have := HZ.out; omega), h2⟩
  case hF => rintro k A ⟨v, h, _⟩; exact h.box
  case h0 => exact ⟨_, hI, rfl⟩
  case hN =>
    rintro A ⟨v, h1, h3⟩
    rw [List.take_of_length_le (Nat.le_of_eq (numLi_len s))] at h1 h3
    exact ⟨v, _, _, h1, .inl ⟨okLi_good s H22.out h3, rfl⟩⟩
  case hround =>
    rintro l mm k A hl2 hlt ⟨v, hi, hall⟩
    rw [handsZ k hlt]
    simp only [List.zip_cons_cons, List.zip_nil_right, List.foldl_cons, List.foldl_nil, List.setIfInBounds_toArray, List.set_cons_succ, List.set_cons_zero]
    obtain ⟨hoff, hsz1, hsz8, hle22⟩ := loff_next k hlt
    have HNT : Veil _ := ⟨numLi_take s k hlt⟩
    have HBad : Veil _ := ⟨okLi_bad s k hlt⟩
    obtain ⟨Rr, hRr⟩ : ∃ Rr, s.drop (loff k) = Rr := ⟨_, rfl⟩
    have hRl : Rr.length = 22 - loff k := by rw [← hRr, List.length_drop, H22.out]
    have hseg : seg s (loff k) (lszs.getD k 0) = getB (Rr.take (lszs.getD k 0)) := by rw [← hRr]; rfl
    rw [hseg] at HNT HBad
    rw [hRr] at hi
    have HAl : Veil (getB (Rr.take (lszs.getD k 0)) ≤ 1152921504606846976 → ((numLi s).take (k + 1)).all amt = true) := ⟨fun h => by
      rw [HNT.out, List.all_append, hall, List.all_cons, (amt_iff _).2 (by omega)]; rfl⟩
    have HRd : Veil (Rr.drop (lszs.getD k 0) = s.drop (loff (k + 1))) := ⟨by rw [← hRr, List.drop_drop, hoff]⟩
    have HL4 : Veil (((numLi s).take k).length = k ∧ k < 4) := ⟨by rw [List.length_take, numLi_len]; omega, hlt⟩
    clear hRr hseg hall hI
    revert hoff; revert hsz1; revert hsz8; revert hle22; revert HNT; revert HBad; revert HAl; revert HRd; revert hi; revert HL4
    generalize lszs.getD k 0 = sz
    generalize hL : (numLi s).take k = ns
    intro HL4 hi HRd HAl HBad HNT hle22 hsz8 hsz1 hoff
    have hszl : sz ≤ Rr.length := by omega
    clear hoff hle22 hRl hL
    obtain ⟨d, hd⟩ : ∃ d : Nat, d + sz = 8 := ⟨8 - sz, by omega⟩
    have HX5 : Veil ((⟨Rr.toArray⟩ : ByteArray).extract 0 sz = ⟨(Rr.take sz).toArray⟩) := ⟨by rw [extM]; simp⟩
    have htl : (Rr.take sz).length = sz := by rw [List.length_take]; omega
    have HTL : Veil ((Rr.take sz).length = sz ∧ d + sz = 8) := ⟨htl, hd⟩
    have HP : Veil _ := ⟨fun w => moparse_any (List.replicate d 0 ++ Rr.take sz) (by rw [List.length_append, List.length_replicate]; omega) w⟩
    have hpe := parse_eight (List.replicate d 0 ++ Rr.take sz) (by rw [List.length_append, List.length_replicate]; omega)
    rw [getB_zeros] at hpe
    rw [hpe] at HP
    clear hpe htl
    have hw8 := wrap_less8 sz d hd
    have hd8 : d < 8 := by omega
    have hsl : ∀ W b, (Instr.sliceAt 73 (.pointer (some ⟨b, 0, none⟩)) (some (.int .i64 (d : Int))) none none).run Tryd.prog W = .ok (.slice (some ⟨b, d, none⟩) (8 - d) (8 - d)) W := fun W b => sl8 W b d hd8
    have HI : Veil _ := ⟨hi⟩
    clear hd hi hsz8
    gi_wp2
    refine ⟨KeepsFrom.refl _ _, fun A2 hbk hsz => ?_⟩
    have HI2 : Veil _ := ⟨HI.out.booked hbk (by have := HW.out; have := HZ.out; omega)⟩
    clear hbk
    gi_wp2
    obtain ⟨W5, hW5⟩ : ∃ W5, (A2.alloc (.cells #[.int .u8 0, .int .u8 0, .int .u8 0, .int .u8 0, .int .u8 0, .int .u8 0, .int .u8 0, .int .u8 0] 73)).drew = W5 := ⟨_, rfl⟩
    have hB5 : Below A2.heap.size A2 W5 := by rw [← hW5]; exact (below_al (Below.refl _ _) _).drew
    have hg5 : W5.heap[A2.heap.size]? = some (.cells (u8s (List.replicate 8 0)).toArray 73 (0, 0)) := by
      rw [← hW5]
      exact heap_alloc_new A2 _
    have HI5 : Veil _ := ⟨HI2.out.new hB5⟩
    have hS : W5.cell? ⟨w.heap.size, 0, none⟩ = some (.string ⟨Rr.toArray⟩) := cell_row6 HI5.out.sb
    refine region_plan_in 6 [(true, 0), (true, 1), (true, 2), (true, 3), (true, 4), (true, 5)] (by kernel_rfl) (by kernel_rfl) (by rfl) (fun w' => w'.cell? ⟨w.heap.size, 0, none⟩ = some (.string ⟨Rr.toArray⟩)) W5 hW5 hS ?_
    simp only [planOps, List.filterMap_cons, List.filterMap_nil, List.getElem?_toArray, List.getElem?_cons_zero, List.getElem?_cons_succ, Option.map_some]
    obtain ⟨g, hg⟩ : ∃ g, A.heap.size = g := ⟨_, rfl⟩
    rw [hsz, hg] at hg5 hB5
    have HG5 : Veil _ := ⟨hg5⟩
    have HB5 : Veil _ := ⟨hB5⟩
    have HGs : Veil (A2.heap.size = g ∧ B2 < g) := ⟨hsz.trans hg, by rw [← hg]; exact lt_of_heap HI.out.bx⟩
    rw [hg]
    clear hW5 hS hsz hg hg5 hB5
    refine plan_quiet rfl ?_ ?_ (fun K hK => ?_); rotate_left; (rintro w' s0; go_simp; rfl); (go_simp; refine hK _ ?_; clear hK K)
    refine plan_quiet rfl (.int .i64 (d : Int)) ?_ (fun K hK => ?_)
    · rintro w' s0
      go_simp
    go_simp
    refine hK _ ?_
    clear hK K
    refine plan_quiet rfl (.slice (some ⟨g, d, none⟩) (8 - d) (8 - d)) ?_ (fun K hK => ?_)
    · rintro w' s0
      go_simp
    go_simp
    refine hK _ ?_
    clear hK K hsl
    iterate 2 (refine plan_quiet rfl ?_ ?_ (fun K hK => ?_); rotate_left; (rintro w' s0; go_simp; rfl); (go_simp; refine hK _ ?_; clear hK K))
    refine plan_quiet rfl (.string ⟨(Rr.take sz).toArray⟩) ?_ (fun K hK => ?_)
    · rintro w' s0
      go_simp
      exact HX5.out
    go_simp
    refine hK _ ?_
    clear hK K
    refine wpPlan_nil ?_
    simp only [List.drop_succ_cons, List.drop_zero]
    refine wpList_copy_str rfl (.tmp 17) (.tmp 20) 55 9 rfl 5 Tryd.underlying55 sizeU8 g d (8 - d) (8 - d) (Rr.take sz) rfl rfl (by have := HTL.out; omega) _ 73 HG5.out (by have := HTL.out; simp only [length_u8s, List.length_replicate]; omega) ?_
    intro w6 hw6 hT6
    have hE6 : w6.heap[g]? = some (.cells (u8s (List.replicate d 0 ++ Rr.take sz)).toArray 73 (0, 0)) := by
      have := hw6.out
      rwa [filled8 d _ (by have := HTL.out; omega)] at this
    have hB6 : Below g A2 w6 := HB5.out.trans (hT6.toBelow (Nat.le_trans (Nat.le_of_eq HGs.out.1.symm) HB5.out.size) (fun k _ e => Nat.le_of_eq e.symm))
    have hcv := run_convert_u8s (P := Tryd.prog) w6 55 9 5 Tryd.underlying55 Tryd.underlying5 Tryd.underlying9 g 0 8 (List.replicate d 0 ++ Rr.take sz) (by
        have hr := rangeAt_whole hE6 0 (u8s (List.replicate d 0 ++ Rr.take sz)).length
        rwa [List.drop_zero, List.take_length] at hr)
    have hl8 : (List.replicate d (0 : UInt8) ++ Rr.take sz).length = 8 := by have := HTL.out; rw [List.length_append, List.length_replicate]; omega
    rw [hl8] at hcv
    clear hl8
    have HI6 : Veil _ := ⟨HI2.out.new (by rw [HGs.out.1]; exact hB6)⟩
    have HB6 : Veil _ := ⟨hB6⟩
    clear hw6 hT6 hE6 hB6
    refine wpList_nil (only_normal ?_)
    by_cases hgb : getB (Rr.take sz) ≤ 1152921504606846976
    rotate_left 1
    · rw [if_neg hgb] at HP
      have HOK : Veil (okLi s = false ∧ ns.length ≠ 4) := ⟨HBad.out hgb, by have := HL4.out; omega⟩
      clear hgb HAl HNT
      gi_wp2_with (refine calls_roundG ?_; refine (HP.out _).mono ?_; rintro e w7 ⟨p7, c7, rfl, -, -, hb7⟩; have HB7 : Veil _ := ⟨hb7⟩; clear hb7)
      refine ⟨?_, rfl, v, ns, Rr, HI6.out.new HB7.out, .inr HOK.out⟩
      exact keepsFrom_turned6 (F := fun _ => False) ((Turned.new (by rw [HGs.out.1]; exact HB6.out) : Turned (fun _ => False) A2 w6).trans (Turned.new HB7.out)) (fun j hj => hj.elim)
    rw [if_pos hgb] at HP
    have HAl2 : Veil _ := ⟨HAl.out hgb⟩
    clear hgb HAl HBad
    revert HP HNT
    generalize (getB (Rr.take sz) : Int) = x
    intro HNT HP
    have n1 : w.heap.size ≠ B1 := by have := HW.out; omega
    have n2 : B1 ≠ w.heap.size := fun e => n1 e.symm
    gi_wp2_with (first
      | (refine listIn_op rfl (fun K hK => ?_); refine wpList_append_els elL rfl (.tmp 30) (.tmp 31) rfl w.heap.size _ ns [x] rfl HI7.out.own p7 c7 rfl HE7.out (by have := HL4.out; simp only [List.length_cons, List.length_nil]; omega) (by have := lt_of_heap HI7.out.sb; omega) ?_; intro v' w9 hown9 hgrow hfrom; obtain ⟨p', c', ev, -, -⟩ := hown9.form; subst ev; have HO9 : Veil _ := ⟨hown9⟩; have HG9 : Veil _ := ⟨hgrow⟩; have HF9 : Veil _ := ⟨hfrom⟩; have hT9 : Turned (fun j => v.ownBlock = some j) _ w9 := Turned.grown hgrow (fun j hj _ => hj); have hs9 := hT9.heap HI7.out.sb (fun e => by have := HI7.out.ap _ e; have := HW.out; omega); have hl9 := hT9.heap HI7.out.lb (fun e => by have := HI7.out.ap _ e; have := HW.out; omega); have c9s := cell_row6 hs9; have f9s : w9.frozen? ⟨w.heap.size, 0, none⟩ = false := frozen_whole hs9 _; have c9l := cell_row6 hl9; have f9l : w9.frozen? ⟨B1, 0, none⟩ = false := frozen_whole hl9 _; clear hown9 hgrow hfrom hT9 hs9 hl9; refine wpList_nil (one_normal (hK _ _ ?_)); clear hK K)
      | (refine calls_roundG ?_; refine (HP.out _).mono ?_; rintro e w7 ⟨p7, c7, rfl, hE7, -, hb7⟩; have HB7 : Veil _ := ⟨hb7⟩; have HE7 : Veil _ := ⟨hE7⟩; have HI7 : Veil _ := ⟨HI6.out.new hb7⟩; have q7 := cell_row6 HI7.out.sb; have q8 := cell_row6 HI7.out.lb; clear hb7 hE7))
    have e9 : (ns ++ [x]).length = ns.length + 1 := by simp
    have ho9 := HO9.out
    have hf9 := HF9.out
    rw [e9] at ho9 hf9
    have hW := HW.out
    have er : (⟨Rr.toArray⟩ : ByteArray).extract sz Rr.length = ⟨(s.drop (loff (k + 1))).toArray⟩ := by
      rw [extM, List.take_of_length_le (by rw [List.length_drop]; omega), HRd.out]
    rw [er]
    obtain ⟨hr9, ht9⟩ := HI7.out.push hW.1 hW.2 ho9 HG9.out hf9 (s.drop (loff (k + 1)))
    have hT : Turned (fun j => v.ownBlock = some j ∨ j = B1 ∨ j = w.heap.size) A2 ((w9.setCell ⟨B1, 0, none⟩ (.slice p' (ns.length + 1) c')).setCell ⟨w.heap.size, 0, none⟩ (.string ⟨(s.drop (loff (k + 1))).toArray⟩)) :=
      (((Turned.new (by rw [HGs.out.1]; exact HB6.out) : Turned (fun _ => False) A2 w6).trans (Turned.new HB7.out)).wider (fun _ _ h => h.elim)).trans ht9
    have hac : ∀ j, v.ownBlock = some j → ∃ c t fr, A2.heap[j]? = some (.cells c t fr) := fun j hj => ownsRow_cells HI2.out.own hj
    refine ⟨keepsFrom_turned6 hT ?_, .slice p' (ns.length + 1) c', ?_, HAl2.out⟩
    · rintro j (hj | rfl | rfl)
      · exact .inr (hac j hj)
      · exact .inl (by have := HZ.out; omega)
      · exact .inl (by have := HZ.out; omega)
    · rw [HNT.out]
      exact hr9
  case hend =>
    rintro Dd A hDd ⟨v, ns, R, h1, h2⟩ hdd
    have HI : Veil _ := ⟨h1⟩
    have HE : Veil _ := ⟨h2⟩
    have HD : Veil _ := ⟨hdd⟩
    have c1 := cell_row6 h1.lb
    clear h1 h2 hdd hI
    go_wp2
    rw [Exit.noGoto_ret]
    refine leaves_mark (D := Dd) (B := w.heap.size) HD.out (by have := HW.out; have := HZ.out; omega) ?_
    intro w' hb _
    have hI' := HI.out.booked hb (Nat.le_refl _)
    refine leaves_none (results_tmp rfl _ _ _) ⟨_, rfl, ?_, hI'.t.toBelow (Nat.le_refl _) (fun _ _ h => h.elim)⟩
    obtain ⟨p, c, rfl, hE, -⟩ := hI'.own.form
    rcases HE.out with ⟨h3, rfl⟩ | ⟨h3, h4⟩
    · exact .inl ⟨h3, p, c, rfl, hE⟩
    · exact .inr ⟨h3, p, _, c, rfl, h4⟩
end Go.Proofs.YtckkiilbabbeaaaDoor

/- Shop, by the program: listing, Parse. -/
namespace Go.Proofs.YtckkiilbabbeaaaDoor
open Go Go.RowKit Sm
attribute [local go_sem] Oper.semAt_some

theorem results_listing1 {fn : Func} {p : Tmp} {tmps : Array Value} {w : World} {g : Nat} {x0 x1 x2 x3 : Value} (h : fn.results = #[.cell p 27]) (hp : tmps.getD p undef = .pointer (some ⟨g, 0, none⟩)) (hg : w.heap[g]? = some (.cells #[x0, x1, x2, x3] 27 (0, 0))) :
    (results fn tmps).run Tryd.prog w = .ok (.agg #[x0, x1, x2, x3]) w := by
  have hp' : tmps[p]?.getD undef = .pointer (some ⟨g, 0, none⟩) := by simpa using hp
  obtain ⟨⟨c0, c1, c2, c3⟩, -⟩ := pkM hg
  simp [results, h, go_sem, hp', c0, c1, c2, c3]
theorem els4L {w : World} {p : Option Addr} {a0 a1 a2 a3 : Int} (h : Els elL w p [a0, a1, a2, a3]) : ∃ b o, p = some ⟨b, o, none⟩ ∧ (∀ W, Below w.heap.size w W → W.cell? ⟨b, o, none⟩ = some (.int .i64 a0) ∧ W.cell? ⟨b, o + 1, none⟩ = some (.int .i64 a1) ∧ W.cell? ⟨b, o + 2, none⟩ = some (.int .i64 a2) ∧ W.cell? ⟨b, o + 3, none⟩ = some (.int .i64 a3)) := by
  obtain ⟨b, o, hp, hr⟩ := h (by simp)
  have h0 : w.cell? ⟨b, o, none⟩ = some (.int .i64 a0) := hr 0 0 (by simp) (by decide)
  have h1 : w.cell? ⟨b, o + 1, none⟩ = some (.int .i64 a1) := hr 1 0 (by simp) (by decide)
  have h2 : w.cell? ⟨b, o + 2, none⟩ = some (.int .i64 a2) := hr 2 0 (by simp) (by decide)
  have h3 : w.cell? ⟨b, o + 3, none⟩ = some (.int .i64 a3) := hr 3 0 (by simp) (by decide)
  refine ⟨b, o, hp, fun W hb => ⟨?_, ?_, ?_, ?_⟩⟩
  · exact (hb.cell (World.block_lt_of_cell? _ _ h0)).trans h0
  · exact (hb.cell (World.block_lt_of_cell? _ _ h1)).trans h1
  · exact (hb.cell (World.block_lt_of_cell? _ _ h2)).trans h2
  · exact (hb.cell (World.block_lt_of_cell? _ _ h3)).trans h3

/-- The boxes of listing: the answer's, the listing's. -/
structure LsB (w A : World) (g : Nat) (a b c d : Int) : Prop where
  r : A.heap[w.heap.size]? = some (.cells #[.int .u32 0, .int .u16 0, .int .i64 0, .int .i64 0] 27 (0, 0))
  m : A.heap[g]? = some (.cells #[.int .u32 a, .int .u16 b, .int .i64 c, .int .i64 d] 27 (0, 0))
  t : Below w.heap.size w A
  z : w.heap.size < g
theorem LsB.after {w A A' : World} {g : Nat} {a b c d : Int} (h : LsB w A g a b c d) (hb : Below A.heap.size A A') : LsB w A' g a b c d :=
  ⟨(hb.block _ (lt_of_heap h.r)).trans h.r, (hb.block _ (lt_of_heap h.m)).trans h.m, bc_then h.t hb, h.z⟩
theorem LsB.set {w A : World} {g : Nat} {a b c d : Int} (h : LsB w A g a b c d) (a' b' c' d' : Int) : LsB w ((((A.setCell ⟨g, 0, none⟩ (.int .u32 a')).setCell ⟨g, 1, none⟩ (.int .u16 b')).setCell ⟨g, 2, none⟩ (.int .i64 c')).setCell ⟨g, 3, none⟩ (.int .i64 d')) g a' b' c' d' := by
  have hz := h.z
  refine ⟨?_, stM h.m _ _ _ _, tnM h.t (Nat.le_of_lt hz) _ _ _ _, hz⟩
  rw [Below.heap_setCell _ _ _ _ (by dsimp only; omega), Below.heap_setCell _ _ _ _ (by dsimp only; omega), Below.heap_setCell _ _ _ _ (by dsimp only; omega), Below.heap_setCell _ _ _ _ (by dsimp only; omega)]
  exact h.r
set_option maxRecDepth 20000 in
set_option maxHeartbeats 4000000 in
theorem shlisting_zero (p : Option Addr) (n c : Nat) (hn : n ≠ 4) (w : World) : Calls Tryd.prog 28 #[.slice p n c] w fun e w' => e = .returned Li.zero.v ∧ Below w.heap.size w w' := by
  have hne : ((n : Int) != 4) = true := by simp; omega
  have HR : Veil _ := ⟨heap_alloc_new w (.cells #[.int .u32 0, .int .u16 0, .int .i64 0, .int .i64 0] 27)⟩
  clear hn
  go_enter Tryd.func28, Tryd.ntmps28
  go_wp2
  refine bodyPost_ret (results_listing1 (g := w.heap.size) rfl rfl ?_) rfl ⟨rfl, ?_⟩
  · exact HR.out
  · exact below_al (Below.refl _ _) _
set_option maxRecDepth 20000 in
set_option maxHeartbeats 4000000 in
theorem shlisting_four {w : World} (b o c : Nat) (a0 a1 a2 a3 : Int) (w0 : IntKind.u32.wrap a0 = a0) (w1 : IntKind.u16.wrap a1 = a1) (rt : Bool)
    (hE : ∀ W, Below w.heap.size w W → W.cell? ⟨b, o, none⟩ = some (.int .i64 a0) ∧ W.cell? ⟨b, o + 1, none⟩ = some (.int .i64 a1) ∧ W.cell? ⟨b, o + 2, none⟩ = some (.int .i64 a2) ∧ W.cell? ⟨b, o + 3, none⟩ = some (.int .i64 a3))
    (hr : ∀ W, Calls Tryd.prog 14 #[.agg #[.int .u32 a0, .int .u16 a1, .int .i64 a2, .int .i64 a3]] W fun e w' => e = .returned (.bool rt) ∧ Below W.heap.size W w') :
    Calls Tryd.prog 28 #[.slice (some ⟨b, o, none⟩) 4 c] w fun e w' => e = .returned (if rt then .agg #[.int .u32 a0, .int .u16 a1, .int .i64 a2, .int .i64 a3] else Li.zero.v) ∧ Below w.heap.size w w' := by
  obtain ⟨W0, hW0⟩ : ∃ W0, w.alloc (.cells #[.int .u32 0, .int .u16 0, .int .i64 0, .int .i64 0] 27) = W0 := ⟨_, rfl⟩
  have hB0 : Below w.heap.size w W0 := by rw [← hW0]; exact below_al (Below.refl _ _) _
  have HR0 : Veil (W0.heap[w.heap.size]? = some (.cells #[.int .u32 0, .int .u16 0, .int .i64 0, .int .i64 0] 27 (0, 0))) := ⟨by rw [← hW0]; exact heap_alloc_new _ _⟩
  have HB0 : Veil _ := ⟨hB0⟩
  have HE4 : Veil (∀ W, Below W0.heap.size W0 W → _) := ⟨fun W hb => hE W (bc_then hB0 hb)⟩
  have HRt : Veil _ := ⟨hr⟩
  have HW0 : Veil _ := ⟨hW0⟩
  clear hE hr hB0 hW0
  go_enter Tryd.func28, Tryd.ntmps28
  go_wp2
  rw [HW0.out]
  refine region_new [.is (.slice (some ⟨b, o, none⟩) 4 c), .is (.pointer (some ⟨b, o, none⟩)), .is (.int .i64 a0), .is (.int .u32 a0), .is (.slice (some ⟨b, o, none⟩) 4 c), .is (.pointer (some ⟨b, o + 1, none⟩)), .is (.int .i64 a1), .is (.int .u16 a1), .is (.slice (some ⟨b, o, none⟩) 4 c), .is (.pointer (some ⟨b, o + 2, none⟩)), .is (.int .i64 a2), .is (.agg #[.int .u16 a1, .int .i64 a2]), .is (.slice (some ⟨b, o, none⟩) 4 c), .is (.pointer (some ⟨b, o + 3, none⟩)), .is (.int .i64 a3), .is (.agg #[.int .u32 a0, .int .u16 a1, .int .i64 a2, .int .i64 a3]), .row W0.heap.size (fun g => .pointer (some ⟨g, 0, none⟩)) #[.int .u32 0, .int .u16 0, .int .i64 0, .int .i64 0] 27]
    [[], [(0, 8)], [(1, 9)], [(2, 10)], [], [(4, 12)], [(5, 13)], [(6, 14)], [], [(8, 16)], [(9, 17)], [(7, 15), (10, 18)], [], [(12, 20)], [(13, 21)], [(3, 11), (11, 19), (14, 22)], []]
    [[], [0], [1], [2], [], [4], [5], [6], [], [8], [9], [7, 10], [], [12], [13], [3, 11, 14], []]
    [(0, 8), (1, 9), (2, 10), (3, 11), (4, 12), (5, 13), (6, 14), (7, 15), (8, 16), (9, 17), (10, 18), (11, 19), (12, 20), (13, 21), (14, 22), (15, 23), (16, 3)] rfl (by kernel_rfl) ⟨?_, ?_, ?_, ?_, ?_, ?_, ?_, ?_, ?_, ?_, ?_, ?_, ?_, ?_, ?_, ?_, ?_, trivial⟩ ?_
  · intro vals W hB _
    dsimp only [putsL, slotOf]
    go_wp2
    exact ⟨rfl, Below.refl _ _, rfl⟩
  · intro vals W hB ⟨h0, _⟩
    have h0 : vals 0 = _ := h0
    dsimp only [putsL, slotOf]
    rw [h0]
    go_wp2
    exact ⟨rfl, Below.refl _ _, rfl⟩
  · intro vals W hB ⟨h1, _⟩
    have h1 : vals 1 = _ := h1
    obtain ⟨x0, x1, x2, x3⟩ := HE4.out W hB
    dsimp only [putsL, slotOf]
    rw [h1]
    go_wp2
    exact ⟨rfl, Below.refl _ _, rfl⟩
  · intro vals W hB ⟨h2, _⟩
    have h2 : vals 2 = _ := h2
    dsimp only [putsL, slotOf]
    rw [h2]
    go_wp2
    exact ⟨rfl, Below.refl _ _, rfl⟩
  · intro vals W hB _
    dsimp only [putsL, slotOf]
    go_wp2
    exact ⟨rfl, Below.refl _ _, rfl⟩
  · intro vals W hB ⟨h4, _⟩
    have h4 : vals 4 = _ := h4
    dsimp only [putsL, slotOf]
    rw [h4]
    go_wp2
    exact ⟨rfl, Below.refl _ _, rfl⟩
  · intro vals W hB ⟨h5, _⟩
    have h5 : vals 5 = _ := h5
    obtain ⟨x0, x1, x2, x3⟩ := HE4.out W hB
    dsimp only [putsL, slotOf]
    rw [h5]
    go_wp2
    exact ⟨rfl, Below.refl _ _, rfl⟩
  · intro vals W hB ⟨h6, _⟩
    have h6 : vals 6 = _ := h6
    dsimp only [putsL, slotOf]
    rw [h6]
    go_wp2
    exact ⟨rfl, Below.refl _ _, rfl⟩
  · intro vals W hB _
    dsimp only [putsL, slotOf]
    go_wp2
    exact ⟨rfl, Below.refl _ _, rfl⟩
  · intro vals W hB ⟨h8, _⟩
    have h8 : vals 8 = _ := h8
    dsimp only [putsL, slotOf]
    rw [h8]
    go_wp2
    exact ⟨rfl, Below.refl _ _, rfl⟩
  · intro vals W hB ⟨h9, _⟩
    have h9 : vals 9 = _ := h9
    obtain ⟨x0, x1, x2, x3⟩ := HE4.out W hB
    dsimp only [putsL, slotOf]
    rw [h9]
    go_wp2
    exact ⟨rfl, Below.refl _ _, rfl⟩
  · intro vals W hB ⟨h7, h10, _⟩
    have h7 : vals 7 = _ := h7
    have h10 : vals 10 = _ := h10
    dsimp only [putsL, slotOf]
    rw [h7, h10]
    go_wp2
    exact ⟨rfl, Below.refl _ _, rfl⟩
  · intro vals W hB _
    dsimp only [putsL, slotOf]
    go_wp2
    exact ⟨rfl, Below.refl _ _, rfl⟩
  · intro vals W hB ⟨h12, _⟩
    have h12 : vals 12 = _ := h12
    dsimp only [putsL, slotOf]
    rw [h12]
    go_wp2
    exact ⟨rfl, Below.refl _ _, rfl⟩
  · intro vals W hB ⟨h13, _⟩
    have h13 : vals 13 = _ := h13
    obtain ⟨x0, x1, x2, x3⟩ := HE4.out W hB
    dsimp only [putsL, slotOf]
    rw [h13]
    go_wp2
    exact ⟨rfl, Below.refl _ _, rfl⟩
  · intro vals W hB ⟨h3, h11, h14, _⟩
    have h3 : vals 3 = _ := h3
    have h11 : vals 11 = _ := h11
    have h14 : vals 14 = _ := h14
    dsimp only [putsL, slotOf]
    rw [h3, h11, h14]
    go_wp2
    exact ⟨rfl, Below.refl _ _, rfl⟩
  · intro vals W hB _
    dsimp only [putsL, slotOf]
    go_wp2
    exact ⟨rfl, below_al (Below.refl _ _) _, _, hB.size, rfl, heap_alloc_new _ _⟩
  rintro vals W hB ⟨q0, q1, q2, q3, q4, q5, q6, q7, q8, q9, q10, q11, q12, q13, q14, q15, ⟨g16, hw16, q16, hg16⟩, -⟩
  have h0 : vals 0 = _ := q0
  have h1 : vals 1 = _ := q1
  have h2 : vals 2 = _ := q2
  have h3 : vals 3 = _ := q3
  have h4 : vals 4 = _ := q4
  have h5 : vals 5 = _ := q5
  have h6 : vals 6 = _ := q6
  have h7 : vals 7 = _ := q7
  have h8 : vals 8 = _ := q8
  have h9 : vals 9 = _ := q9
  have h10 : vals 10 = _ := q10
  have h11 : vals 11 = _ := q11
  have h12 : vals 12 = _ := q12
  have h13 : vals 13 = _ := q13
  have h14 : vals 14 = _ := q14
  have h15 : vals 15 = _ := q15
  have h16 : vals 16 = _ := q16
  dsimp only [putsL]
  rw [h0, h1, h2, h3, h4, h5, h6, h7, h8, h9, h10, h11, h12, h13, h14, h15, h16]
  clear h0 q0 h1 q1 h2 q2 h3 q3 h4 q4 h5 q5 h6 q6 h7 q7 h8 q8 h9 q9 h10 q10 h11 q11 h12 q12 h13 q13 h14 q14 h15 q15 h16 q16
  simp only [List.length_cons, List.length_nil, Nat.reduceAdd, List.drop_succ_cons, List.drop_zero, List.setIfInBounds_toArray, List.set_cons_succ, List.set_cons_zero]
  have HL : Veil _ := ⟨(⟨(hB.block _ (lt_of_heap HR0.out)).trans HR0.out, hg16, bc_then HB0.out hB, Nat.lt_of_lt_of_le (lt_of_heap HR0.out) hw16⟩ : LsB w W g16 0 0 0 0)⟩
  obtain ⟨⟨y0, y1, y2, y3⟩, f0, f1, f2, f3⟩ := pkM hg16
  have HL2 : Veil _ := ⟨HL.out.set a0 a1 a2 a3⟩
  clear hg16 hw16 hB
  cases rt
  · go_wp2_with (go_at_call 14; refine (HRt.out _).mono ?_; rintro e w3 ⟨rfl, hb3⟩; have HL3 : Veil _ := ⟨HL2.out.after hb3⟩; clear hb3; obtain ⟨⟨z0, z1, z2, z3⟩, k0, k1, k2, k3⟩ := pkM HL3.out.r)
    refine bodyPost_ret (results_listing1 (g := w.heap.size) rfl rfl (stM HL3.out.r _ _ _ _)) rfl ⟨rfl, tnM HL3.out.t (Nat.le_refl _) _ _ _ _⟩
  · go_wp2_with (go_at_call 14; refine (HRt.out _).mono ?_; rintro e w3 ⟨rfl, hb3⟩; have HL3 : Veil _ := ⟨HL2.out.after hb3⟩; clear hb3; obtain ⟨⟨z0, z1, z2, z3⟩, k0, k1, k2, k3⟩ := pkM HL3.out.r; obtain ⟨⟨x0, x1, x2, x3⟩, -⟩ := pkM HL3.out.m)
    refine bodyPost_ret (results_listing1 (g := w.heap.size) rfl rfl (stM HL3.out.r _ _ _ _)) rfl ⟨rfl, tnM HL3.out.t (Nat.le_refl _) _ _ _ _⟩

theorem parseLi_fact (s : List UInt8) : ((parseLi s).2 = 0 ∧ ((parseLi s).1.src : Int) ≠ 0) ∨ parseLi s = (Li.zero, 150) := by
  unfold parseLi
  by_cases h : s.length = 22 ∧ rightLi (liOf s) = true
  · rw [if_pos h]
    have := ((rightLi_iff _).1 h.2).1
    exact .inl ⟨rfl, by dsimp only; omega⟩
  · rw [if_neg h]
    exact .inr rfl
theorem shread_any {s : List UInt8} {w w' : World} {e : Ending} (h : NumLP s w e w') : ∃ v, e = .returned v ∧ Below w.heap.size w w' ∧ Calls Tryd.prog 28 #[v] w' fun e w'' => e = .returned (parseLi s).1.v ∧ Below w'.heap.size w' w'' := by
  obtain ⟨v, rfl, h | h, hb⟩ := h
  · obtain ⟨h1, p, c, rfl, hE⟩ := h
    refine ⟨_, rfl, hb, ?_⟩
    obtain ⟨h22, hof⟩ := okLi_of s h1
    obtain ⟨b, o, rfl, hE4⟩ := els4L hE
    have hx := liOf_ok s
    have hs0 := hx.src
    have hs1 := hx.item
    have hR : parseLi s = if rightLi (liOf s) = true then (liOf s, 0) else (Li.zero, 150) := by unfold parseLi; simp [h22]
    have hr := fun W => shright_any (liOf s) hx W
    rw [hR]
    rw [hof] at hr hs0 hs1 ⊢
    dsimp only at hs0 hs1
    refine (shlisting_four b o c _ _ _ _ (by rw [IntKind.wrap_u32]; omega) (by rw [IntKind.wrap_u16]; omega) _ hE4 hr).mono ?_
    rintro e w'' ⟨rfl, hb2⟩
    refine ⟨?_, hb2⟩
    split <;> rfl
  · obtain ⟨h1, p, n, c, rfl, hn⟩ := h
    refine ⟨_, rfl, hb, ?_⟩
    rw [okLi_not s h1]
    exact shlisting_zero p n c hn w'

set_option maxRecDepth 20000 in
set_option maxHeartbeats 4000000 in
theorem shparse_any (s : List UInt8) (hs : s.length ≤ 1000) (w : World) : Calls Tryd.prog 12 #[.string ⟨s.toArray⟩] w fun e w' => e = .returned (.tuple #[(parseLi s).1.v, .int .i64 (parseLi s).2]) ∧ Below w.heap.size w w' := by
  have HNu : Veil _ := ⟨fun W => shnumbers_any s hs W⟩
  have HRd : Veil (∀ (W W' : World) e, NumLP s W e W' → _) := ⟨fun W W' e h => shread_any h⟩
  have hf := parseLi_fact s
  generalize parseLi s = x at HRd hf ⊢
  obtain ⟨⟨f, i, n, mo⟩, ec⟩ := x
  have HR0 : Veil _ := ⟨heap_alloc_new w (.cells #[.int .u32 0, .int .u16 0, .int .i64 0, .int .i64 0] 27)⟩
  have hT0 : Below w.heap.size w (w.alloc (.cells #[.int .u32 0, .int .u16 0, .int .i64 0, .int .i64 0] 27)) := below_al (Below.refl _ _) _
  unfold Li.v at *
  dsimp only at *
  rcases hf with ⟨h0, h1⟩ | h
  · obtain ⟨F, hF⟩ : ∃ F : Int, (f : Int) = F := ⟨_, rfl⟩
    obtain ⟨I, hI⟩ : ∃ I : Int, (i : Int) = I := ⟨_, rfl⟩
    rw [hF] at h1
    rw [hF, hI] at HRd ⊢
    clear hF hI
    subst h0
    go_enter Tryd.func12, Tryd.ntmps12
    go_wp2_with (first
      | (go_at_call 28; refine (HLs.out).mono ?_; rintro e w2 ⟨rfl, hb2⟩; have hT := bc_then hT hb2; have HR : Veil _ := ⟨(hb2.block _ (lt_of_heap HR.out)).trans HR.out⟩; clear hb2; obtain ⟨⟨z0, z1, z2, z3⟩, k0, k1, k2, k3⟩ := pkM HR.out; have hz := lt_of_heap HR.out)
      | (go_at_call 29; refine (HNu.out _).mono ?_; rintro e w1 hpost; obtain ⟨v1, rfl, hb1, hls⟩ := HRd.out _ _ _ hpost; have HLs : Veil _ := ⟨hls⟩; have hT := bc_then hT0 hb1; have HR : Veil _ := ⟨(hb1.block _ (lt_of_heap HR0.out)).trans HR0.out⟩; clear hls hpost hb1))
    refine bodyPost_ret (results_listing2 (g := w.heap.size) rfl rfl rfl (by rw [heap_alloc_if, if_neg (by simp only [World.size_setCell]; omega)]; exact stM HR.out _ _ _ _)) rfl ⟨rfl, below_al (tnM hT (Nat.le_refl _) _ _ _ _) _⟩
  · have e1 : (⟨f, i, n, mo⟩ : Li) = Li.zero := congrArg Prod.fst h
    have e2 : ec = 150 := congrArg Prod.snd h
    simp only [Li.zero, Li.mk.injEq] at e1
    obtain ⟨rfl, rfl, rfl, rfl⟩ := e1
    subst e2
    clear h
    rw [show ((0 : Nat) : Int) = 0 from rfl] at HRd ⊢
    go_enter Tryd.func12, Tryd.ntmps12
    go_wp2_with (first
      | (go_at_call 28; refine (HLs.out).mono ?_; rintro e w2 ⟨rfl, hb2⟩; have hT := bc_then hT hb2; have HR : Veil _ := ⟨(hb2.block _ (lt_of_heap HR.out)).trans HR.out⟩; clear hb2; obtain ⟨⟨z0, z1, z2, z3⟩, k0, k1, k2, k3⟩ := pkM HR.out; have hz := lt_of_heap HR.out)
      | (go_at_call 29; refine (HNu.out _).mono ?_; rintro e w1 hpost; obtain ⟨v1, rfl, hb1, hls⟩ := HRd.out _ _ _ hpost; have HLs : Veil _ := ⟨hls⟩; have hT := bc_then hT0 hb1; have HR : Veil _ := ⟨(hb1.block _ (lt_of_heap HR0.out)).trans HR0.out⟩; clear hls hpost hb1))
    refine bodyPost_ret (results_listing2 (g := w.heap.size) rfl rfl rfl (by rw [heap_alloc_if, if_neg (by simp only [World.size_setCell]; omega)]; exact stM HR.out _ _ _ _)) rfl ⟨rfl, below_al (tnM hT (Nat.le_refl _) _ _ _ _) _⟩
end Go.Proofs.YtckkiilbabbeaaaDoor
