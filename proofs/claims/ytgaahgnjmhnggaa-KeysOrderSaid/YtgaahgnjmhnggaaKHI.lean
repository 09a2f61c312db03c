/- Keys: slices.Collect of a place's fields. -/
import Derived.Test.YtgaahgnjmhnggaaKH8
import Derived.Test.YtgaahgnjmhnggaaKO1
namespace Go.Proofs.Ytgaahgnjmhnggaa
open Go Go.RowKit Sm
attribute [local go_sem] Oper.semAt_some

def elF : El Fd where
  enc f := [.int .i64 f.size, .int .u32 f.n, .int .u32 f.least, .int .u32 f.most]
  z := 4
  ty := 43
  sl := 40
  bytes := 24
  zero := .agg #[.int .i64 0, .int .u32 0, .int .u32 0, .int .u32 0]
  d := ⟨0, 0, 0, 0⟩
  len _ := rfl
  one x v hv := by
    simp only [List.mem_cons, List.not_mem_nil, or_false] at hv
    rcases hv with rfl | rfl | rfl | rfl <;> rfl
  pos := by decide
  under := by kernel_rfl
  info := by kernel_rfl
  zlen := rfl
  few := by decide
theorem Fds.of_els {w : World} {g o : Nat} {fs : List Fd} (ho : o = 0) (h : Els elF w (some ⟨g, o, none⟩) fs) : Fds w g fs := by
  subst ho
  intro i hi
  have hne : fs ≠ [] := by rintro rfl; simp at hi
  obtain ⟨b, o', e, hc⟩ := h hne
  simp only [Option.some.injEq, Addr.mk.injEq, and_true] at e
  obtain ⟨rfl, rfl⟩ := e
  have h0 := hc i 0 hi (by decide)
  have h1 := hc i 1 hi (by decide)
  have h2 := hc i 2 hi (by decide)
  have h3 := hc i 3 hi (by decide)
  simp only [elF, Nat.zero_add, Nat.add_zero] at h0 h1 h2 h3
  exact ⟨h0, h1, h2, h3⟩

/-- While fields are collected: the slice's own variable, what has been appended, the place's box. -/
structure ColI (w : World) (B : Nat) (p : Pl) (L : List Fd) (A : World) : Prop where
  own : ∃ v, A.heap[w.heap.size]? = some (.cells #[v] 40 (0, 0)) ∧ OwnE elF A (w.heap.size + 1) v L
  box : PlBox A B p.kind p.a p.item p.mail
  t : Turned (fun _ => False) w A
theorem ColI.new {w A A' : World} {B : Nat} {p : Pl} {L : List Fd} (h : ColI w B p L A) (hb : Below A.heap.size A A') : ColI w B p L A' := by
  obtain ⟨v, h1, h2⟩ := h.own
  exact ⟨⟨v, (hb.block _ (lt_of_heap h1)).trans h1, h2.below hb⟩, h.box.below hb, h.t.trans (Turned.new hb)⟩
theorem PlBox.turned {F : Nat → Prop} {A A' : World} {B : Nat} {k a i m : Int} (h : PlBox A B k a i m) (ht : Turned F A A') (hF : ¬ F B) : PlBox A' B k a i m :=
  ⟨ht.cell h.k hF, ht.cell h.a hF, ht.cell h.i hF, ht.cell h.m hF⟩
theorem PlBox.booked {A A' : World} {B S : Nat} {k a i m : Int} (h : PlBox A B k a i m) (hb : Booked S A A') : PlBox A' B k a i m := by
  have hh : ∀ j x, A.cell? ⟨B, j, none⟩ = some x → A'.cell? ⟨B, j, none⟩ = some x := by
    intro j x hx
    unfold World.cell? at hx ⊢
    dsimp only at hx ⊢
    cases e : A.heap[B]? with
    | none => rw [e] at hx; cases hx
    | some o =>
      rw [e] at hx
      cases o with
      | cells c t fr => rw [hb.heap e]; exact hx
      | _ => cases hx
  exact ⟨hh _ _ h.k, hh _ _ h.a, hh _ _ h.i, hh _ _ h.m⟩
theorem ColI.booked {w A A' : World} {B S : Nat} {p : Pl} {L : List Fd} (h : ColI w B p L A) (hb : Booked S A A') (hS : w.heap.size ≤ S) : ColI w B p L A' := by
  obtain ⟨v, h1, h2⟩ := h.own
  exact ⟨⟨v, hb.heap h1, hb.ownsRow h2⟩, h.box.booked hb, hb.turned h.t hS⟩

set_option maxRecDepth 20000 in
set_option maxHeartbeats 1000000 in
theorem append_seq (B : Nat) (p : Pl) (hp : p.Ok) (w : World) (hB : PlBox w B p.kind p.a p.item p.mail) : Calls Try.prog 25 #[.slice none 0 0, .func (.func 26) #[] #[.pointer (some ⟨B, 0, none⟩)]] w fun e w' => ∃ v, e = .returned v ∧ OwnE elF w' (w.heap.size + 1) v p.flds ∧ Below w.heap.size w w' := by
  refine calls_of_wp_marks Try.func25 rfl ?_
  simp only [Try.ntmps25, List.size_toArray, List.length_cons, List.length_nil, Nat.reduceAdd, Nat.reduceSub, Array.replicate_succ, Array.replicate_zero, List.push_toArray, List.append_toArray, List.nil_append, List.cons_append]
  go_wp2
  have hT0 : Turned (fun _ => False) w (w.alloc (.cells #[.slice none 0 0] 40)) := (Turned.refl _ w).alloc _
  have hI0 : ColI w B p [] (w.alloc (.cells #[.slice none 0 0] 40)) := ⟨⟨_, heap_alloc_new _ _, OwnE.nil _ _ _⟩, hB.below (below_al (Below.refl _ _) _), hT0⟩
  have hz0 : w.heap.size < (w.alloc (.cells #[.slice none 0 0] 40)).heap.size := by simp
  revert hI0; revert hz0
  generalize w.alloc (.cells #[.slice none 0 0] 40) = w1
  intro hz0 hI0
  clear hT0
  refine wp_range_seq (gf := 26) (lb := #[.pointer (some ⟨B, 0, none⟩)]) rfl (enters_of Try.func26 (by kernel_rfl) rfl)
    (fields_seq B p hp) (fun k => rfl)
    (fun k A => ColI w B p (p.flds.take k) A) (fun _ _ _ => False) ?hI (fun _ _ _ _ h _ => h) ?hF ?h0 ?hround ?hdone (fun _ _ _ _ _ _ h => h.elim)
  case hI => exact fun k A A' h hb => h.booked hb (Nat.le_of_lt hz0)
  case hF => exact fun k A h => h.box
  case h0 => exact hI0
  case hround =>
    rintro l m k A hl hlt hi
    have htk : p.flds.take (k + 1) = p.flds.take k ++ [p.flds.getD k ⟨0, 0, 0, 0⟩] := by rw [List.take_succ_eq_append_getElem hlt]; simp [List.getD, hlt]
    have HTK : Veil _ := ⟨htk⟩
    have HLN : Veil ((p.flds.take k).length ≤ 2) := ⟨Nat.le_trans (List.length_take_le ..) (by have := flds_len p; omega)⟩
    clear htk hI0
    simp only [handsF, List.zip_cons_cons, List.zip_nil_right, List.foldl_cons, List.foldl_nil, List.setIfInBounds_toArray, List.set_cons_succ, List.set_cons_zero]
    revert HTK
    generalize p.flds.getD k ⟨0, 0, 0, 0⟩ = f
    obtain ⟨sz, vl, le, mo⟩ := f
    intro HTK
    unfold Fd.v
    dsimp only
    have HI1 : Veil _ := ⟨hi⟩
    clear hi
    gi_wp2
    have hT1 : Turned (fun _ => False) A (A.alloc (.cells #[.int .i64 sz, .int .u32 vl, .int .u32 le, .int .u32 mo] 43)) := (Turned.refl _ A).alloc _
    refine ⟨keepsFrom_new6 hT1, fun A2 hbk hsz => ?_⟩
    have hi2 := (HI1.out.new (below_al (Below.refl _ _) _)).booked hbk (Nat.le_of_lt hz0)
    have hs2 := hbk.heap (heap_alloc_new A (.cells #[.int .i64 sz, .int .u32 vl, .int .u32 le, .int .u32 mo] 43))
    have hgA : w.heap.size < A.heap.size := by
      obtain ⟨v, hv, -⟩ := HI1.out.own
      exact lt_of_heap hv
    clear HI1 hT1 hbk
    obtain ⟨⟨v, hv, hown⟩, hbox, ht⟩ := hi2
    have hBw : B < w.heap.size := World.block_lt_of_cell? _ _ hB.k
    have HO : Veil _ := ⟨hown⟩
    have HB2 : Veil _ := ⟨hbox⟩
    have HT2 : Veil _ := ⟨ht⟩
    have HV2 : Veil _ := ⟨hv⟩
    have q0 := cell_row6 hv
    obtain ⟨⟨q1, q2, q3, q4⟩, -⟩ := pk4 hs2
    clear hown hbox ht hv hs2 hsz
    gi_wp2_with (refine listIn_op rfl (fun K hK => ?_); refine wpList_append_el elF rfl (.tmp 8) (.tmp 10) rfl (w.heap.size + 1) v (p.flds.take k) ⟨sz, vl, le, mo⟩ rfl (HO.out.below (below_al (Below.refl _ _) _)) A2.heap.size rfl (heap_alloc_new _ _) (by have := HLN.out; omega) (by have := lt_of_heap HV2.out; simp; omega) ?_; intro v' w9 hown9 hgrow hfrom; obtain ⟨p', c', ev, -, -⟩ := hown9.form; subst ev; have ht9 : Turned (fun j => v.ownBlock = some j) A2 w9 := ((Turned.refl _ A2).alloc _).trans (Turned.grown hgrow (fun j hj _ => hj)); have hv9 := ht9.heap HV2.out (fun e => by have := (HO.out.lt e).1; omega); have q9 := cell_row6 hv9; have f9 : w9.frozen? ⟨w.heap.size, 0, none⟩ = false := frozen_whole hv9 _; refine wpList_nil (one_normal (hK _ _ ?_)); clear hK K)
    have htF : ∀ x, Turned (fun j => v.ownBlock = some j ∨ j = w.heap.size) A2 (w9.setCell ⟨w.heap.size, 0, none⟩ x) := fun x => (ht9.wider fun _ _ h => .inl h).setCell (p := ⟨w.heap.size, 0, none⟩) (.inr rfl) _
    have e9 : (p.flds.take k ++ [(⟨sz, vl, le, mo⟩ : Fd)]).length = min k p.flds.length + 1 := by simp
    rw [e9] at hown9
    refine ⟨keepsFrom_turned6 (htF _) ?_, ⟨⟨_, heap_setCell_at hv9 0 _, ?_⟩, ?_, ?_⟩⟩
    · rintro j (hj | rfl)
      · right
        obtain ⟨-, h2⟩ := HO.out
        rcases h2 with ⟨rfl, -⟩ | ⟨g, cap, cur, rfl, -, hh, -⟩
        · cases hj
        · cases hj; exact ⟨_, _, _, hh⟩
      · exact .inl hz0
    · rw [HTK.out]
      exact hown9.kept ((Turned.refl (· = w.heap.size) w9).setCell (p := ⟨w.heap.size, 0, none⟩) rfl _) (fun j hj e => by have := (hown9.lt hj).1; omega)
    · exact HB2.out.turned (htF _) (fun h => by
        rcases h with h | h
        · have := (HO.out.lt h).1; omega
        · omega)
    · exact HT2.out.then (htF _) (fun j hj e => by
        rcases e with h | h
        · have := (HO.out.lt h).1; omega
        · omega)
  case hdone =>
    rintro Dd A hDd hi hdd
    rw [List.take_length] at hi
    obtain ⟨⟨v, hv, hown⟩, hbox, ht⟩ := hi
    have q0 := cell_row6 hv
    have HO : Veil _ := ⟨hown⟩
    have HT : Veil _ := ⟨ht⟩
    clear hI0 hown hbox ht hv
    go_wp2
    refine leaves_mark (D := Dd) (B := w1.heap.size) hdd hDd ?_
    intro w' hb _
    refine leaves_none (results_tmp rfl _ _ _) ⟨v, rfl, hb.ownsRow HO.out, ?_⟩
    exact (hb.turned HT.out (Nat.le_of_lt hz0)).toBelow (Nat.le_refl _) (fun _ _ h => h.elim)
end Go.Proofs.Ytgaahgnjmhnggaa

/- Keys: Right, by the program. -/
namespace Go.Proofs.Ytgaahgnjmhnggaa
open Go Go.RowKit Sm
attribute [local go_sem] Oper.semAt_some

set_option maxRecDepth 20000 in
theorem collect_any (B : Nat) (p : Pl) (hp : p.Ok) (w : World) (hB : PlBox w B p.kind p.a p.item p.mail) : Calls Try.prog 18 #[.func (.func 26) #[] #[.pointer (some ⟨B, 0, none⟩)]] w fun e w' => ∃ g c, e = .returned (.slice (some ⟨g, 0, none⟩) p.flds.length c) ∧ Fds w' g p.flds ∧ g < w'.heap.size ∧ Below w.heap.size w w' := by
  have HC : Veil _ := ⟨append_seq B p hp w hB⟩
  go_enter Try.func18, Try.ntmps18
  go_wp2_with (go_at_call 25; refine HC.out.mono ?_; rintro e w2 ⟨v, rfl, ho, hb⟩)
  obtain ⟨h1, h2⟩ := ho
  have hpos : 0 < p.flds.length := by simp [Pl.flds]
  rcases h2 with ⟨rfl, h0⟩ | ⟨g, cap, cur, rfl, hg, hh, hn, hc, hs, ht⟩
  · omega
  · go_ret
    exact ⟨g, cap, rfl, Fds.of_els rfl (els_of_block hh ht), lt_of_heap hh, hb⟩

/-- While a place's fields are looked at: the answer's box, the place's, the iterator's. -/
structure RigI (w : World) (p : Pl) (r : Bool) (A : World) : Prop where
  box : A.heap[w.heap.size]? = some (.cells #[.int .i64 p.kind, .int .u32 p.a, .int .u16 p.item, .int .u32 p.mail] 25 (0, 0))
  res : A.heap[w.heap.size + 1]? = some (.cells #[.bool r] 4 (0, 0))
  it : PlBox A (w.heap.size + 2) p.kind p.a p.item p.mail
  t : Turned (fun _ => False) w A
theorem RigI.new {w A A' : World} {p : Pl} {r : Bool} (h : RigI w p r A) (hb : Below A.heap.size A A') : RigI w p r A' :=
  ⟨(hb.block _ (lt_of_heap h.box)).trans h.box, (hb.block _ (lt_of_heap h.res)).trans h.res, h.it.below hb, h.t.trans (Turned.new hb)⟩
theorem RigI.booked {w A A' : World} {p : Pl} {r : Bool} {S : Nat} (h : RigI w p r A) (hb : Booked S A A') (hS : w.heap.size ≤ S) : RigI w p r A' :=
  ⟨hb.heap h.box, hb.heap h.res, h.it.booked hb, hb.turned h.t hS⟩
theorem Pl.named_ka (p : Pl) : p.named.kind = p.kind ∧ p.named.a = p.a := by
  unfold Pl.named
  by_cases h1 : p.kind = 1
  · rw [if_pos h1]; exact ⟨rfl, rfl⟩
  rw [if_neg h1]
  by_cases h4 : p.kind = 4
  · rw [if_pos h4]; exact ⟨rfl, rfl⟩
  rw [if_neg h4]
  by_cases h5 : p.kind = 5
  · rw [if_pos h5]; exact ⟨rfl, rfl⟩
  rw [if_neg h5]
  by_cases h2 : p.kind = 2
  · rw [if_pos h2]; exact ⟨rfl, rfl⟩
  rw [if_neg h2]
  by_cases h6 : p.kind = 6
  · rw [if_pos h6]; exact ⟨rfl, rfl⟩
  rw [if_neg h6]
  by_cases h3 : p.kind = 3
  · rw [if_pos h3]; exact ⟨rfl, rfl⟩
  rw [if_neg h3]
  exact ⟨rfl, rfl⟩
theorem all_bad (l : List Fd) (k : Nat) (h : k < l.length) (hb : (l.getD k ⟨0, 0, 0, 0⟩).good = false) : l.all Fd.good = false := by
  rw [List.all_eq_false]
  refine ⟨l[k], List.getElem_mem _, ?_⟩
  have e : l.getD k ⟨0, 0, 0, 0⟩ = l[k] := by simp [List.getD, h]
  rw [← e, hb]
  simp
theorem allTake (l : List Fd) (k : Nat) (h : k < l.length) : (l.take (k + 1)).all Fd.good = ((l.take k).all Fd.good && (l.getD k ⟨0, 0, 0, 0⟩).good) := by
  rw [List.take_succ_eq_append_getElem h, List.all_append]
  simp [List.getD, h]

set_option maxRecDepth 20000 in
set_option maxHeartbeats 1000000 in
theorem kyright_any (p : Pl) (hp : p.Ok) (w : World) : Calls Try.prog 13 #[p.v] w fun e w' => e = .returned (.bool p.right) ∧ Below w.heap.size w w' := by
  have HN : Veil _ := ⟨fun w => named_any p w⟩
  have HF : Veil _ := ⟨fun w => fields_any p w⟩
  have HSEQ : Veil _ := ⟨fields_seq (w.heap.size + 2) p hp⟩
  have HRI : Veil _ := ⟨p.right_flds hp⟩
  have HLE : Veil _ := ⟨flds_len p⟩
  have HNM : Veil _ := ⟨p.named_ka⟩
  obtain ⟨R, hR⟩ : ∃ R, p.right = R := ⟨_, rfl⟩
  have HR : Veil _ := ⟨hR⟩
  rw [hR]
  clear hR
  unfold Pl.v at HN HF ⊢
  rw [HNM.out.1, HNM.out.2] at HN
  refine calls_of_wp_marks Try.func13 rfl ?_
  simp only [Try.ntmps13, List.size_toArray, List.length_cons, List.length_nil, Nat.reduceAdd, Nat.reduceSub, Array.replicate_succ, Array.replicate_zero, List.push_toArray, List.append_toArray, List.nil_append, List.cons_append]
  go_wp2_with (go_at_call 19; refine (HF.out _).mono ?_; rintro e w1 ⟨rfl, hw1⟩)
  have hI0 : RigI w p false w1 := by
    rw [← hw1]
    refine ⟨?_, ?_, ?_, ((Turned.refl _ w).alloc _).alloc _ |>.alloc _⟩
    · simp only [heap_alloc_if, World.size_alloc]; repeat (first | rw [if_neg (by omega)] | rw [if_pos (by first | trivial | omega)])
    · simp only [heap_alloc_if, World.size_alloc]; repeat (first | rw [if_neg (by omega)] | rw [if_pos (by first | trivial | omega)])
    · have := PlBox.new ((w.alloc (.cells #[.int .i64 p.kind, .int .u32 p.a, .int .u16 p.item, .int .u32 p.mail] 25)).alloc (.cells #[.bool false] 4)) p.kind p.a p.item p.mail 25
      simpa using this
  have hz1 : w1.heap.size = w.heap.size + 3 := by rw [← hw1]; simp
  clear hw1
  refine wp_range_seq (gf := 26) (lb := #[.pointer (some ⟨w.heap.size + 2, 0, none⟩)]) rfl (enters_of Try.func26 (by kernel_rfl) rfl)
    HSEQ.out (fun k => rfl)
    (fun k A => RigI w p false A ∧ (p.flds.take k).all Fd.good = true) (fun c _ A => c = .ret ∧ RigI w p false A ∧ p.flds.all Fd.good = false) ?hI ?hIx ?hF ?h0 ?hround ?hdone ?hstop
  case hI => exact fun k A A' h hb => ⟨h.1.booked hb (by omega), h.2⟩
  case hIx => exact fun c k A A' h hb => ⟨h.1, h.2.1.booked hb (by omega), h.2.2⟩
  case hF => exact fun k A h => h.1.it
  case h0 => exact ⟨hI0, by simp⟩
  case hround =>
    rintro l m k A hl hlt ⟨hi, hall⟩
    have HAT : Veil _ := ⟨allTake p.flds k hlt⟩
    have HBD : Veil _ := ⟨all_bad p.flds k hlt⟩
    have HAL : Veil _ := ⟨hall⟩
    clear hI0 hall
    simp only [handsF, List.zip_cons_cons, List.zip_nil_right, List.foldl_cons, List.foldl_nil, List.setIfInBounds_toArray, List.set_cons_succ, List.set_cons_zero]
    revert HAT; revert HBD
    generalize p.flds.getD k ⟨0, 0, 0, 0⟩ = f
    obtain ⟨sz, vl, le, mo⟩ := f
    intro HBD HAT
    unfold Fd.v
    dsimp only
    have HI1 : Veil _ := ⟨hi⟩
    clear hi
    gi_wp2
    have hT1 : Turned (fun _ => False) A (A.alloc (.cells #[.int .i64 sz, .int .u32 vl, .int .u32 le, .int .u32 mo] 43)) := (Turned.refl _ A).alloc _
    refine ⟨keepsFrom_new6 hT1, fun A2 hbk hsz => ?_⟩
    have hi2 := (HI1.out.new (below_al (Below.refl _ _) _)).booked hbk (S := w1.heap.size) (by omega)
    have hs2 := hbk.heap (heap_alloc_new A (.cells #[.int .i64 sz, .int .u32 vl, .int .u32 le, .int .u32 mo] 43))
    clear HI1 hT1 hbk
    have HI2 : Veil _ := ⟨hi2⟩
    obtain ⟨⟨q1, q2, q3, q4⟩, -⟩ := pk4 hs2
    have r0 := cell_row6 hi2.res
    have r1 : A2.frozen? ⟨w.heap.size + 1, 0, none⟩ = false := frozen_whole hi2.res _
    clear hi2 hs2 hsz HN HF HSEQ HRI
    have hT2 : Turned (· = w.heap.size + 1) A2 (A2.setCell ⟨w.heap.size + 1, 0, none⟩ (.bool false)) := (Turned.refl (· = w.heap.size + 1) A2).setCell (p := ⟨w.heap.size + 1, 0, none⟩) rfl _
    have HT2 : Veil _ := ⟨hT2⟩
    have stop : ((⟨sz, vl, le, mo⟩ : Fd).good = false) → KeepsFrom w1.heap.size A2 (A2.setCell ⟨w.heap.size + 1, 0, none⟩ (.bool false)) ∧ RigI w p false (A2.setCell ⟨w.heap.size + 1, 0, none⟩ (.bool false)) ∧ p.flds.all Fd.good = false := fun hg =>
      ⟨keepsFrom_turned6 HT2.out (fun j hj => .inl (by omega)), ⟨HT2.out.heap HI2.out.box (by omega), heap_setCell_at HI2.out.res 0 _, HI2.out.it.turned HT2.out (by omega), HI2.out.t.then HT2.out (fun j hj e => by omega)⟩, HBD.out hg⟩
    have HST : Veil _ := ⟨stop⟩
    clear hT2 stop
    by_cases g1 : vl < le
    · have G1 : decide (vl < le) = true := by simp [g1]
      have hs := HST.out (by simp [Fd.good, g1])
      have HSS : Veil _ := ⟨hs⟩
      clear hs
      gi_wp2
      exact ⟨HSS.out.1, rfl, HSS.out.2⟩
    have G1 : decide (vl < le) = false := by simp [g1]
    by_cases g2 : mo < vl
    · have G2 : decide (mo < vl) = true := by simp [g2]
      have hs := HST.out (by simp [Fd.good, g2])
      have HSS : Veil _ := ⟨hs⟩
      clear hs
      gi_wp2
      exact ⟨HSS.out.1, rfl, HSS.out.2⟩
    have G2 : decide (mo < vl) = false := by simp [g2]
    have hg : Veil ((⟨sz, vl, le, mo⟩ : Fd).good = true) := ⟨by simp [Fd.good, g1, g2]⟩
    gi_wp2
    exact ⟨KeepsFrom.refl _ _, HI2.out, by rw [HAT.out, HAL.out, hg.out]; rfl⟩
  case hdone =>
    rintro Dd A hDd ⟨hi, hall⟩ hdd
    rw [List.take_length] at hall
    have HI : Veil _ := ⟨hi⟩
    have HD : Veil _ := ⟨hdd⟩
    have HAL : Veil _ := ⟨hall⟩
    clear hI0 hi hall hdd HSEQ HF
    have HTT : Veil (R = ((p.item : Int) == (p.named.item : Int) && (p.mail : Int) == (p.named.mail : Int))) := ⟨by
      rw [← HR.out, HRI.out, HAL.out, Bool.true_and, Pl.isNamed, Bool.eq_iff_iff]
      simp only [decide_eq_true_eq, Bool.and_eq_true, beq_iff_eq]
      omega⟩
    clear HRI HR HNM HAL HLE
    revert HN; revert HTT
    obtain ⟨i', hi'⟩ : ∃ i' : Int, (p.named.item : Int) = i' := ⟨_, rfl⟩
    obtain ⟨m', hm'⟩ : ∃ m' : Int, (p.named.mail : Int) = m' := ⟨_, rfl⟩
    rw [hi', hm']
    clear hi' hm'
    intro HTT HN
    obtain ⟨T, hT⟩ : ∃ T : Bool, ((p.item : Int) == i' && (p.mail : Int) == m') = T := ⟨_, rfl⟩
    rw [hT] at HTT
    go_wp2
    refine region_new [.is (.agg #[.int .i64 p.kind, .int .u32 p.a, .int .u16 p.item, .int .u32 p.mail]), .is (.agg #[.int .i64 p.kind, .int .u32 p.a, .int .u16 p.item, .int .u32 p.mail]), .is (.agg #[.int .i64 p.kind, .int .u32 p.a, .int .u16 i', .int .u32 m']), .is (.bool T)]
      [[], [], [(1, 20)], [(0, 19), (2, 21)]]
      [[], [], [1], [0, 2]]
      [(0, 19), (1, 20), (2, 21), (3, 22)] rfl (by kernel_rfl) ⟨?_, ?_, ?_, ?_, trivial⟩ ?_
    · intro vals W hB _
      obtain ⟨⟨x0, x1, x2, x3⟩, -⟩ := pk4 (HI.out.new hB).box
      dsimp only [putsL, slotOf]
      go_wp2
      exact ⟨rfl, Below.refl _ _, rfl⟩
    · intro vals W hB _
      obtain ⟨⟨x0, x1, x2, x3⟩, -⟩ := pk4 (HI.out.new hB).box
      dsimp only [putsL, slotOf]
      go_wp2
      exact ⟨rfl, Below.refl _ _, rfl⟩
    · intro vals W hB ⟨h1, _⟩
      have h1 : vals 1 = _ := h1
      dsimp only [putsL, slotOf]
      rw [h1]
      go_wp2_with ((go_at_call 23; refine (HN.out _).mono ?_; rintro e w4 ⟨rfl, hb4⟩))
      exact ⟨rfl, hb4, rfl⟩
    · intro vals W hB ⟨h0, h2, _⟩
      have h0 : vals 0 = _ := h0
      have h2 : vals 2 = _ := h2
      dsimp only [putsL, slotOf]
      rw [h0, h2]
      clear h0 h2
      go_wp2
      all_goals exact ⟨rfl, Below.refl _ _, congrArg Value.bool (by clear HTT; subst hT; simp [*])⟩
    rintro vals W hB ⟨q0, q1, q2, q3, -⟩
    have h0 : vals 0 = _ := q0
    have h1 : vals 1 = _ := q1
    have h2 : vals 2 = _ := q2
    have h3 : vals 3 = _ := q3
    dsimp only [putsL]
    rw [h0, h1, h2, h3]
    clear h0 q0 h1 q1 h2 q2 h3 q3
    simp only [List.length_cons, List.length_nil, Nat.reduceAdd, List.drop_succ_cons, List.drop_zero, List.setIfInBounds_toArray, List.set_cons_succ, List.set_cons_zero]
    have hi3 := HI.out.new hB
    have HI3 : Veil _ := ⟨hi3⟩
    have r0 := cell_row6 hi3.res
    have r1 : W.frozen? ⟨w.heap.size + 1, 0, none⟩ = false := frozen_whole hi3.res _
    have HD3 : Veil _ := ⟨(hB.block _ (lt_of_heap HD.out)).trans HD.out⟩
    clear hi3 hB hT HN
    go_wp2
    have hT3 : Turned (· = w.heap.size + 1) W (W.setCell ⟨w.heap.size + 1, 0, none⟩ (.bool T)) := (Turned.refl (· = w.heap.size + 1) W).setCell (p := ⟨w.heap.size + 1, 0, none⟩) rfl _
    refine leaves_mark (D := Dd) (B := w1.heap.size) (hT3.heap HD3.out (by omega)) hDd ?_
    intro w' hb _
    refine leaves_none (results_bool6 (g := w.heap.size + 1) rfl rfl (hb.heap (heap_setCell_at HI3.out.res 0 (.bool T)))) ⟨ret_bool HTT.out.symm, ?_⟩
    exact (hb.turned (HI3.out.t.then hT3 (fun j hj e => by omega)) (by omega)).toBelow (Nat.le_refl _) (fun _ _ h => h.elim)
  case hstop =>
    rintro Dd cd k A hDd hlt ⟨rfl, hi, hbad⟩ hdd
    have HI : Veil _ := ⟨hi⟩
    have hr : Veil (R = false) := ⟨by rw [← HR.out, HRI.out, hbad]; rfl⟩
    clear hI0 hi
    go_wp2
    refine leaves_mark (D := Dd) (B := w1.heap.size) hdd hDd ?_
    intro w' hb _
    refine leaves_none (results_bool6 (g := w.heap.size + 1) rfl rfl (hb.heap HI.out.res)) ⟨ret_bool hr.out.symm, ?_⟩
    exact (hb.turned HI.out.t (by omega)).toBelow (Nat.le_refl _) (fun _ _ h => h.elim)
end Go.Proofs.Ytgaahgnjmhnggaa

/- Keys: Key, by the program. -/
namespace Go.Proofs.Ytgaahgnjmhnggaa
open Go Go.RowKit Sm
attribute [local go_sem] Oper.semAt_some

theorem Fds.below {w w' : World} {g : Nat} {fs : List Fd} (h : Fds w g fs) (hb : Below w.heap.size w w') : Fds w' g fs := fun i hi => by
  obtain ⟨a, b, c, d⟩ := h i hi
  exact ⟨(hb.cell (World.block_lt_of_cell? _ _ a)).trans a, (hb.cell (World.block_lt_of_cell? _ _ b)).trans b, (hb.cell (World.block_lt_of_cell? _ _ c)).trans c, (hb.cell (World.block_lt_of_cell? _ _ d)).trans d⟩

set_option maxRecDepth 20000 in
set_option maxHeartbeats 1000000 in
theorem kykey_any (q : Pl) (hq : q.Ok) (w : World) : Calls Try.prog 9 #[q.v] w fun e w' => e = .returned (.tuple #[.string ⟨q.keyR.1.toArray⟩, .int .i64 q.keyR.2]) ∧ Below w.heap.size w w' := by
  have RR : Veil _ := ⟨fun w => kyright_any q hq w⟩
  by_cases hr : q.right = true
  · have e : q.keyR = (markB q.kind :: wroteB q.flds, 0) := by unfold Pl.keyR; rw [if_pos hr, q.key_flds hr]
    rw [e]
    rw [hr] at RR
    dsimp only
    clear e hr
    have HF : Veil _ := ⟨fun w => fields_any q w⟩
    have HW : Veil _ := ⟨fun w b cap hc hb => wrote_any q.kind b cap q.flds w hc hb ⟨flds_size q⟩ (by have := flds_len q; omega)⟩
    generalize (⟨(markB q.kind :: wroteB q.flds).toArray⟩ : ByteArray) = S at HW ⊢
    have HB0 : Veil (PlBox (w.alloc (.cells #[.int .i64 q.kind, .int .u32 q.a, .int .u16 q.item, .int .u32 q.mail] 25)) w.heap.size q.kind q.a q.item q.mail) := ⟨PlBox.new _ _ _ _ _ _⟩
    unfold Pl.v at RR HF ⊢
    go_enter Try.func9, Try.ntmps9
    go_wp2_with (go_at_call 13; refine (RR.out _).mono ?_; rintro e w1 ⟨rfl, hb1⟩; have HB : Veil _ := ⟨HB0.out.below hb1⟩; have HBl : Veil _ := ⟨bc_then (below_al (Below.refl _ _) _) hb1⟩; clear hb1)
    refine region_new [.is (.pointer (some ⟨w.heap.size, 0, none⟩)), .is (.int .i64 q.kind), .is (.agg #[.int .i64 q.kind, .int .u32 q.a, .int .u16 q.item, .int .u32 q.mail]), .gen (fun v W => ∃ (p c : Nat), v = .func (.func 26) #[] #[.pointer (some ⟨p, 0, none⟩)] ∧ PlBox W p q.kind q.a q.item q.mail) (fun v W W' hb ⟨p, c, h, hz⟩ => ⟨p, c, h, hz.below hb⟩), .gen (fun v W => ∃ (p c : Nat), v = .slice (some ⟨p, 0, none⟩) q.flds.length c ∧ Fds W p q.flds ∧ p < W.heap.size) (fun v W W' hb ⟨p, c, h, hz, hl⟩ => ⟨p, c, h, hz.below hb, Nat.lt_of_lt_of_le hl hb.size⟩), .is (.string S)]
      [[], [(0, 7)], [], [(2, 9)], [(3, 10)], [(1, 8), (4, 11)]]
      [[], [0], [], [2], [3], [1, 4]]
      [(0, 7), (1, 8), (2, 9), (3, 10), (4, 11), (5, 12)] rfl (by kernel_rfl) ⟨?_, ?_, ?_, ?_, ?_, ?_, trivial⟩ ?_
    · intro vals W hB _
      dsimp only [putsL, slotOf]
      go_wp2
      exact ⟨rfl, Below.refl _ _, rfl⟩
    · intro vals W hB ⟨h0, _⟩
      have h0 : vals 0 = _ := h0
      obtain ⟨x0, x1, x2, x3⟩ := HB.out.below hB
      dsimp only [putsL, slotOf]
      rw [h0]
      go_wp2
      exact ⟨rfl, Below.refl _ _, rfl⟩
    · intro vals W hB _
      obtain ⟨x0, x1, x2, x3⟩ := HB.out.below hB
      dsimp only [putsL, slotOf]
      go_wp2
      exact ⟨rfl, Below.refl _ _, rfl⟩
    · intro vals W hB ⟨h2, _⟩
      have h2 : vals 2 = _ := h2
      dsimp only [putsL, slotOf]
      rw [h2]
      go_wp2_with ((go_at_call 19; refine (HF.out _).mono ?_; rintro e w4 ⟨rfl, hw4⟩; have hb4 : Below W.heap.size W w4 := (by rw [← hw4]; exact below_al (Below.refl _ _) _)))
      exact ⟨rfl, hb4, ⟨_, 0, rfl, by rw [← hw4]; exact PlBox.new _ _ _ _ _ _⟩⟩
    · intro vals W hB ⟨⟨pu3, cu3, h3, hz3⟩, _⟩
      have h3 : vals 3 = _ := h3
      dsimp only [putsL, slotOf]
      rw [h3]
      go_wp2_with ((go_at_call 18; refine (collect_any pu3 q hq _ hz3).mono ?_; rintro e w4 ⟨g4, c4, rfl, hf4, hl4, hb4⟩))
      exact ⟨rfl, hb4, ⟨g4, c4, rfl, hf4, hl4⟩⟩
    · intro vals W hB ⟨h1, ⟨pu4, cu4, h4, hz4⟩, _⟩
      have h1 : vals 1 = _ := h1
      have h4 : vals 4 = _ := h4
      dsimp only [putsL, slotOf]
      rw [h1, h4]
      go_wp2_with ((go_at_call 17; refine (HW.out _ _ _ hz4.1 hz4.2).mono ?_; rintro e w4 ⟨rfl, hb4⟩))
      exact ⟨rfl, hb4, rfl⟩
    rintro vals W hB ⟨q0, q1, q2, ⟨pu3, cu3, q3, hz3⟩, ⟨pu4, cu4, q4, hz4⟩, q5, -⟩
    have h0 : vals 0 = _ := q0
    have h1 : vals 1 = _ := q1
    have h2 : vals 2 = _ := q2
    have h3 : vals 3 = _ := q3
    have h4 : vals 4 = _ := q4
    have h5 : vals 5 = _ := q5
    dsimp only [putsL]
    rw [h0, h1, h2, h3, h4, h5]
    clear h0 q0 h1 q1 h2 q2 h3 q3 h4 q4 h5 q5
    simp only [List.length_cons, List.length_nil, Nat.reduceAdd, List.drop_succ_cons, List.drop_zero, List.setIfInBounds_toArray, List.set_cons_succ, List.set_cons_zero]
    have HT : Veil _ := ⟨bc_then HBl.out hB⟩
    clear hB hz3 hz4
    go_wp2
    go_ret2
    exact ⟨rfl, HT.out⟩
  · have hf : q.right = false := by simpa using hr
    have e : q.keyR = ([], 100) := by unfold Pl.keyR; rw [if_neg hr]
    rw [e]
    rw [hf] at RR
    dsimp only
    clear e hf hr
    unfold Pl.v at RR ⊢
    go_enter Try.func9, Try.ntmps9
    go_wp2_with (go_at_call 13; refine (RR.out _).mono ?_; rintro e w1 ⟨rfl, hb1⟩)
    go_ret2
    exact ⟨rfl, bc_then (below_al (Below.refl _ _) _) hb1⟩
end Go.Proofs.Ytgaahgnjmhnggaa

/- Keys: told, by the program: what bytes tell, one number behind the other. -/
namespace Go.Proofs.Ytgaahgnjmhnggaa
open Go Go.RowKit Sm
attribute [local go_sem] Oper.semAt_some

def elU : El Nat where
  enc n := [.int .u32 n]
  z := 1
  ty := 22
  sl := 60
  bytes := 4
  zero := .int .u32 0
  d := 0
  len _ := rfl
  one x v hv := by
    simp only [List.mem_cons, List.not_mem_nil, or_false] at hv
    subst hv; rfl
  pos := by decide
  under := by kernel_rfl
  info := by kernel_rfl
  zlen := rfl
  few := by decide
/-- While bytes are read: the key's box, the answer's, where it stands, the numbers, the iterator's place. -/
structure TolI (w : World) (s : List UInt8) (B4 B5 Bx : Nat) (k : Int) (at' : Nat) (v : Value) (ns : List Nat) (A : World) : Prop where
  key : A.heap[w.heap.size]? = some (.cells #[.string ⟨s.toArray⟩] 9 (0, 0))
  res : A.heap[w.heap.size + 1]? = some (.cells #[.int .i64 0, .int .u32 0, .int .u16 0, .int .u32 0] 25 (0, 0))
  at' : A.heap[B4]? = some (.cells #[.int .i64 at'] 3 (0, 0))
  num : A.heap[B5]? = some (.cells #[v] 60 (0, 0))
  own : OwnE elU A (Bx + 1) v ns
  it : PlBox A Bx k 0 0 0
  t : Turned (fun _ => False) w A
section
variable {w A A' : World} {s : List UInt8} {B4 B5 Bx at' : Nat} {k : Int} {v : Value} {ns : List Nat}
theorem TolI.new (h : TolI w s B4 B5 Bx k at' v ns A) (hb : Below A.heap.size A A') : TolI w s B4 B5 Bx k at' v ns A' :=
  ⟨(hb.block _ (lt_of_heap h.key)).trans h.key, (hb.block _ (lt_of_heap h.res)).trans h.res, (hb.block _ (lt_of_heap h.at')).trans h.at', (hb.block _ (lt_of_heap h.num)).trans h.num, h.own.below hb, h.it.below hb, h.t.trans (Turned.new hb)⟩
theorem TolI.booked {S : Nat} (h : TolI w s B4 B5 Bx k at' v ns A) (hb : Booked S A A') (hS : w.heap.size ≤ S) : TolI w s B4 B5 Bx k at' v ns A' :=
  ⟨hb.heap h.key, hb.heap h.res, hb.heap h.at', hb.heap h.num, hb.ownsRow h.own, h.it.booked hb, hb.turned h.t hS⟩
end
theorem readB_done {s : List UInt8} {fs : List Fd} {k at' : Nat} {ns : List Nat} (h : readB s 1 fs = ns ++ readB s at' (fs.drop k)) (hk : k < fs.length) (hs : s.length < at' + (fs.getD k ⟨0, 0, 0, 0⟩).size) : readB s 1 fs = ns := by
  rw [h, List.drop_eq_getElem_cons hk]
  have e : fs.getD k ⟨0, 0, 0, 0⟩ = fs[k] := by simp [List.getD, hk]
  rw [e] at hs
  unfold readB
  rw [if_pos hs, List.append_nil]
theorem readB_more {s : List UInt8} {fs : List Fd} {k at' : Nat} {ns : List Nat} (h : readB s 1 fs = ns ++ readB s at' (fs.drop k)) (hk : k < fs.length) (hs : ¬ s.length < at' + (fs.getD k ⟨0, 0, 0, 0⟩).size) : readB s 1 fs = (ns ++ [seg s at' (fs.getD k ⟨0, 0, 0, 0⟩).size]) ++ readB s (at' + (fs.getD k ⟨0, 0, 0, 0⟩).size) (fs.drop (k + 1)) := by
  rw [h, List.drop_eq_getElem_cons hk]
  have e : fs.getD k ⟨0, 0, 0, 0⟩ = fs[k] := by simp [List.getD, hk]
  rw [e] at hs ⊢
  rw [readB, if_neg hs]
  simp

set_option maxRecDepth 20000 in
set_option maxHeartbeats 2000000 in
theorem told_any (s : List UInt8) (hs : s.length ≤ 1000) (w : World) : Calls Try.prog 21 #[.string ⟨s.toArray⟩] w fun e w' => e = .returned (toldB s).v ∧ Below w.heap.size w w' := by
  have HK : Veil _ := ⟨fun w => kindOf_any s hs w⟩
  have hkr := kindB_range s
  have hko : (kindPl s).Ok := ⟨by unfold I64 kindPl; dsimp only; omega, by show (0 : Nat) < _; decide, by show (0 : Nat) < _; decide, by show (0 : Nat) < _; decide⟩
  have HF : Veil _ := ⟨fun w => fields_any (kindPl s) w⟩
  have HSEQ : Veil _ := ⟨fun Bx => fields_seq Bx (kindPl s) hko⟩
  have HFS : Veil _ := ⟨flds_size (kindPl s)⟩
  have HFL : Veil _ := ⟨flds_len (kindPl s)⟩
  obtain ⟨R, hR⟩ : ∃ R, (toldB s).v = R := ⟨_, rfl⟩
  have HR : Veil _ := ⟨hR⟩
  rw [hR]
  clear hR hko hkr
  unfold Pl.v kindPl at HF
  unfold kindPl at HSEQ HFS HFL
  unfold toldB kindPl at HR
  generalize kindB s = K at *
  dsimp only at *
  refine calls_of_wp_marks Try.func21 rfl ?_
  simp only [Try.ntmps21, List.size_toArray, List.length_cons, List.length_nil, Nat.reduceAdd, Nat.reduceSub, Array.replicate_succ, Array.replicate_zero, List.push_toArray, List.append_toArray, List.nil_append, List.cons_append]
  go_wp2
  go_step3
  go_wp2_with (go_at_call 28; refine (HK.out _).mono ?_; rintro e w1 ⟨rfl, hb1⟩)
  go_step3
  go_wp2_with (go_at_call 19; refine (HF.out _).mono ?_; rintro e w3 ⟨rfl, hw3⟩)
  obtain ⟨B4, e4⟩ : ∃ B4, w1.heap.size = B4 := ⟨_, rfl⟩
  obtain ⟨B5, e5⟩ : ∃ B5, B4 + 1 = B5 := ⟨_, rfl⟩
  obtain ⟨Bx, ex⟩ : ∃ Bx, B5 + 1 = Bx := ⟨_, rfl⟩
  have hI0 : TolI w s B4 B5 Bx K 1 (.slice none 0 0) [] w3 := by
    have key1 : w1.heap[w.heap.size]? = some (.cells #[.string ⟨s.toArray⟩] 9 (0, 0)) := (hb1.block _ (by simp; omega)).trans (heap_alloc2_old _ _ _)
    have res1 : w1.heap[w.heap.size + 1]? = some (.cells #[.int .i64 0, .int .u32 0, .int .u16 0, .int .u32 0] 25 (0, 0)) := (hb1.block _ (by simp)).trans (heap_alloc2_new _ _ _)
    have l1 := lt_of_heap key1
    have l2 := lt_of_heap res1
    have hbB := bc_then (below_al (below_al (Below.refl _ w) _) _) hb1
    rw [← hw3, ← ex, ← e5, ← e4]
    refine ⟨?_, ?_, ?_, ?_, OwnE.nil _ _ _, ?_, (((Turned.new hbB).alloc _).alloc _).alloc _⟩
    · simp only [heap_alloc_if, World.size_alloc]; repeat (first | rw [if_neg (by omega)] | rw [if_pos (by first | trivial | omega)])
      exact key1
    · simp only [heap_alloc_if, World.size_alloc]; repeat (first | rw [if_neg (by omega)] | rw [if_pos (by first | trivial | omega)])
      exact res1
    · simp only [heap_alloc_if, World.size_alloc]; repeat (first | rw [if_neg (by omega)] | rw [if_pos (by first | trivial | omega)])
      rfl
    · simp only [heap_alloc_if, World.size_alloc]; repeat (first | rw [if_neg (by omega)] | rw [if_pos (by first | trivial | omega)])
    · have := PlBox.new ((w1.alloc (.cells #[.int .i64 1] 3)).alloc (.cells #[.slice none 0 0] 60)) K 0 0 0 25
      simpa using this
  have hz3 : w3.heap.size = Bx + 1 := by rw [← hw3, ← ex, ← e5, ← e4]; simp
  have hB4 : w.heap.size + 1 < B4 := by have := hb1.size; simp at this; omega
  rw [e4, e5, ex]
  have HW : Veil (w.heap.size + 1 < B4 ∧ B4 + 1 = B5 ∧ B5 + 1 = Bx) := ⟨hB4, e5, ex⟩
  clear hw3 hb1 e4 e5 ex hB4
  refine wp_range_break (gf := 26) (lb := #[.pointer (some ⟨Bx, 0, none⟩)]) rfl (enters_of Try.func26 (by kernel_rfl) rfl)
    (HSEQ.out Bx) (fun k => rfl)
    (fun k A => ∃ at' v ns, TolI w s B4 B5 Bx K at' v ns A ∧ at' ≤ 1 + 4 * k ∧ ns.length = k ∧ readB s 1 (⟨K, 0, 0, 0⟩ : Pl).flds = ns ++ readB s at' ((⟨K, 0, 0, 0⟩ : Pl).flds.drop k))
    (fun A => ∃ at' v ns, TolI w s B4 B5 Bx K at' v ns A ∧ ns.length ≤ 2 ∧ readB s 1 (⟨K, 0, 0, 0⟩ : Pl).flds = ns) ?hI ?hE ?hF ?h0 ?hN ?hround ?hend
  case hI =>
    rintro k A A' ⟨at', v, ns, h1, h2⟩ hb
    exact ⟨at', v, ns, h1.booked hb (by have := HW.out; omega), h2⟩
  case hE =>
    rintro A A' ⟨at', v, ns, h1, h2⟩ hb
    exact ⟨at', v, ns, h1.booked hb (by have := HW.out; omega), h2⟩
  case hF =>
    rintro k A ⟨at', v, ns, h1, h2⟩
    exact h1.it
  case h0 => exact ⟨1, _, [], hI0, by omega, rfl, by simp⟩
  case hN =>
    rintro A ⟨at', v, ns, h1, h2, h3, h4⟩
    refine ⟨at', v, ns, h1, by rw [h3]; exact HFL.out, ?_⟩
    rw [h4, List.drop_length]
    simp [readB]
  case hround =>
    rintro l m k A hl hlt ⟨at', v, ns, hi, hat, hnl, hrd⟩
    have hk2 : k < 2 := by have := HFL.out; omega
    have HDN : Veil _ := ⟨readB_done hrd hlt⟩
    have HMR : Veil _ := ⟨readB_more hrd hlt⟩
    have HSZ : Veil (((⟨K, 0, 0, 0⟩ : Pl).flds.getD k ⟨0, 0, 0, 0⟩).size ≤ 4) := ⟨HFS.out _ (by simp [List.getD, hlt])⟩
    have HNL : Veil _ := ⟨hnl⟩
    clear hI0 hrd HFS HFL hlt hnl HR HF HK HSEQ
    simp only [handsF, List.zip_cons_cons, List.zip_nil_right, List.foldl_cons, List.foldl_nil, List.setIfInBounds_toArray, List.set_cons_succ, List.set_cons_zero]
    revert HDN; revert HMR; revert HSZ
    generalize (⟨K, 0, 0, 0⟩ : Pl).flds.getD k ⟨0, 0, 0, 0⟩ = f
    obtain ⟨sz, vl, le, mo⟩ := f
    intro HSZ HMR HDN
    unfold Fd.v
    dsimp only at *
    have HI1 : Veil _ := ⟨hi⟩
    clear hi
    gi_wp2
    have hT1 : Turned (fun _ => False) A (A.alloc (.cells #[.int .i64 sz, .int .u32 vl, .int .u32 le, .int .u32 mo] 43)) := (Turned.refl _ A).alloc _
    refine ⟨keepsFrom_new6 hT1, fun A2 hbk hsz => ?_⟩
    have hi2 := (HI1.out.new (below_al (Below.refl _ _) _)).booked hbk (S := w3.heap.size) (by have := HW.out; omega)
    have hs2 := hbk.heap (heap_alloc_new A (.cells #[.int .i64 sz, .int .u32 vl, .int .u32 le, .int .u32 mo] 43))
    clear HI1 hT1 hbk
    have HI2 : Veil _ := ⟨hi2⟩
    obtain ⟨⟨q1, q2, q3, q4⟩, -⟩ := pk4 hs2
    have r0 := cell_row6 hi2.key
    have r1 := cell_row6 hi2.at'
    clear hi2 hs2 hsz
    have hsz4 : sz ≤ 4 := HSZ.out
    obtain ⟨en, hen⟩ : ∃ en : Nat, en = at' + sz := ⟨_, rfl⟩
    have wen : (at' : Int) + (sz : Int) = (en : Int) := by omega
    have HEN : Veil _ := ⟨hen⟩
    clear hen
    by_cases hlong : s.length < en
    · gi_wp2
      exact ⟨KeepsFrom.refl _ _, rfl, at', v, ns, HI2.out, by rw [HNL.out]; omega, HDN.out (by have := HEN.out; omega)⟩
    obtain ⟨pn, cn, ev, -, -⟩ := HI2.out.own.form
    subst ev
    have HNum : Veil (∀ w, Calls Try.prog 29 #[.string ((⟨s.toArray⟩ : ByteArray).extract at' en)] w fun e w' => e = .returned (.int .u32 (seg s at' sz)) ∧ w = w') := ⟨fun w => by
      have h := number_any ((s.drop at').take sz) (by rw [List.length_take]; omega) w
      have e : (⟨s.toArray⟩ : ByteArray).extract at' en = ⟨((s.drop at').take sz).toArray⟩ := by rw [extM, HEN.out, Nat.add_sub_cancel_left]
      rw [e]
      exact h⟩
    generalize seg s at' sz = x at HNum HMR
    gi_wp2
    refine region_new_in [.is (.slice pn ns.length cn), .is (.string ⟨s.toArray⟩), .is (.int .i64 at'), .is (.int .i64 en), .is (.string ((⟨s.toArray⟩ : ByteArray).extract at' en)), .is (.int .u32 x), .row 0 (fun g => .slice (some ⟨g, 0, none⟩) 1 1) #[.int .u32 x] 22]
      [[], [], [], [], [(1, 23), (2, 24), (3, 25)], [(4, 26)], [(5, 27)]]
      [[], [], [], [], [1, 2, 3], [4], [5]]
      [(0, 22), (1, 23), (2, 24), (3, 25), (4, 26), (5, 27), (6, 28)] rfl (by kernel_rfl) rfl ⟨?_, ?_, ?_, ?_, ?_, ?_, ?_, trivial⟩ ?_
    · intro vals W hB _
      have c0 := cell_row6 (HI2.out.new hB).num
      dsimp only [putsL, slotOf]
      go_wp2
      exact ⟨rfl, Below.refl _ _, rfl⟩
    · intro vals W hB _
      have c0 := cell_row6 (HI2.out.new hB).key
      dsimp only [putsL, slotOf]
      go_wp2
      exact ⟨rfl, Below.refl _ _, rfl⟩
    · intro vals W hB _
      have c0 := cell_row6 (HI2.out.new hB).at'
      dsimp only [putsL, slotOf]
      go_wp2
      exact ⟨rfl, Below.refl _ _, rfl⟩
    · intro vals W hB _
      dsimp only [putsL, slotOf]
      go_wp2
      exact ⟨rfl, Below.refl _ _, rfl⟩
    · intro vals W hB ⟨h1, h2, h3, _⟩
      have h1 : vals 1 = _ := h1
      have h2 : vals 2 = _ := h2
      have h3 : vals 3 = _ := h3
      dsimp only [putsL, slotOf]
      rw [h1, h2, h3]
      go_wp2
      exact ⟨rfl, Below.refl _ _, rfl⟩
    · intro vals W hB ⟨h4, _⟩
      have h4 : vals 4 = _ := h4
      dsimp only [putsL, slotOf]
      rw [h4]
      go_wp2_with ((go_at_call 29; refine (HNum.out _).mono ?_; rintro e w4 ⟨rfl, hw4⟩; subst hw4; have hb4 := Below.refl W.heap.size W))
      exact ⟨rfl, hb4, rfl⟩
    · intro vals W hB ⟨h5, _⟩
      have h5 : vals 5 = _ := h5
      dsimp only [putsL, slotOf]
      rw [h5]
      go_wp2
      exact ⟨rfl, below_al (Below.refl _ _) _, _, Nat.zero_le _, rfl, heap_alloc_new _ _⟩
    rintro vals W hB ⟨q0, q1, q2, q3, q4, q5, ⟨g6, hw6, q6, hg6⟩, -⟩
    have h0 : vals 0 = _ := q0
    have h1 : vals 1 = _ := q1
    have h2 : vals 2 = _ := q2
    have h3 : vals 3 = _ := q3
    have h4 : vals 4 = _ := q4
    have h5 : vals 5 = _ := q5
    have h6 : vals 6 = _ := q6
    dsimp only [putsL]
    rw [h0, h1, h2, h3, h4, h5, h6]
    clear h0 q0 h1 q1 h2 q2 h3 q3 h4 q4 h5 q5 h6 q6
    simp only [List.length_cons, List.length_nil, Nat.reduceAdd, List.drop_succ_cons, List.drop_zero, List.setIfInBounds_toArray, List.set_cons_succ, List.set_cons_zero]
    have hi3 := HI2.out.new hB
    have HI3 : Veil _ := ⟨hi3⟩
    have HT3 : Veil (Turned (fun _ => False) A2 W) := ⟨Turned.new hB⟩
    have HOA : Veil (∀ j, (Value.slice pn ns.length cn).ownBlock = some j → ∃ c t fr, A2.heap[j]? = some (.cells c t fr)) := ⟨fun j hj => by
      obtain ⟨-, h2⟩ := HI2.out.own
      rcases h2 with ⟨e, -⟩ | ⟨g, cap, cur, e, -, hh, -⟩
      · rw [e] at hj; cases hj
      · rw [e] at hj; cases hj; exact ⟨_, _, _, hh⟩⟩
    clear hi3 hB q1 q2 q3 q4 r0 r1 HI2
    obtain ⟨v, ev⟩ : ∃ v, Value.slice pn ns.length cn = v := ⟨_, rfl⟩
    rw [ev] at HI3 HOA ⊢
    clear ev
    go_wp2_with (refine wpList_append_el elU rfl (.tmp 22) (.tmp 28) rfl (Bx + 1) v ns x rfl HI3.out.own g6 rfl hg6 (by have := HNL.out; omega) (by have := lt_of_heap HI3.out.num; have := World.block_lt_of_cell? _ _ HI3.out.it.k; dsimp only at this; omega) ?_; intro v' w9 hown9 hgrow hfrom; obtain ⟨p', c', ev, -, -⟩ := hown9.form; subst ev; have ht9 : Turned (fun j => v.ownBlock = some j) W w9 := (Turned.grown hgrow (fun j hj _ => hj)); have hv9 := ht9.heap HI3.out.num (fun e => by have := (HI3.out.own.lt e).1; have := HW.out; omega); have q9 := cell_row6 hv9; have f9 : w9.frozen? ⟨B5, 0, none⟩ = false := frozen_whole hv9 _)
    have e9 : (ns ++ [x]).length = ns.length + 1 := by simp
    rw [e9] at hown9
    have ht8 : Turned (fun j => v.ownBlock = some j ∨ j = B5) W (w9.setCell ⟨B5, 0, none⟩ (.slice p' (ns.length + 1) c')) := (ht9.wider fun _ _ h => .inl h).setCell (p := ⟨B5, 0, none⟩) (.inr rfl) _
    have hn8 := heap_setCell_at hv9 0 (.slice p' (ns.length + 1) c')
    have ho8 : OwnE elU (w9.setCell ⟨B5, 0, none⟩ (.slice p' (ns.length + 1) c')) (Bx + 1) (.slice p' (ns.length + 1) c') (ns ++ [x]) := hown9.kept ((Turned.refl (· = B5) w9).setCell (p := ⟨B5, 0, none⟩) rfl _) (fun j hj e => by have := (hown9.lt hj).1; have := HW.out; omega)
    refine only_normal ?_
    revert ht8; revert hn8; revert ho8
    generalize w9.setCell ⟨B5, 0, none⟩ (.slice p' (ns.length + 1) c') = w8
    intro ho8 hn8 ht8
    have hown : ∀ j, v.ownBlock = some j → Bx + 1 ≤ j ∧ j < W.heap.size := fun j hj => HI3.out.own.lt hj
    have ha8 := ht8.heap HI3.out.at' (fun e => by
      rcases e with h | h
      · have := hown _ h; have := HW.out; omega
      · have := HW.out; omega)
    have r1 := cell_row6 ha8
    have r2 : w8.frozen? ⟨B4, 0, none⟩ = false := frozen_whole ha8 _
    have HA8 : Veil _ := ⟨ha8⟩
    have HN8 : Veil _ := ⟨hn8⟩
    have HO8 : Veil _ := ⟨ho8⟩
    have HT8 : Veil _ := ⟨ht8⟩
    have HWN : Veil _ := ⟨hown⟩
    clear ha8 hn8 ho8 ht8 hown hown9 hgrow hfrom ht9 hv9 q9 f9 hg6 hw6
    gi_wp2
    have hTF : Turned (fun j => v.ownBlock = some j ∨ j = B5 ∨ j = B4) W (w8.setCell ⟨B4, 0, none⟩ (.int .i64 en)) := (HT8.out.wider fun _ _ h => h.elim .inl (fun h => .inr (.inl h))).setCell (p := ⟨B4, 0, none⟩) (.inr (.inr rfl)) _
    have hT4 : Turned (· = B4) w8 (w8.setCell ⟨B4, 0, none⟩ (.int .i64 en)) := (Turned.refl (· = B4) w8).setCell (p := ⟨B4, 0, none⟩) rfl _
    have hW := HW.out
    refine ⟨keepsFrom_turned6 ((HT3.out.wider fun _ _ h => h.elim).trans hTF) ?_, at' + sz, .slice p' (ns.length + 1) c', ns ++ [x], ⟨?_, ?_, ?_, ?_, ?_, ?_, ?_⟩, by omega, by simp [HNL.out], HMR.out (by have := HEN.out; omega)⟩
    · rintro j (hj | rfl | rfl)
      · exact .inr (HOA.out j hj)
      · exact .inl (by omega)
      · exact .inl (by omega)
    · exact hTF.heap HI3.out.key (fun h => by rcases h with h | h | h; (have := HWN.out _ h; omega); omega; omega)
    · exact hTF.heap HI3.out.res (fun h => by rcases h with h | h | h; (have := HWN.out _ h; omega); omega; omega)
    · have h := heap_setCell_at HA8.out 0 (.int .i64 en)
      rw [HEN.out] at h ⊢
      exact h
    · exact hT4.heap HN8.out (by omega)
    · exact HO8.out.kept hT4 (fun j hj e => by have := (HO8.out.lt hj).1; omega)
    · exact HI3.out.it.turned hTF (fun h => by rcases h with h | h | h; (have := HWN.out _ h; omega); omega; omega)
    · exact HI3.out.t.then hTF (fun j hj e => by rcases e with h | h | h; (have := HWN.out _ h; omega); omega; omega)
  case hend =>
    rintro Dd A hDd ⟨at', v, ns, hi, hn2, hrd⟩ hdd
    obtain ⟨pn, cn, ev, hels, -⟩ := hi.own.form
    subst ev
    rw [hrd] at HR
    have HI2 : Veil _ := ⟨hi⟩
    have HD : Veil _ := ⟨hdd⟩
    have r0 := cell_row6 hi.num
    have hP : Veil (Calls Try.prog 30 #[.int .i64 K, .slice pn ns.length cn] A fun e w' => e = .returned (placedB K ns).v ∧ Below A.heap.size A w') := ⟨by
      obtain ⟨-, h2⟩ := hi.own
      match ns, hn2, hels, h2 with
      | [], _, _, _ => exact placed_none K pn cn A
      | [x], _, he, h2 =>
        rcases h2 with ⟨-, h0⟩ | ⟨g, cap, cur, e, -, hh, hcap, -, -, ht⟩
        · simp at h0
        · have e' : pn = some ⟨g, 0, none⟩ ∧ cn = cap := by simpa using e
          obtain ⟨rfl, rfl⟩ := e'
          obtain ⟨b, o, e2, hc⟩ := els_of_block (E := elU) (L := [x]) hh ht (by simp)
          simp only [Option.some.injEq, Addr.mk.injEq, and_true] at e2
          obtain ⟨rfl, rfl⟩ := e2
          exact placed_one K x g cn hcap A (hc 0 0 (by simp) (by decide))
      | [x, y], _, he, h2 =>
        rcases h2 with ⟨-, h0⟩ | ⟨g, cap, cur, e, -, hh, hcap, -, -, ht⟩
        · simp at h0
        · have e' : pn = some ⟨g, 0, none⟩ ∧ cn = cap := by simpa using e
          obtain ⟨rfl, rfl⟩ := e'
          obtain ⟨b, o, e2, hc⟩ := els_of_block (E := elU) (L := [x, y]) hh ht (by simp)
          simp only [Option.some.injEq, Addr.mk.injEq, and_true] at e2
          obtain ⟨rfl, rfl⟩ := e2
          exact placed_two K x y g cn hcap A (hc 0 0 (by simp) (by decide)) (hc 1 0 (by simp) (by decide))
      | _ :: _ :: _ :: _, h, _, _ => exact absurd h (by simp)⟩
    clear hI0 hi hdd hels hrd HSEQ HF HK HFS HFL
    generalize placedB K ns = q at hP HR
    obtain ⟨k1, a1, i1, m1⟩ := q
    unfold Pl.v at hP HR
    dsimp only at *
    go_wp2_with (go_at_call 30; refine hP.out.mono ?_; rintro e w4 ⟨rfl, hb4⟩; have hi4 := HI2.out.new hb4; have HI4 : Veil _ := ⟨hi4⟩; obtain ⟨⟨z0, z1, z2, z3⟩, y0, y1, y2, y3⟩ := pk4 hi4.res; clear hi4)
    rw [Exit.noGoto_ret]
    have hs4 := st4 HI4.out.res (.int .i64 k1) (.int .u32 a1) (.int .u16 i1) (.int .u32 m1)
    have hT4 : Turned (· = w.heap.size + 1) w4 ((((w4.setCell ⟨w.heap.size + 1, 0, none⟩ (.int .i64 k1)).setCell ⟨w.heap.size + 1, 1, none⟩ (.int .u32 a1)).setCell ⟨w.heap.size + 1, 2, none⟩ (.int .u16 i1)).setCell ⟨w.heap.size + 1, 3, none⟩ (.int .u32 m1)) :=
      ((((Turned.refl (· = w.heap.size + 1) w4).setCell (p := ⟨w.heap.size + 1, 0, none⟩) rfl _).setCell (p := ⟨w.heap.size + 1, 1, none⟩) rfl _).setCell (p := ⟨w.heap.size + 1, 2, none⟩) rfl _).setCell (p := ⟨w.heap.size + 1, 3, none⟩) rfl _
    have hW := HW.out
    refine leaves_mark (D := Dd) (B := w3.heap.size) (hT4.heap ((hb4.block _ (lt_of_heap HD.out)).trans HD.out) (by omega)) hDd ?_
    intro w' hb _
    refine leaves_none (results_place1 (g := w.heap.size + 1) rfl rfl (hb.heap hs4)) ⟨ret_val HR.out, ?_⟩
    exact (hb.turned (HI4.out.t.then hT4 (fun j hj e => by omega)) (by omega)).toBelow (Nat.le_refl _) (fun _ _ h => h.elim)
end Go.Proofs.Ytgaahgnjmhnggaa

/- Keys: Parse, Of, by the program. -/
namespace Go.Proofs.Ytgaahgnjmhnggaa
open Go Go.RowKit Sm
attribute [local go_sem] Oper.semAt_some

set_option maxRecDepth 20000 in
set_option maxHeartbeats 1000000 in
theorem kyparse_any (s : List UInt8) (hs : s.length ≤ 1000) (w : World) : Calls Try.prog 11 #[.string ⟨s.toArray⟩] w fun e w' => e = .returned (.tuple #[(parseK s).1.v, .int .i64 (parseK s).2]) ∧ Below w.heap.size w w' := by
  have HT : Veil _ := ⟨fun w => told_any s hs w⟩
  have HK : Veil _ := ⟨fun w => kykey_any (toldB s) (toldB_ok s) w⟩
  rw [parseK_told]
  have hcase : ((toldB s).right = true ∧ (toldB s).key = s ∧ (toldB s).keyR = (s, 0)) ∨ (¬ ((toldB s).right = true ∧ (toldB s).key = s) ∧ ((toldB s).keyR.2 = 100 ∨ (toldB s).keyR.2 = 0 ∧ (toldB s).keyR.1 ≠ s)) := by
    unfold Pl.keyR
    by_cases hr : (toldB s).right = true
    · rw [if_pos hr]
      by_cases hk : (toldB s).key = s
      · exact .inl ⟨hr, hk, by rw [hk]⟩
      · exact .inr ⟨fun h => hk h.2, .inr ⟨rfl, hk⟩⟩
    · rw [if_neg hr]
      exact .inr ⟨fun h => hr h.1, .inl rfl⟩
  rcases hcase with ⟨h1, h2, h3⟩ | ⟨hn, hc⟩
  · rw [if_pos ⟨h1, h2⟩]
    rw [h3] at HK
    clear h1 h2 h3
    generalize toldB s = p at HT HK ⊢
    obtain ⟨k, a, i, m⟩ := p
    unfold Pl.v at *
    dsimp only at *
    go_enter Try.func11, Try.ntmps11
    go_wp2_with (first
      | (go_at_call 21; refine (HT.out _).mono ?_; rintro e w1 ⟨rfl, hb1⟩; have h0 : w1.heap[w.heap.size]? = some (.cells #[.int .i64 0, .int .u32 0, .int .u16 0, .int .u32 0] 25 (0, 0)) := ((hb1.block _ (by simp)).trans (heap_alloc_new _ _)); have HH0 : Veil _ := ⟨h0⟩; have HBl : Veil _ := ⟨bc_then (below_al (Below.refl _ w) _) hb1⟩; clear h0 hb1)
      | (go_at_call 9; refine (HK.out _).mono ?_; rintro e w2 ⟨rfl, hb2⟩; have hr2 : w2.heap[w.heap.size]? = _ := ((hb2.block _ (by have := lt_of_heap HH0.out; simp; omega)).trans ((Below.heap_alloc _ _ _ (lt_of_heap HH0.out)).trans HH0.out)); have hx2 : w2.heap[w1.heap.size]? = _ := ((hb2.block _ (by simp)).trans (heap_alloc_new _ _)); have HR2 : Veil _ := ⟨hr2⟩; have HBl2 : Veil _ := ⟨bc_then (below_al HBl.out _) hb2⟩; obtain ⟨⟨y0, y1, y2, y3⟩, f0, f1, f2, f3⟩ := pk4 hr2; obtain ⟨⟨x0, x1, x2, x3⟩, -⟩ := pk4 hx2; clear hr2 hx2 hb2))
    exact bodyPost_ret (results_place2 (g := w.heap.size) rfl rfl rfl (st4 HR2.out _ _ _ _)) rfl ⟨rfl, tn4 HBl2.out (Nat.le_refl _) _ _ _ _⟩
  · rw [if_neg hn]
    clear hn
    generalize toldB s = p at HT HK hc
    generalize p.keyR = r at HK hc
    obtain ⟨k, a, i, m⟩ := p
    obtain ⟨U, c⟩ := r
    unfold Pl.v Pl.zero at *
    dsimp only at *
    rcases hc with rfl | ⟨rfl, hne⟩
    · go_enter Try.func11, Try.ntmps11
      go_wp2_with (first
        | (go_at_call 21; refine (HT.out _).mono ?_; rintro e w1 ⟨rfl, hb1⟩; have h0 : w1.heap[w.heap.size]? = some (.cells #[.int .i64 0, .int .u32 0, .int .u16 0, .int .u32 0] 25 (0, 0)) := ((hb1.block _ (by simp)).trans (heap_alloc_new _ _)); have HH0 : Veil _ := ⟨h0⟩; have HBl : Veil _ := ⟨bc_then (below_al (Below.refl _ w) _) hb1⟩; clear h0 hb1)
        | (go_at_call 9; refine (HK.out _).mono ?_; rintro e w2 ⟨rfl, hb2⟩; have hr2 : w2.heap[w.heap.size]? = _ := ((hb2.block _ (by have := lt_of_heap HH0.out; simp; omega)).trans ((Below.heap_alloc _ _ _ (lt_of_heap HH0.out)).trans HH0.out)); have hx2 : w2.heap[w1.heap.size]? = _ := ((hb2.block _ (by simp)).trans (heap_alloc_new _ _)); have HR2 : Veil _ := ⟨hr2⟩; have HBl2 : Veil _ := ⟨bc_then (below_al HBl.out _) hb2⟩; obtain ⟨⟨y0, y1, y2, y3⟩, f0, f1, f2, f3⟩ := pk4 hr2; obtain ⟨⟨x0, x1, x2, x3⟩, -⟩ := pk4 hx2; clear hr2 hx2 hb2))
      exact bodyPost_ret (results_place2 (g := w.heap.size) rfl rfl rfl (st4 HR2.out _ _ _ _)) rfl ⟨rfl, tn4 HBl2.out (Nat.le_refl _) _ _ _ _⟩
    · have hnb : (U == s) = false := by simpa using hne
      clear hne
      go_enter Try.func11, Try.ntmps11
      go_wp2_with (first
        | (go_at_call 21; refine (HT.out _).mono ?_; rintro e w1 ⟨rfl, hb1⟩; have h0 : w1.heap[w.heap.size]? = some (.cells #[.int .i64 0, .int .u32 0, .int .u16 0, .int .u32 0] 25 (0, 0)) := ((hb1.block _ (by simp)).trans (heap_alloc_new _ _)); have HH0 : Veil _ := ⟨h0⟩; have HBl : Veil _ := ⟨bc_then (below_al (Below.refl _ w) _) hb1⟩; clear h0 hb1)
        | (go_at_call 9; refine (HK.out _).mono ?_; rintro e w2 ⟨rfl, hb2⟩; have hr2 : w2.heap[w.heap.size]? = _ := ((hb2.block _ (by have := lt_of_heap HH0.out; simp; omega)).trans ((Below.heap_alloc _ _ _ (lt_of_heap HH0.out)).trans HH0.out)); have hx2 : w2.heap[w1.heap.size]? = _ := ((hb2.block _ (by simp)).trans (heap_alloc_new _ _)); have HR2 : Veil _ := ⟨hr2⟩; have HBl2 : Veil _ := ⟨bc_then (below_al HBl.out _) hb2⟩; obtain ⟨⟨y0, y1, y2, y3⟩, f0, f1, f2, f3⟩ := pk4 hr2; obtain ⟨⟨x0, x1, x2, x3⟩, -⟩ := pk4 hx2; clear hr2 hx2 hb2))
      exact bodyPost_ret (results_place2 (g := w.heap.size) rfl rfl rfl (st4 HR2.out _ _ _ _)) rfl ⟨rfl, tn4 HBl2.out (Nat.le_refl _) _ _ _ _⟩

theorem fds_row {w : World} {g : Nat} {s n l m : Nat} {t : TypeId} (h : w.heap[g]? = some (.cells #[.int .i64 s, .int .u32 n, .int .u32 l, .int .u32 m] t (0, 0))) : Fds w g [⟨s, n, l, m⟩] := fun i hi => by
  obtain rfl : i = 0 := by simp at hi; exact hi
  obtain ⟨⟨x0, x1, x2, x3⟩, -⟩ := pk4 h
  exact ⟨x0, x1, x2, x3⟩
theorem wrote_one (k : Int) (a : Nat) (w : World) (g : Nat) (h : w.heap[g]? = some (.cells #[.int .i64 4, .int .u32 a, .int .u32 0, .int .u32 0] 43 (0, 0))) : Calls Try.prog 17 #[.int .i64 k, .slice (some ⟨g, 0, none⟩) 1 1] w fun e w' => e = .returned (.string ⟨(markB k :: putB a 4).toArray⟩) ∧ Below w.heap.size w w' := by
  have := wrote_any k g 1 [⟨4, a, 0, 0⟩] w (fds_row h) (lt_of_heap h) ⟨by simp⟩ (by simp)
  simpa [wroteB, Fd.bytes] using this
theorem right_account (a : Nat) : (⟨1, a, 0, 0⟩ : Pl).right = decide (1 ≤ a ∧ a ≤ 1000000) := by
  unfold Pl.right
  simp

set_option maxRecDepth 20000 in
set_option maxHeartbeats 1000000 in
theorem kyof_any (k : Int) (_ : I64 k) (a : Nat) (ha : a < 4294967296) (w : World) : Calls Try.prog 15 #[.int .i64 k, .int .u32 a] w fun e w' => e = .returned (.tuple #[.string ⟨(ofR k a).1.toArray⟩, .string ⟨(ofR k a).2.1.toArray⟩, .int .i64 (ofR k a).2.2]) ∧ Below w.heap.size w w' := by
  have HRt : Veil (∀ w, Calls Try.prog 13 #[.agg #[.int .i64 1, .int .u32 a, .int .u16 0, .int .u32 0]] w fun e w' => e = .returned (.bool (decide (1 ≤ a ∧ a ≤ 1000000))) ∧ Below w.heap.size w w') := ⟨fun w => by
    have := kyright_any ⟨1, a, 0, 0⟩ ⟨by unfold I64; dsimp only; omega, ha, by show (0 : Nat) < _; decide, by show (0 : Nat) < _; decide⟩ w
    rw [right_account] at this
    exact this⟩
  by_cases hk : k = 2 ∨ k = 3
  · by_cases h : 1 ≤ a ∧ a ≤ 1000000
    · have e : ofR k a = (markB k :: putB a 4, markB k :: putB (a + 1) 4, 0) := by
        unfold ofR
        rw [if_pos ⟨h, hk⟩]
        rcases hk with rfl | rfl <;> rfl
      rw [e]
      have hd : decide (1 ≤ a ∧ a ≤ 1000000) = true := by simpa using h
      rw [hd] at HRt
      have hab : (a : Int) + 1 ≤ 4294967295 := by omega
      have HW1 : Veil _ := ⟨fun w g h => wrote_one k a w g h⟩
      have HW2 : Veil (∀ (w : World) (g : Nat), w.heap[g]? = some (.cells #[.int .i64 4, .int .u32 ((a : Int) + 1), .int .u32 0, .int .u32 0] 43 (0, 0)) → Calls Try.prog 17 #[.int .i64 k, .slice (some ⟨g, 0, none⟩) 1 1] w fun e w' => e = .returned (.string ⟨(markB k :: putB (a + 1) 4).toArray⟩) ∧ Below w.heap.size w w') := ⟨fun w g h => wrote_one k (a + 1) w g h⟩
      generalize (⟨(markB k :: putB a 4).toArray⟩ : ByteArray) = S1 at HW1 ⊢
      generalize (⟨(markB k :: putB (a + 1) 4).toArray⟩ : ByteArray) = S2 at HW2 ⊢
      clear e hd h
      rcases hk with rfl | rfl
      · go_enter Try.func15, Try.ntmps15
        go_wp2_with (go_at_call 13; refine (HRt.out _).mono ?_; rintro e w1 ⟨rfl, hb1⟩)
        have HBl : Veil _ := ⟨below_al (below_al hb1 (.cells #[.int .i64 4, .int .u32 a, .int .u32 0, .int .u32 0] 43)) (.cells #[.int .i64 4, .int .u32 ((a : Int) + 1), .int .u32 0, .int .u32 0] 43)⟩
        have H7 : Veil (∀ W, Below ((w1.alloc (.cells #[.int .i64 4, .int .u32 a, .int .u32 0, .int .u32 0] 43)).alloc (.cells #[.int .i64 4, .int .u32 ((a : Int) + 1), .int .u32 0, .int .u32 0] 43)).heap.size ((w1.alloc (.cells #[.int .i64 4, .int .u32 a, .int .u32 0, .int .u32 0] 43)).alloc (.cells #[.int .i64 4, .int .u32 ((a : Int) + 1), .int .u32 0, .int .u32 0] 43)) W → W.heap[w1.heap.size]? = some (.cells #[.int .i64 4, .int .u32 a, .int .u32 0, .int .u32 0] 43 (0, 0))) := ⟨fun W h => (h.block _ (by simp; omega)).trans (heap_alloc2_old _ _ _)⟩
        have H8 : Veil (∀ W, Below ((w1.alloc (.cells #[.int .i64 4, .int .u32 a, .int .u32 0, .int .u32 0] 43)).alloc (.cells #[.int .i64 4, .int .u32 ((a : Int) + 1), .int .u32 0, .int .u32 0] 43)).heap.size ((w1.alloc (.cells #[.int .i64 4, .int .u32 a, .int .u32 0, .int .u32 0] 43)).alloc (.cells #[.int .i64 4, .int .u32 ((a : Int) + 1), .int .u32 0, .int .u32 0] 43)) W → W.heap[w1.heap.size + 1]? = some (.cells #[.int .i64 4, .int .u32 ((a : Int) + 1), .int .u32 0, .int .u32 0] 43 (0, 0))) := ⟨fun W h => (h.block _ (by simp)).trans (heap_alloc2_new _ _ _)⟩
        clear hb1
        revert HBl; revert H7; revert H8
        generalize (w1.alloc (.cells #[.int .i64 4, .int .u32 a, .int .u32 0, .int .u32 0] 43)).alloc (.cells #[.int .i64 4, .int .u32 ((a : Int) + 1), .int .u32 0, .int .u32 0] 43) = w3
        intro H8 H7 HBl
        refine region_new [.is (.int .i64 2), .is (.agg #[.int .i64 4, .int .u32 a, .int .u32 0, .int .u32 0]), .row 0 (fun g => .slice (some ⟨g, 0, none⟩) 1 1) #[.int .i64 4, .int .u32 a, .int .u32 0, .int .u32 0] 43, .is (.string S1), .is (.int .i64 2), .is (.agg #[.int .i64 4, .int .u32 ((a : Int) + 1), .int .u32 0, .int .u32 0]), .row 0 (fun g => .slice (some ⟨g, 0, none⟩) 1 1) #[.int .i64 4, .int .u32 ((a : Int) + 1), .int .u32 0, .int .u32 0] 43, .is (.string S2), .is (.string S1), .is (.string S2), .is (.int .i64 0)]
          [[], [], [(1, 27)], [(0, 26), (2, 28)], [], [], [(5, 31)], [(4, 30), (6, 32)], [(3, 29)], [(7, 33)], []]
          [[], [], [1], [0, 2], [], [], [5], [3, 4, 6], [0, 1, 2, 3, 7], [0, 1, 2, 3, 4, 5, 6, 7, 8], [0, 1, 2, 3, 4, 5, 6, 7, 8, 9]]
          [(0, 26), (1, 27), (2, 28), (3, 29), (4, 30), (5, 31), (6, 32), (7, 33), (8, 4), (9, 5), (10, 6)] rfl (by kernel_rfl) ⟨?_, ?_, ?_, ?_, ?_, ?_, ?_, ?_, ?_, ?_, ?_, trivial⟩ ?_
        · intro vals W hB _
          dsimp only [putsL, slotOf]
          go_wp2
          exact ⟨rfl, Below.refl _ _, rfl⟩
        · intro vals W hB _
          obtain ⟨⟨x0, x1, x2, x3⟩, -⟩ := pk4 (H7.out _ hB)
          dsimp only [putsL, slotOf]
          go_wp2
          exact ⟨rfl, Below.refl _ _, rfl⟩
        · intro vals W hB ⟨h1, _⟩
          have h1 : vals 1 = _ := h1
          dsimp only [putsL, slotOf]
          rw [h1]
          go_wp2
          exact ⟨rfl, below_al (Below.refl _ _) _, _, Nat.zero_le _, rfl, heap_alloc_new _ _⟩
        · intro vals W hB ⟨h0, ⟨g2, _, h2, hg2⟩, _⟩
          have h0 : vals 0 = _ := h0
          have h2 : vals 2 = _ := h2
          dsimp only [putsL, slotOf]
          rw [h0, h2]
          go_wp2_with ((go_at_call 17; refine (HW1.out _ _ hg2).mono ?_; rintro e w4 ⟨rfl, hb4⟩))
          exact ⟨rfl, hb4, rfl⟩
        · intro vals W hB _
          dsimp only [putsL, slotOf]
          go_wp2
          exact ⟨rfl, Below.refl _ _, rfl⟩
        · intro vals W hB _
          obtain ⟨⟨x0, x1, x2, x3⟩, -⟩ := pk4 (H8.out _ hB)
          dsimp only [putsL, slotOf]
          go_wp2
          exact ⟨rfl, Below.refl _ _, rfl⟩
        · intro vals W hB ⟨h5, _⟩
          have h5 : vals 5 = _ := h5
          dsimp only [putsL, slotOf]
          rw [h5]
          go_wp2
          exact ⟨rfl, below_al (Below.refl _ _) _, _, Nat.zero_le _, rfl, heap_alloc_new _ _⟩
        · intro vals W hB ⟨h3, h4, ⟨g6, _, h6, hg6⟩, _⟩
          have h4 : vals 4 = _ := h4
          have h6 : vals 6 = _ := h6
          dsimp only [putsL, slotOf]
          rw [h4, h6]
          go_wp2_with ((go_at_call 17; refine (HW2.out _ _ hg6).mono ?_; rintro e w4 ⟨rfl, hb4⟩))
          exact ⟨rfl, hb4, rfl⟩
        · intro vals W hB ⟨h0, h1, ⟨g2, _, h2, hg2⟩, h3, h7, _⟩
          have h3 : vals 3 = _ := h3
          dsimp only [putsL, slotOf]
          rw [h3]
          go_wp2
          exact ⟨rfl, Below.refl _ _, rfl⟩
        · intro vals W hB ⟨h0, h1, ⟨g2, _, h2, hg2⟩, h3, h4, h5, ⟨g6, _, h6, hg6⟩, h7, h8, _⟩
          have h7 : vals 7 = _ := h7
          dsimp only [putsL, slotOf]
          rw [h7]
          go_wp2
          exact ⟨rfl, Below.refl _ _, rfl⟩
        · intro vals W hB ⟨h0, h1, ⟨g2, _, h2, hg2⟩, h3, h4, h5, ⟨g6, _, h6, hg6⟩, h7, h8, h9, _⟩
          dsimp only [putsL, slotOf]
          go_wp2
          exact ⟨rfl, Below.refl _ _, rfl⟩
        rintro vals W hB ⟨q0, q1, ⟨g2, hw2, q2, hg2⟩, q3, q4, q5, ⟨g6, hw6, q6, hg6⟩, q7, q8, q9, q10, -⟩
        have h0 : vals 0 = _ := q0
        have h1 : vals 1 = _ := q1
        have h2 : vals 2 = _ := q2
        have h3 : vals 3 = _ := q3
        have h4 : vals 4 = _ := q4
        have h5 : vals 5 = _ := q5
        have h6 : vals 6 = _ := q6
        have h7 : vals 7 = _ := q7
        have h8 : vals 8 = _ := q8
        have h9 : vals 9 = _ := q9
        have h10 : vals 10 = _ := q10
        dsimp only [putsL]
        rw [h0, h1, h2, h3, h4, h5, h6, h7, h8, h9, h10]
        clear h0 q0 h1 q1 h2 q2 h3 q3 h4 q4 h5 q5 h6 q6 h7 q7 h8 q8 h9 q9 h10 q10
        simp only [List.length_cons, List.length_nil, Nat.reduceAdd, List.drop_succ_cons, List.drop_zero, List.setIfInBounds_toArray, List.set_cons_succ, List.set_cons_zero]
        have HBF : Veil _ := ⟨bc_then HBl.out hB⟩
        clear hB
        go_wp2
        refine bodyPost_ret (results_tmp3 rfl _ _ _) rfl ?_
        exact ⟨rfl, HBF.out⟩
      · go_enter Try.func15, Try.ntmps15
        go_wp2_with (go_at_call 13; refine (HRt.out _).mono ?_; rintro e w1 ⟨rfl, hb1⟩)
        have HBl : Veil _ := ⟨below_al (below_al hb1 (.cells #[.int .i64 4, .int .u32 a, .int .u32 0, .int .u32 0] 43)) (.cells #[.int .i64 4, .int .u32 ((a : Int) + 1), .int .u32 0, .int .u32 0] 43)⟩
        have H7 : Veil (∀ W, Below ((w1.alloc (.cells #[.int .i64 4, .int .u32 a, .int .u32 0, .int .u32 0] 43)).alloc (.cells #[.int .i64 4, .int .u32 ((a : Int) + 1), .int .u32 0, .int .u32 0] 43)).heap.size ((w1.alloc (.cells #[.int .i64 4, .int .u32 a, .int .u32 0, .int .u32 0] 43)).alloc (.cells #[.int .i64 4, .int .u32 ((a : Int) + 1), .int .u32 0, .int .u32 0] 43)) W → W.heap[w1.heap.size]? = some (.cells #[.int .i64 4, .int .u32 a, .int .u32 0, .int .u32 0] 43 (0, 0))) := ⟨fun W h => (h.block _ (by simp; omega)).trans (heap_alloc2_old _ _ _)⟩
        have H8 : Veil (∀ W, Below ((w1.alloc (.cells #[.int .i64 4, .int .u32 a, .int .u32 0, .int .u32 0] 43)).alloc (.cells #[.int .i64 4, .int .u32 ((a : Int) + 1), .int .u32 0, .int .u32 0] 43)).heap.size ((w1.alloc (.cells #[.int .i64 4, .int .u32 a, .int .u32 0, .int .u32 0] 43)).alloc (.cells #[.int .i64 4, .int .u32 ((a : Int) + 1), .int .u32 0, .int .u32 0] 43)) W → W.heap[w1.heap.size + 1]? = some (.cells #[.int .i64 4, .int .u32 ((a : Int) + 1), .int .u32 0, .int .u32 0] 43 (0, 0))) := ⟨fun W h => (h.block _ (by simp)).trans (heap_alloc2_new _ _ _)⟩
        clear hb1
        revert HBl; revert H7; revert H8
        generalize (w1.alloc (.cells #[.int .i64 4, .int .u32 a, .int .u32 0, .int .u32 0] 43)).alloc (.cells #[.int .i64 4, .int .u32 ((a : Int) + 1), .int .u32 0, .int .u32 0] 43) = w3
        intro H8 H7 HBl
        refine region_new [.is (.int .i64 3), .is (.agg #[.int .i64 4, .int .u32 a, .int .u32 0, .int .u32 0]), .row 0 (fun g => .slice (some ⟨g, 0, none⟩) 1 1) #[.int .i64 4, .int .u32 a, .int .u32 0, .int .u32 0] 43, .is (.string S1), .is (.int .i64 3), .is (.agg #[.int .i64 4, .int .u32 ((a : Int) + 1), .int .u32 0, .int .u32 0]), .row 0 (fun g => .slice (some ⟨g, 0, none⟩) 1 1) #[.int .i64 4, .int .u32 ((a : Int) + 1), .int .u32 0, .int .u32 0] 43, .is (.string S2), .is (.string S1), .is (.string S2), .is (.int .i64 0)]
          [[], [], [(1, 27)], [(0, 26), (2, 28)], [], [], [(5, 31)], [(4, 30), (6, 32)], [(3, 29)], [(7, 33)], []]
          [[], [], [1], [0, 2], [], [], [5], [3, 4, 6], [0, 1, 2, 3, 7], [0, 1, 2, 3, 4, 5, 6, 7, 8], [0, 1, 2, 3, 4, 5, 6, 7, 8, 9]]
          [(0, 26), (1, 27), (2, 28), (3, 29), (4, 30), (5, 31), (6, 32), (7, 33), (8, 4), (9, 5), (10, 6)] rfl (by kernel_rfl) ⟨?_, ?_, ?_, ?_, ?_, ?_, ?_, ?_, ?_, ?_, ?_, trivial⟩ ?_
        · intro vals W hB _
          dsimp only [putsL, slotOf]
          go_wp2
          exact ⟨rfl, Below.refl _ _, rfl⟩
        · intro vals W hB _
          obtain ⟨⟨x0, x1, x2, x3⟩, -⟩ := pk4 (H7.out _ hB)
          dsimp only [putsL, slotOf]
          go_wp2
          exact ⟨rfl, Below.refl _ _, rfl⟩
        · intro vals W hB ⟨h1, _⟩
          have h1 : vals 1 = _ := h1
          dsimp only [putsL, slotOf]
          rw [h1]
          go_wp2
          exact ⟨rfl, below_al (Below.refl _ _) _, _, Nat.zero_le _, rfl, heap_alloc_new _ _⟩
        · intro vals W hB ⟨h0, ⟨g2, _, h2, hg2⟩, _⟩
          have h0 : vals 0 = _ := h0
          have h2 : vals 2 = _ := h2
          dsimp only [putsL, slotOf]
          rw [h0, h2]
          go_wp2_with ((go_at_call 17; refine (HW1.out _ _ hg2).mono ?_; rintro e w4 ⟨rfl, hb4⟩))
          exact ⟨rfl, hb4, rfl⟩
        · intro vals W hB _
          dsimp only [putsL, slotOf]
          go_wp2
          exact ⟨rfl, Below.refl _ _, rfl⟩
        · intro vals W hB _
          obtain ⟨⟨x0, x1, x2, x3⟩, -⟩ := pk4 (H8.out _ hB)
          dsimp only [putsL, slotOf]
          go_wp2
          exact ⟨rfl, Below.refl _ _, rfl⟩
        · intro vals W hB ⟨h5, _⟩
          have h5 : vals 5 = _ := h5
          dsimp only [putsL, slotOf]
          rw [h5]
          go_wp2
          exact ⟨rfl, below_al (Below.refl _ _) _, _, Nat.zero_le _, rfl, heap_alloc_new _ _⟩
        · intro vals W hB ⟨h3, h4, ⟨g6, _, h6, hg6⟩, _⟩
          have h4 : vals 4 = _ := h4
          have h6 : vals 6 = _ := h6
          dsimp only [putsL, slotOf]
          rw [h4, h6]
          go_wp2_with ((go_at_call 17; refine (HW2.out _ _ hg6).mono ?_; rintro e w4 ⟨rfl, hb4⟩))
          exact ⟨rfl, hb4, rfl⟩
        · intro vals W hB ⟨h0, h1, ⟨g2, _, h2, hg2⟩, h3, h7, _⟩
          have h3 : vals 3 = _ := h3
          dsimp only [putsL, slotOf]
          rw [h3]
          go_wp2
          exact ⟨rfl, Below.refl _ _, rfl⟩
        · intro vals W hB ⟨h0, h1, ⟨g2, _, h2, hg2⟩, h3, h4, h5, ⟨g6, _, h6, hg6⟩, h7, h8, _⟩
          have h7 : vals 7 = _ := h7
          dsimp only [putsL, slotOf]
          rw [h7]
          go_wp2
          exact ⟨rfl, Below.refl _ _, rfl⟩
        · intro vals W hB ⟨h0, h1, ⟨g2, _, h2, hg2⟩, h3, h4, h5, ⟨g6, _, h6, hg6⟩, h7, h8, h9, _⟩
          dsimp only [putsL, slotOf]
          go_wp2
          exact ⟨rfl, Below.refl _ _, rfl⟩
        rintro vals W hB ⟨q0, q1, ⟨g2, hw2, q2, hg2⟩, q3, q4, q5, ⟨g6, hw6, q6, hg6⟩, q7, q8, q9, q10, -⟩
        have h0 : vals 0 = _ := q0
        have h1 : vals 1 = _ := q1
        have h2 : vals 2 = _ := q2
        have h3 : vals 3 = _ := q3
        have h4 : vals 4 = _ := q4
        have h5 : vals 5 = _ := q5
        have h6 : vals 6 = _ := q6
        have h7 : vals 7 = _ := q7
        have h8 : vals 8 = _ := q8
        have h9 : vals 9 = _ := q9
        have h10 : vals 10 = _ := q10
        dsimp only [putsL]
        rw [h0, h1, h2, h3, h4, h5, h6, h7, h8, h9, h10]
        clear h0 q0 h1 q1 h2 q2 h3 q3 h4 q4 h5 q5 h6 q6 h7 q7 h8 q8 h9 q9 h10 q10
        simp only [List.length_cons, List.length_nil, Nat.reduceAdd, List.drop_succ_cons, List.drop_zero, List.setIfInBounds_toArray, List.set_cons_succ, List.set_cons_zero]
        have HBF : Veil _ := ⟨bc_then HBl.out hB⟩
        clear hB
        go_wp2
        refine bodyPost_ret (results_tmp3 rfl _ _ _) rfl ?_
        exact ⟨rfl, HBF.out⟩
    · have e : ofR k a = ([], [], 100) := by unfold ofR; rw [if_neg (fun hh => h hh.1)]
      rw [e]
      have hd : decide (1 ≤ a ∧ a ≤ 1000000) = false := by simpa using h
      rw [hd] at HRt
      clear e hd h
      rcases hk with rfl | rfl
      all_goals
        go_enter Try.func15, Try.ntmps15
        go_wp2_with (go_at_call 13; refine (HRt.out _).mono ?_; rintro e w1 ⟨rfl, hb1⟩)
        refine bodyPost_ret (results_tmp3 rfl _ _ _) rfl ?_
        exact ⟨rfl, hb1⟩
  · have e : ofR k a = ([], [], 100) := by unfold ofR; rw [if_neg (fun hh => hk hh.2)]
    rw [e]
    have n2 : (k != 2) = true := by simpa using (fun h => hk (.inl h))
    have n3 : (k != 3) = true := by simpa using (fun h => hk (.inr h))
    clear e hk HRt
    go_enter Try.func15, Try.ntmps15
    go_wp2
    refine bodyPost_ret (results_tmp3 rfl _ _ _) rfl ?_
    exact ⟨rfl, Below.refl _ _⟩
end Go.Proofs.Ytgaahgnjmhnggaa
