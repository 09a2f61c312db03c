/- Codec: the iterator over a stream's frames. -/
import Derived.Test.YtaolhhgfnhhgaaaKB6
import Derived.Test.YtaolhhgfnhhgaaaKB1
import Derived.Test.YtaolhhgfnhhgaaaKN1
import Derived.Test.YtaolhhgfnhhgaaaKS5
namespace Go.Proofs.Ytaolhhgfnhhgaaa
open Go Go.RowKit Sm
attribute [local go_sem] Oper.semAt_some

theorem cframes_any (s : List UInt8) (w : World) : Calls Try.prog 33 #[.string ⟨s.toArray⟩] w fun e w' => e = .returned (.func (.func 39) #[] #[.pointer (some ⟨w.heap.size, 0, none⟩)]) ∧ w.alloc (.cells #[.string ⟨s.toArray⟩] 9) = w' := by
  go_enter Try.func33, Try.ntmps33
  go_wp2
  go_ret
  exact ⟨rfl, rfl⟩
/-- What the iterator hands over. -/
def handsR (s : List UInt8) (k : Nat) : Array Value := #[.int .i64 ((frS s).getD k (0, [])).1, .string ⟨((frS s).getD k (0, [])).2.toArray⟩]
theorem drop_head {α : Type} {l r : List α} {x : α} {k : Nat} (d : α) (h : l.drop k = x :: r) : k < l.length ∧ l.getD k d = x ∧ l.drop (k + 1) = r := by
  have h1 : k < l.length := by
    rcases Nat.lt_or_ge k l.length with h' | h'
    · exact h'
    · rw [List.drop_of_length_le h'] at h; cases h
  rw [List.drop_eq_getElem_cons h1] at h
  injection h with h2 h3
  exact ⟨h1, by simp [List.getD, h1, h2], h3⟩

set_option maxRecDepth 20000 in
set_option maxHeartbeats 2000000 in
theorem cframes_seq (Bx : Nat) (s : List UInt8) (hs : s.length ≤ 1000000) :
    Seq Try.prog 39 #[.pointer (some ⟨Bx, 0, none⟩)] (handsR s) (frS s).length (fun W => W.heap[Bx]? = some (.cells #[.string ⟨s.toArray⟩] 9 (0, 0))) := by
  intro l n J Jx W hJ hJx hF hY h0
  have hf1 := cell_row6 (hF 0 W h0)
  refine callsIn_of_wp Try.func39 rfl trivial ?_
  simp only [Try.ntmps39, List.size_toArray, List.length_cons, List.length_nil, Nat.reduceAdd, Nat.reduceSub, Array.replicate_succ, Array.replicate_zero, List.push_toArray, List.append_toArray, List.nil_append, List.cons_append]
  gi_wp2
  have HS0 : Veil (∀ k W W', J k W → Below W.heap.size W W' → J k W') := ⟨hJ⟩
  clear hf1 hF hJ hJx
  gi_loopw [3, 4, 5] (fun v _ _ wr => ∃ (k : Nat) (R : List UInt8), v = .string ⟨R.toArray⟩ ∧ Veil ((frS s).drop k = frS R) ∧ k ≤ (frS s).length ∧ R.length ≤ 1000000 ∧ J k wr) (fun v _ _ _ => sizeV v)
  case atStart => exact ⟨0, s, rfl, ⟨rfl⟩, Nat.zero_le _, hs, h0⟩
  case round =>
    obtain ⟨k, R, rfl, HD, hk, hR, hj⟩ := hrel
    by_cases h2 : 2 ≤ R.length
    · have hhd := hdS_lt R
      have HNum : Veil (∀ w, Calls Try.prog 37 #[.string ((⟨R.toArray⟩ : ByteArray).extract 0 2)] w fun e w' => e = .returned (.int .u64 (hdS R)) ∧ w = w') := ⟨fun w => by
        have h := cnumber_any (R.take 2) (by rw [List.length_take]; omega) w
        have e : (⟨R.toArray⟩ : ByteArray).extract 0 2 = ⟨(R.take 2).toArray⟩ := by rw [extM]; simp
        rw [e]
        exact h⟩
      have HX : Veil ((⟨R.toArray⟩ : ByteArray).extract 2 R.length = ⟨(R.drop 2).toArray⟩) := ⟨by rw [extM, List.take_of_length_le (by rw [List.length_drop]; omega)]⟩
      have HPart : Veil (R.length < 2 + hdS R → frS R = [(hdS R, R.drop 2)]) := ⟨frS_part R h2⟩
      have HNext : Veil (2 + hdS R ≤ R.length → frS R = (hdS R, R.drop 2) :: frS (R.drop (2 + hdS R))) := ⟨frS_next R h2⟩
      have hwr : IntKind.i64.wrap ((hdS R : Nat) : Int) = (hdS R : Nat) := by rw [IntKind.wrap_i64]; omega
      revert hhd HNum HPart HNext hwr
      generalize hdS R = hd
      intro hhd HNum HPart HNext hwr
      gi_wp2
      refine wpIn_wide.2 ?_
      refine region_new [.is (.string ⟨R.toArray⟩), .is (.string ((⟨R.toArray⟩ : ByteArray).extract 0 2)), .is (.int .u64 hd), .is (.int .i64 hd), .is (.string ⟨R.toArray⟩), .is (.string ((⟨R.toArray⟩ : ByteArray).extract 2 R.length)), .is (.int .i64 hd), .is (.string ((⟨R.toArray⟩ : ByteArray).extract 2 R.length))]
        [[], [(0, 10)], [(1, 11)], [(2, 12)], [], [(4, 14)], [(3, 13)], [(5, 15)]]
        [[], [0], [1], [2], [], [4], [0, 1, 2, 3], [0, 1, 2, 3, 4, 5, 6]]
        [(0, 10), (1, 11), (2, 12), (3, 13), (4, 14), (5, 15), (6, 4), (7, 5)] rfl (by kernel_rfl) ⟨?_, ?_, ?_, ?_, ?_, ?_, ?_, ?_, trivial⟩ ?_
      · intro vals W hB _
        dsimp only [putsL, slotOf]
        go_wp2
        exact ⟨rfl, Below.refl _ _, rfl⟩
      · intro vals W hB ⟨h0, _⟩
        have h0 : vals 0 = _ := h0
        dsimp only [putsL, slotOf]
        rw [h0]
        go_wp2
        exact ⟨rfl, Below.refl _ _, rfl⟩
      · intro vals W hB ⟨h1, _⟩
        have h1 : vals 1 = _ := h1
        dsimp only [putsL, slotOf]
        rw [h1]
        go_wp2_with ((go_at_call 37; refine (HNum.out _).mono ?_; rintro e w4 ⟨rfl, hw4⟩; subst hw4; have hb4 := Below.refl W.heap.size W))
        exact ⟨rfl, hb4, rfl⟩
      · intro vals W hB ⟨h2, _⟩
        have h2 : vals 2 = _ := h2
        dsimp only [putsL, slotOf]
        rw [h2]
        go_wp2
        exact ⟨rfl, Below.refl _ _, rfl⟩
      · intro vals W hB _
        dsimp only [putsL, slotOf]
        go_wp2
        exact ⟨rfl, Below.refl _ _, rfl⟩
      · intro vals W hB ⟨h4, _⟩
        have h4 : vals 4 = _ := h4
        dsimp only [putsL, slotOf]
        rw [h4]
        go_wp2
        exact ⟨rfl, Below.refl _ _, rfl⟩
      · intro vals W hB ⟨h0, h1, h2, h3, _⟩
        have h3 : vals 3 = _ := h3
        dsimp only [putsL, slotOf]
        rw [h3]
        go_wp2
        exact ⟨rfl, Below.refl _ _, rfl⟩
      · intro vals W hB ⟨h0, h1, h2, h3, h4, h5, h6, _⟩
        have h5 : vals 5 = _ := h5
        dsimp only [putsL, slotOf]
        rw [h5]
        go_wp2
        exact ⟨rfl, Below.refl _ _, rfl⟩
      rintro vals W hB ⟨q0, q1, q2, q3, q4, q5, q6, q7, -⟩
      have h0 : vals 0 = _ := q0
      have h1 : vals 1 = _ := q1
      have h2 : vals 2 = _ := q2
      have h3 : vals 3 = _ := q3
      have h4 : vals 4 = _ := q4
      have h5 : vals 5 = _ := q5
      have h6 : vals 6 = _ := q6
      have h7 : vals 7 = _ := q7
      dsimp only [putsL]
      rw [h0, h1, h2, h3, h4, h5, h6, h7]
      clear h0 q0 h1 q1 h2 q2 h3 q3 h4 q4 h5 q5 h6 q6 h7 q7
      simp only [List.length_cons, List.length_nil, Nat.reduceAdd, List.drop_succ_cons, List.drop_zero, List.setIfInBounds_toArray, List.set_cons_succ, List.set_cons_zero]
      rw [HX.out]
      have hj2 := HS0.out _ _ _ hj hB
      have HRest : Veil (2 + hd ≤ R.length → (⟨(R.drop 2).toArray⟩ : ByteArray).extract hd (R.drop 2).length = ⟨(R.drop (2 + hd)).toArray⟩ ∧ (R.drop (2 + hd)).length = R.length - (2 + hd)) := ⟨fun h => by
        rw [extM, List.take_of_length_le (by rw [List.length_drop]; omega), List.drop_drop, List.length_drop]
        exact ⟨rfl, rfl⟩⟩
      have hbl : (R.drop 2).length + 2 = R.length := by rw [List.length_drop]; omega
      clear hj hB hwr HNum HX
      by_cases hl : R.length < 2 + hd
      · have hd1 := HD.out
        rw [HPart.out hl] at hd1
        obtain ⟨hkl, hkg, hkd⟩ := drop_head (0, []) hd1
        have hk1 : k + 1 = (frS s).length := by
          have := congrArg List.length hkd
          rw [List.length_drop] at this
          simp at this
          omega
        have hYk := fun A hA => hY k A hkl hA
        simp only [handsR] at hYk
        rw [hkg] at hYk
        obtain ⟨fn, tmps, assign, body, hy, hR'⟩ := hYk _ hj2
        dsimp only at hy
        have HK1 : Veil _ := ⟨hk1⟩
        clear hYk hd1 hkg hkd hk1 HPart HNext HRest HD
        revert hy hbl
        generalize R.drop 2 = B
        intro hbl hy
        go_wp2
        gi_wp2
        refine hR'.mono ?_
        rintro e W3 (⟨rfl, hj'⟩ | ⟨rfl, hjx⟩)
        · have hgt : ¬ (hd : Int) ≤ (B.length : Int) := by omega
          gi_wp2
          refine bodyPost_ret (results_none rfl _ _ _) rfl ?_
          exact ⟨⟨_, rfl⟩, .inl (by rw [← HK1.out]; exact hj')⟩
        · gi_wp2
          refine bodyPost_ret (results_none rfl _ _ _) rfl ?_
          exact ⟨⟨_, rfl⟩, .inr ⟨k, hkl, hjx⟩⟩
      · have hd1 := HD.out
        rw [HNext.out (by omega)] at hd1
        obtain ⟨hkl, hkg, hkd⟩ := drop_head (0, []) hd1
        have hYk := fun A hA => hY k A hkl hA
        simp only [handsR] at hYk
        rw [hkg] at hYk
        obtain ⟨fn, tmps, assign, body, hy, hR'⟩ := hYk _ hj2
        dsimp only at hy
        obtain ⟨hr1, hr2⟩ := HRest.out (by omega)
        have HKd : Veil _ := ⟨hkd⟩
        have HR1 : Veil _ := ⟨hr1⟩
        clear hYk hd1 hkg hkd hr1 HPart HNext HRest HD
        revert hy hbl HR1 hr2 HKd
        generalize R.drop (2 + hd) = C
        generalize R.drop 2 = B
        intro hbl hy hr2 HKd HR1
        go_wp2
        gi_wp2
        refine hR'.mono ?_
        rintro e W3 (⟨rfl, hj'⟩ | ⟨rfl, hjx⟩)
        · have hle : (hd : Int) ≤ (B.length : Int) := by omega
          gi_wp2
          go_roundw
          case rel => exact ⟨k + 1, C, congrArg Value.string HR1.out, HKd, by omega, by omega, hj'⟩
          case measure =>
            simp only [HR1.out, sizeV_list]
            omega
        · gi_wp2
          refine bodyPost_ret (results_none rfl _ _ _) rfl ?_
          exact ⟨⟨_, rfl⟩, .inr ⟨k, hkl, hjx⟩⟩
    · have hd1 := HD.out
      rw [frS_short R (by omega)] at hd1
      have hk1 : k = (frS s).length := by
        have := congrArg List.length hd1
        rw [List.length_drop] at this
        simp at this
        omega
      gi_wp2
      go_end0
      exact ⟨⟨_, rfl⟩, .inl (by rw [← hk1]; exact hj)⟩
end Go.Proofs.Ytaolhhgfnhhgaaa

/- Codec: Split. -/
namespace Go.Proofs.Ytaolhhgfnhhgaaa
open Go Go.RowKit Sm
attribute [local go_sem] Oper.semAt_some

/-- While a stream is split: the boxes of the pieces, the rest, the error, and the iterator's. -/
structure FrI (w : World) (s : List UInt8) (B0 : Nat) (v : Value) (L : List (List UInt8)) (R : List UInt8) (er : Int) (A : World) : Prop where
  lst : A.heap[B0]? = some (.cells #[v] 40 (0, 0))
  rst : A.heap[B0 + 1]? = some (.cells #[.string ⟨R.toArray⟩] 9 (0, 0))
  err : A.heap[B0 + 2]? = some (.cells #[.int .i64 er] 26 (0, 0))
  it : A.heap[B0 + 3]? = some (.cells #[.string ⟨s.toArray⟩] 9 (0, 0))
  own : OwnE elK A (B0 + 4) v L
  t : Turned (fun _ => False) w A
section
variable {w A A' : World} {s : List UInt8} {B0 : Nat} {v : Value} {L : List (List UInt8)} {R : List UInt8} {er : Int}
theorem FrI.booked {S : Nat} (h : FrI w s B0 v L R er A) (hb : Booked S A A') (hS : w.heap.size ≤ S) : FrI w s B0 v L R er A' :=
  ⟨hb.heap h.lst, hb.heap h.rst, hb.heap h.err, hb.heap h.it, hb.ownsRow h.own, hb.turned h.t hS⟩
theorem FrI.new (h : FrI w s B0 v L R er A) (hb : Below A.heap.size A A') : FrI w s B0 v L R er A' :=
  ⟨(hb.block _ (lt_of_heap h.lst)).trans h.lst, (hb.block _ (lt_of_heap h.rst)).trans h.rst, (hb.block _ (lt_of_heap h.err)).trans h.err, (hb.block _ (lt_of_heap h.it)).trans h.it, h.own.below hb, h.t.trans (Turned.new hb)⟩
theorem FrI.wrong (h : FrI w s B0 v L R er A) (hB : w.heap.size ≤ B0) (n : Int) : FrI w s B0 v L R n (A.setCell ⟨B0 + 2, 0, none⟩ (.int .i64 n)) := by
  have ht : Turned (· = B0 + 2) A (A.setCell ⟨B0 + 2, 0, none⟩ (.int .i64 n)) := (Turned.refl (· = B0 + 2) A).setCell (p := ⟨B0 + 2, 0, none⟩) rfl _
  refine ⟨ht.heap h.lst (by omega), ht.heap h.rst (by omega), ?_, ht.heap h.it (by omega), h.own.kept ht (fun j hj e => by have := (h.own.lt hj).1; omega), h.t.then ht (fun j hj e => by omega)⟩
  exact heap_setCell_at h.err 0 (.int .i64 n)
end
def SplPost (s : List UInt8) (w : World) (e : Ending) (w' : World) : Prop := ∃ p c, e = .returned (.tuple #[.slice p (splR s).1.length c, .string ⟨(splR s).2.1.toArray⟩, .int .i64 (splR s).2.2]) ∧ Els elK w' p (splR s).1 ∧ Below w.heap.size w w'

set_option maxRecDepth 20000 in
set_option maxHeartbeats 4000000 in
theorem csplit_any (s : List UInt8) (hs : s.length ≤ 1000000) (w : World) : Calls Try.prog 21 #[.string ⟨s.toArray⟩] w (SplPost s w) := by
  have HSEQ : Veil _ := ⟨fun Bx => cframes_seq Bx s hs⟩
  have HF : Veil _ := ⟨fun w => cframes_any s w⟩
  have HLn : Veil _ := ⟨fun (n : Nat) w => islen_any (n : Int) w⟩
  have HSp : Veil (splR s = splR s) := ⟨rfl⟩
  refine calls_of_wp_marks Try.func21 rfl ?_
  simp only [Try.ntmps21, List.size_toArray, List.length_cons, List.length_nil, Nat.reduceAdd, Nat.reduceSub, Array.replicate_succ, Array.replicate_zero, List.push_toArray, List.append_toArray, List.nil_append, List.cons_append]
  go_wp2
  go_step3
  go_wp2
  go_step3
  go_wp2_with (go_at_call 33; refine (HF.out _).mono ?_; rintro e w3 ⟨rfl, hw3⟩)
  obtain ⟨B0, e0⟩ : ∃ B0, w.heap.size = B0 := ⟨_, rfl⟩
  have hI0 : FrI w s B0 (.slice none 0 0) [] s 0 w3 := by
    rw [← hw3, ← e0]
    refine ⟨?_, ?_, ?_, ?_, OwnE.nil _ _ _, (((((Turned.refl _ _).alloc _).alloc _).alloc _).alloc _)⟩
    all_goals
      simp only [heap_alloc_if, World.size_alloc]; repeat (first | rw [if_neg (by omega)] | rw [if_pos (by first | trivial | omega)])
    all_goals rfl
  have hz3 : w3.heap.size = B0 + 4 := by rw [← hw3, ← e0]; simp
  have HW : Veil (w.heap.size = B0 ∧ w3.heap.size = B0 + 4) := ⟨e0, hz3⟩
  rw [e0, show B0 + 1 + 1 + 1 = B0 + 3 from rfl, show B0 + 1 + 1 = B0 + 2 from rfl]
  clear hw3 e0 hz3 HSp
  refine wp_range_break (gf := 39) (lb := #[.pointer (some ⟨B0 + 3, 0, none⟩)]) rfl (enters_of Try.func39 (by kernel_rfl) rfl)
    (HSEQ.out (B0 + 3)) (fun k => rfl)
    (fun k A => ∃ v L R, FrI w s B0 v L R 0 A ∧ (frS s).drop k = frS R ∧ splR s = (L ++ (splR R).1, (splR R).2) ∧ R.length ≤ s.length ∧ L.length + R.length ≤ s.length)
    (fun A => ∃ v L R er, FrI w s B0 v L R er A ∧ splR s = (L, R, er) ∧ L.length + R.length ≤ s.length) ?hI ?hE ?hF ?h0 ?hN ?hround ?hend
  case hI =>
    rintro k A A' ⟨v, L, R, h1, h2⟩ hb
    exact ⟨v, L, R, h1.booked hb (by have := HW.out; omega), h2⟩
  case hE =>
    rintro A A' ⟨v, L, R, er, h1, h2⟩ hb
    exact ⟨v, L, R, er, h1.booked hb (by have := HW.out; omega), h2⟩
  case hF =>
    rintro k A ⟨v, L, R, h1, h2⟩
    exact h1.it
  case h0 => exact ⟨_, [], s, hI0, rfl, rfl, Nat.le_refl _, by simp⟩
  case hN =>
    rintro A ⟨v, L, R, h1, h2, h3, h4, h5⟩
    rw [List.drop_length] at h2
    have hR : R.length < 2 := by
      rcases Nat.lt_or_ge R.length 2 with h | h
      · exact h
      · exfalso
        by_cases hl : R.length < 2 + hdS R
        · rw [frS_part R h hl] at h2; cases h2
        · rw [frS_next R h (by omega)] at h2; cases h2
    refine ⟨v, L, R, 0, h1, ?_, h5⟩
    rw [h3, splR_short R hR, List.append_nil]
  case hround =>
    rintro l m k A hl hlt ⟨v, L, R, hi, hd, hsp, hle, hLR⟩
    have hne : frS R ≠ [] := by
      intro e
      rw [e] at hd
      have := congrArg List.length hd
      rw [List.length_drop] at this
      simp at this
      omega
    obtain ⟨h2, -⟩ := frS_head R hne
    have hhd := hdS_lt R
    have hex : ∃ r, frS R = (hdS R, R.drop 2) :: r := by
      by_cases hl : R.length < 2 + hdS R
      · exact ⟨_, frS_part R h2 hl⟩
      · exact ⟨_, frS_next R h2 (by omega)⟩
    obtain ⟨r, hr⟩ := hex
    rw [hr] at hd
    obtain ⟨-, hkg, hkd⟩ := drop_head (0, []) hd
    simp only [handsR, List.zip_cons_cons, List.zip_nil_right, List.foldl_cons, List.foldl_nil, List.setIfInBounds_toArray, List.set_cons_succ, List.set_cons_zero]
    rw [hkg]
    have HBad : Veil (lnOk ((hdS R : Nat) : Int) = false → splR s = (L, R, 170)) := ⟨fun h => by
      unfold lnOk at h
      rw [decide_eq_false_iff_not] at h
      rw [hsp, splR_bad R h2 (by omega), List.append_nil]⟩
    have HPart : Veil (lnOk ((hdS R : Nat) : Int) = true → R.length < 2 + hdS R → splR s = (L, R, 0)) := ⟨fun h h3 => by
      unfold lnOk at h
      rw [decide_eq_true_iff] at h
      rw [hsp, splR_part R h2 (by omega) h3, List.append_nil]⟩
    have HNext : Veil (lnOk ((hdS R : Nat) : Int) = true → 2 + hdS R ≤ R.length → (frS s).drop (k + 1) = frS (R.drop (2 + hdS R)) ∧ splR s = ((L ++ [(R.drop 2).take (hdS R)]) ++ (splR (R.drop (2 + hdS R))).1, (splR (R.drop (2 + hdS R))).2) ∧ (R.drop (2 + hdS R)).length ≤ s.length ∧ (L ++ [(R.drop 2).take (hdS R)]).length + (R.drop (2 + hdS R)).length ≤ s.length) := ⟨fun h h3 => by
      unfold lnOk at h
      rw [decide_eq_true_iff] at h
      have e := frS_next R h2 h3
      rw [hr] at e
      injection e with e1 e2
      refine ⟨hkd.trans e2, ?_, by rw [List.length_drop]; omega, by rw [List.length_append, List.length_drop]; simp only [List.length_cons, List.length_nil]; omega⟩
      rw [hsp, splR_next R h2 (by omega) h3]
      simp⟩
    have HPc : Veil ((⟨(R.drop 2).toArray⟩ : ByteArray).extract 0 (hdS R) = ⟨((R.drop 2).take (hdS R)).toArray⟩) := ⟨by rw [extM]; simp⟩
    have HRs : Veil (2 + hdS R ≤ R.length → (⟨(R.drop 2).toArray⟩ : ByteArray).extract (hdS R) (R.drop 2).length = ⟨(R.drop (2 + hdS R)).toArray⟩) := ⟨fun h => by
      rw [extM, List.take_of_length_le (by rw [List.length_drop]; omega), List.drop_drop]⟩
    have HCl : Veil _ := ⟨fun w => clone_any ((R.drop 2).take (hdS R)) ⟨by rw [List.length_take, List.length_drop]; omega⟩ w⟩
    have hbl : (R.drop 2).length + 2 = R.length := by rw [List.length_drop]; omega
    have hRl : R.length ≤ 1000000 := by omega
    have HLL : Veil (L.length ≤ 1000000 ∧ L.length + R.length ≤ s.length) := ⟨by omega, hLR⟩
    have HI1 : Veil _ := ⟨hi⟩
    have HLk : Veil _ := ⟨fun w => HLn.out (hdS R) w⟩
    clear hi hd hsp hr hkg hkd hne hI0 HSEQ HF HLn hle hLR
    revert hhd HBad HPart HNext HPc HRs HCl hbl HLk
    generalize R.drop (2 + hdS R) = R'
    generalize (R.drop 2).take (hdS R) = P
    generalize R.drop 2 = B
    generalize hdS R = hd
    intro hhd HBad HPart HNext HPc HRs HCl hbl HLk
    dsimp only
    gi_wp2
    refine ⟨KeepsFrom.refl _ _, fun A2 hbk hsz2 => ?_⟩
    have HI2 : Veil _ := ⟨HI1.out.booked hbk (by have := HW.out; omega)⟩
    clear hbk hsz2 HI1
    cases hok : lnOk (hd : Int)
    · rw [hok] at HLk
      have HB2 : Veil _ := ⟨HBad.out hok⟩
      have r2 := cell_row6 HI2.out.err
      have f2 : A2.frozen? ⟨B0 + 2, 0, none⟩ = false := frozen_whole HI2.out.err _
      clear hok HBad HPart HNext
      gi_wp2_with (refine calls_roundB ?_; refine (HLk.out _).mono ?_; rintro e w4 ⟨rfl, rfl⟩)
      have HI3 : Veil _ := ⟨HI2.out.wrong (by have := HW.out; omega) 170⟩
      refine ⟨keepsFrom_turned6 (F := (· = B0 + 2)) ((Turned.refl (· = B0 + 2) A2).setCell (p := ⟨B0 + 2, 0, none⟩) rfl _) (fun j hj => .inl (by have := HW.out; omega)), rfl, v, L, R, 170, HI3.out, HB2.out, HLL.out.2⟩
    · rw [hok] at HLk
      by_cases hlong : R.length < 2 + hd
      · have HP2 : Veil _ := ⟨HPart.out hok hlong⟩
        have hgt : ¬ (hd : Int) ≤ (B.length : Int) := by omega
        clear hok HBad HPart HNext
        gi_wp2_with (refine calls_roundB ?_; refine (HLk.out _).mono ?_; rintro e w4 ⟨rfl, rfl⟩)
        exact ⟨KeepsFrom.refl _ _, rfl, v, L, R, 0, HI2.out, HP2.out, HLL.out.2⟩
      · have HN2 : Veil _ := ⟨HNext.out hok (by omega)⟩
        have HR2 : Veil _ := ⟨HRs.out (by omega)⟩
        have hle : (hd : Int) ≤ (B.length : Int) := by omega
        clear hok HBad HPart HNext HRs
        gi_wp2_with (refine calls_roundB ?_; refine (HLk.out _).mono ?_; rintro e w4 ⟨rfl, rfl⟩)
        have HI3 : Veil _ := ⟨HI2.out⟩
        obtain ⟨pn, cn, ev, -, -⟩ := HI3.out.own.form
        subst ev
        have hdB : hd ≤ B.length := by omega
        clear HI2
        refine region_new_in [.is (.slice pn L.length cn), .is (.string ⟨B.toArray⟩), .is (.int .i64 hd), .is (.string ⟨P.toArray⟩), .is (.string ⟨P.toArray⟩), .row 0 (fun g => .slice (some ⟨g, 0, none⟩) 1 1) #[.string ⟨P.toArray⟩] 9]
          [[], [], [], [(1, 25), (2, 26)], [(3, 27)], [(4, 28)]]
          [[], [], [], [1, 2], [3], [4]]
          [(0, 24), (1, 25), (2, 26), (3, 27), (4, 28), (5, 29)] rfl (by kernel_rfl) rfl ⟨?_, ?_, ?_, ?_, ?_, ?_, trivial⟩ ?_
        · intro vals W hB _
          have c0 := cell_row6 (HI3.out.new hB).lst
          dsimp only [putsL, slotOf]
          go_wp2
          exact ⟨rfl, Below.refl _ _, rfl⟩
        · intro vals W hB _
          dsimp only [putsL, slotOf]
          go_wp2
          exact ⟨rfl, Below.refl _ _, rfl⟩
        · intro vals W hB _
          dsimp only [putsL, slotOf]
          go_wp2
          exact ⟨rfl, Below.refl _ _, rfl⟩
        · intro vals W hB ⟨h1, h2, _⟩
          have h1 : vals 1 = _ := h1
          have h2 : vals 2 = _ := h2
          dsimp only [putsL, slotOf]
          rw [h1, h2]
          go_wp2
          exact ⟨rfl, Below.refl _ _, congrArg Value.string HPc.out⟩
        · intro vals W hB ⟨h3, _⟩
          have h3 : vals 3 = _ := h3
          dsimp only [putsL, slotOf]
          rw [h3]
          go_wp2_with ((go_at_call 34; refine (HCl.out _).mono ?_; rintro e w4 ⟨rfl, hb4⟩))
          exact ⟨rfl, hb4, rfl⟩
        · intro vals W hB ⟨h4, _⟩
          have h4 : vals 4 = _ := h4
          dsimp only [putsL, slotOf]
          rw [h4]
          go_wp2
          exact ⟨rfl, below_al (Below.refl _ _) _, _, Nat.zero_le _, rfl, heap_alloc_new _ _⟩
        rintro vals W hB ⟨q0, q1, q2, q3, q4, ⟨g5, hw5, q5, hg5⟩, -⟩
        have h0 : vals 0 = _ := q0
        have h1 : vals 1 = _ := q1
        have h2 : vals 2 = _ := q2
        have h3 : vals 3 = _ := q3
        have h4 : vals 4 = _ := q4
        have h5 : vals 5 = _ := q5
        dsimp only [putsL]
        rw [h0, h1, h2, h3, h4, h5]
        clear h0 q0 h1 q1 h2 q2 h3 q3 h4 q4 h5 q5
        simp only [List.length_cons, List.length_nil, Nat.reduceAdd, List.drop_succ_cons, List.drop_zero, List.setIfInBounds_toArray, List.set_cons_succ, List.set_cons_zero]
        have HI4 : Veil _ := ⟨HI3.out.new hB⟩
        have HT4 : Veil (Turned (fun _ => False) A2 W) := ⟨Turned.new hB⟩
        have HOA : Veil (∀ j, (Value.slice pn L.length cn).ownBlock = some j → B0 + 4 ≤ j ∧ j < W.heap.size ∧ (j < A2.heap.size → ∃ c t fr, A2.heap[j]? = some (.cells c t fr))) := ⟨fun j hj => by
          have hlt2 := HI4.out.own.lt hj
          refine ⟨hlt2.1, hlt2.2, fun hj2 => ?_⟩
          obtain ⟨-, h2⟩ := HI4.out.own
          rcases h2 with ⟨e, -⟩ | ⟨g, cap, cur, e, -, hh, -⟩
          · rw [e] at hj; cases hj
          · rw [e] at hj
            cases hj
            exact ⟨_, _, _, ((HT4.out.block _ hj2 id).symm.trans hh)⟩⟩
        clear hB HI3
        obtain ⟨v, ev⟩ : ∃ v, Value.slice pn L.length cn = v := ⟨_, rfl⟩
        rw [ev] at HI4 HOA ⊢
        clear ev
        go_wp2_with (refine wpList_append_el elK rfl (.tmp 24) (.tmp 29) rfl (B0 + 4) v L P rfl HI4.out.own g5 rfl hg5 (by have := HLL.out; omega) (by have h1 := HI4.out.t.size; have h2 := lt_of_heap HI4.out.it; omega) ?_; intro v' w9 hown9 hgrow hfrom; obtain ⟨p', c', ev, -, -⟩ := hown9.form; subst ev; have ht9 : Turned (fun j => v.ownBlock = some j) W w9 := (Turned.grown hgrow (fun j hj _ => hj)); have hv9 := ht9.heap HI4.out.lst (fun e => by have := (HI4.out.own.lt e).1; omega); have q9 := cell_row6 hv9; have f9 : w9.frozen? ⟨B0, 0, none⟩ = false := frozen_whole hv9 _)
        have e9 : (L ++ [P]).length = L.length + 1 := by simp
        rw [e9] at hown9
        have ht8 : Turned (fun j => v.ownBlock = some j ∨ j = B0) W (w9.setCell ⟨B0, 0, none⟩ (.slice p' (L.length + 1) c')) := (ht9.wider fun _ _ h => .inl h).setCell (p := ⟨B0, 0, none⟩) (.inr rfl) _
        have hn8 := heap_setCell_at hv9 0 (.slice p' (L.length + 1) c')
        have ho8 : OwnE elK (w9.setCell ⟨B0, 0, none⟩ (.slice p' (L.length + 1) c')) (B0 + 4) (.slice p' (L.length + 1) c') (L ++ [P]) := hown9.kept ((Turned.refl (· = B0) w9).setCell (p := ⟨B0, 0, none⟩) rfl _) (fun j hj e => by have := (hown9.lt hj).1; omega)
        refine only_normal ?_
        revert ht8; revert hn8; revert ho8
        generalize w9.setCell ⟨B0, 0, none⟩ (.slice p' (L.length + 1) c') = w8
        intro ho8 hn8 ht8
        have hno : ∀ j, j < B0 + 4 → ∀ h : v.ownBlock = some j ∨ j = B0, j = B0 := fun j hj h => h.elim (fun e => by have := (HOA.out j e).1; omega) id
        have hr8 := ht8.heap HI4.out.rst (fun h => by have := hno _ (by omega) h; omega)
        have he8 := ht8.heap HI4.out.err (fun h => by have := hno _ (by omega) h; omega)
        have hi8 := ht8.heap HI4.out.it (fun h => by have := hno _ (by omega) h; omega)
        have r8 := cell_row6 hr8
        have f8 : w8.frozen? ⟨B0 + 1, 0, none⟩ = false := frozen_whole hr8 _
        have HN8 : Veil _ := ⟨hn8⟩
        have HO8 : Veil _ := ⟨ho8⟩
        have HT8 : Veil _ := ⟨ht8⟩
        have HR8 : Veil _ := ⟨hr8⟩
        have HE8 : Veil _ := ⟨he8⟩
        have HI8 : Veil _ := ⟨hi8⟩
        have HNO : Veil _ := ⟨hno⟩
        clear hn8 ho8 ht8 hr8 he8 hi8 hno hown9 hgrow hfrom ht9 hv9 q9 f9 hg5 hw5
        gi_wp2
        rw [HR2.out]
        have hT5 : Turned (· = B0 + 1) w8 (w8.setCell ⟨B0 + 1, 0, none⟩ (.string ⟨R'.toArray⟩)) := (Turned.refl (· = B0 + 1) w8).setCell (p := ⟨B0 + 1, 0, none⟩) rfl _
        have hW := HW.out
        refine ⟨keepsFrom_turned6 (F := fun j => v.ownBlock = some j ∧ j < A2.heap.size ∨ j = B0 ∨ j = B0 + 1) ?_ ?_, .slice p' (L.length + 1) c', L ++ [P], R', ⟨?_, ?_, ?_, ?_, ?_, ?_⟩, HN2.out⟩
        · refine ((HT4.out.wider fun _ _ h => h.elim).then (F := fun j => v.ownBlock = some j ∧ j < A2.heap.size ∨ j = B0 ∨ j = B0 + 1) HT8.out ?_).then hT5 ?_
          · intro j hj h
            exact h.elim (fun e => .inl ⟨e, hj⟩) (fun e => .inr (.inl e))
          · intro j hj h
            exact .inr (.inr h)
        · rintro j (⟨h1, h2⟩ | h | h)
          · exact .inr ((HOA.out j h1).2.2 h2)
          · exact .inl (by omega)
          · exact .inl (by omega)
        · exact hT5.heap HN8.out (by omega)
        · exact heap_setCell_at HR8.out 0 (.string ⟨R'.toArray⟩)
        · exact hT5.heap HE8.out (by omega)
        · exact hT5.heap HI8.out (by omega)
        · exact HO8.out.kept hT5 (fun j hj e => by have := (HO8.out.lt hj).1; omega)
        · exact (HI4.out.t.then HT8.out (fun j hj e => by have := HNO.out j (by omega) e; omega)).then hT5 (fun j hj e => by omega)
  case hend =>
    rintro Dd A hDd ⟨v, L, R, er, hi, hsp, hLR⟩ hdd
    have HI3 : Veil _ := ⟨hi⟩
    have HD : Veil _ := ⟨hdd⟩
    have HSp : Veil _ := ⟨hsp⟩
    obtain ⟨pn, cn, ev, -, -⟩ := hi.own.form
    subst ev
    have HCl : Veil _ := ⟨fun w => clone_any R ⟨by omega⟩ w⟩
    clear hi hdd hsp hI0 HSEQ HF HLn
    go_wp2
    refine region_new [.is (.slice pn L.length cn), .is (.string ⟨R.toArray⟩), .is (.string ⟨R.toArray⟩), .is (.int .i64 er), .is (.slice pn L.length cn), .is (.string ⟨R.toArray⟩), .is (.int .i64 er)]
      [[], [], [(1, 35)], [], [(0, 34)], [(2, 36)], [(3, 37)]]
      [[], [], [1], [], [0, 2], [0, 1, 2, 4], [0, 1, 2, 3, 4, 5]]
      [(0, 34), (1, 35), (2, 36), (3, 37), (4, 2), (5, 3), (6, 4)] rfl (by kernel_rfl) ⟨?_, ?_, ?_, ?_, ?_, ?_, ?_, trivial⟩ ?_
    · intro vals W hB _
      have c0 := cell_row6 (HI3.out.new hB).lst
      dsimp only [putsL, slotOf]
      go_wp2
      exact ⟨rfl, Below.refl _ _, rfl⟩
    · intro vals W hB _
      have c0 := cell_row6 (HI3.out.new hB).rst
      dsimp only [putsL, slotOf]
      go_wp2
      exact ⟨rfl, Below.refl _ _, rfl⟩
    · intro vals W hB ⟨h1, _⟩
      have h1 : vals 1 = _ := h1
      dsimp only [putsL, slotOf]
      rw [h1]
      go_wp2_with ((go_at_call 34; refine (HCl.out _).mono ?_; rintro e w4 ⟨rfl, hb4⟩))
      exact ⟨rfl, hb4, rfl⟩
    · intro vals W hB _
      have c0 := cell_row6 (HI3.out.new hB).err
      dsimp only [putsL, slotOf]
      go_wp2
      exact ⟨rfl, Below.refl _ _, rfl⟩
    · intro vals W hB ⟨h0, h2, _⟩
      have h0 : vals 0 = _ := h0
      dsimp only [putsL, slotOf]
      rw [h0]
      go_wp2
      exact ⟨rfl, Below.refl _ _, rfl⟩
    · intro vals W hB ⟨h0, h1, h2, h4, _⟩
      have h2 : vals 2 = _ := h2
      dsimp only [putsL, slotOf]
      rw [h2]
      go_wp2
      exact ⟨rfl, Below.refl _ _, rfl⟩
    · intro vals W hB ⟨h0, h1, h2, h3, h4, h5, _⟩
      have h3 : vals 3 = _ := h3
      dsimp only [putsL, slotOf]
      rw [h3]
      go_wp2
      exact ⟨rfl, Below.refl _ _, rfl⟩
    rintro vals W hB ⟨q0, q1, q2, q3, q4, q5, q6, -⟩
    have h0 : vals 0 = _ := q0
    have h1 : vals 1 = _ := q1
    have h2 : vals 2 = _ := q2
    have h3 : vals 3 = _ := q3
    have h4 : vals 4 = _ := q4
    have h5 : vals 5 = _ := q5
    have h6 : vals 6 = _ := q6
    dsimp only [putsL]
    rw [h0, h1, h2, h3, h4, h5, h6]
    clear h0 q0 h1 q1 h2 q2 h3 q3 h4 q4 h5 q5 h6 q6
    simp only [List.length_cons, List.length_nil, Nat.reduceAdd, List.drop_succ_cons, List.drop_zero, List.setIfInBounds_toArray, List.set_cons_succ, List.set_cons_zero]
    have HI4 : Veil _ := ⟨HI3.out.new hB⟩
    have HD4 : Veil _ := ⟨(hB.block _ (lt_of_heap HD.out)).trans HD.out⟩
    clear hB HI3 HD
    go_wp2
    refine leaves_mark (D := Dd) (B := w.heap.size) HD4.out (by have := HW.out; omega) ?_
    intro w' hb _
    obtain ⟨p, c, ev, hels, -⟩ := OwnE.form (E := elK) (w := w') (base := B0 + 4) (v := .slice pn L.length cn) (L := L) (hb.ownsRow HI4.out.own)
    cases ev
    refine leaves_none (results_three rfl rfl rfl rfl) ⟨pn, cn, ?_, ?_, ?_⟩
    · rw [HSp.out]; rfl
    · rw [HSp.out]; exact hels
    · exact (hb.turned HI4.out.t (Nat.le_refl _)).toBelow (Nat.le_refl _) (fun _ _ h => h.elim)
end Go.Proofs.Ytaolhhgfnhhgaaa
