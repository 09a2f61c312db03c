/- Shop: the document's own Right. -/
import Derived.Test.YtckkiilbabbeaaaDoorKK0
import Derived.Test.YtckkiilbabbeaaaDoorKK1
namespace Go.Proofs.YtckkiilbabbeaaaDoor
open Go Go.RowKit Sm
attribute [local go_sem] Oper.semAt_some

theorem ret_boolL {a b : Bool} (h : a = b) : Ending.returned (.bool a) = Ending.returned (.bool b) := by rw [h]
/-- A listing in a box. -/
structure LiBox (w : World) (b : Nat) (f : Int) (i : Int) (n : Int) (mo : Int) : Prop where
  f : w.cell? ⟨b, 0, none⟩ = some (.int .u32 f)
  i : w.cell? ⟨b, 1, none⟩ = some (.int .u16 i)
  n : w.cell? ⟨b, 2, none⟩ = some (.int .i64 n)
  mo : w.cell? ⟨b, 3, none⟩ = some (.int .i64 mo)
theorem LiBox.new (w : World) (f i n mo : Int) (T : TypeId) : LiBox (w.alloc (.cells #[.int .u32 f, .int .u16 i, .int .i64 n, .int .i64 mo] T)) w.heap.size f i n mo := by
  constructor <;> exact cell_whole (cur := [.int .u32 f, .int .u16 i, .int .i64 n, .int .i64 mo]) (heap_alloc_new _ _) _
theorem LiBox.below {w w' : World} {b : Nat} {f i n mo : Int} (h : LiBox w b f i n mo) (hb : Below w.heap.size w w') : LiBox w' b f i n mo :=
  ⟨(hb.cell (World.block_lt_of_cell? _ _ h.f)).trans h.f, (hb.cell (World.block_lt_of_cell? _ _ h.i)).trans h.i, (hb.cell (World.block_lt_of_cell? _ _ h.n)).trans h.n, (hb.cell (World.block_lt_of_cell? _ _ h.mo)).trans h.mo⟩

set_option maxRecDepth 20000 in
set_option maxHeartbeats 4000000 in
theorem refrightLi_any (m : Li) (w : World) : Calls Tryd.prog 15 #[m.v] w fun e w' => e = .returned (.bool (rightLi m)) ∧ Below w.heap.size w w' := by
  obtain ⟨r, hr⟩ : ∃ r, rightLi m = r := ⟨_, rfl⟩
  rw [hr]
  obtain ⟨f, i, n, mo⟩ := m
  unfold Li.v
  unfold rightLi at hr
  dsimp only at *
  obtain ⟨F, hF⟩ : ∃ F : Int, (f : Int) = F := ⟨_, rfl⟩
  obtain ⟨I, hI⟩ : ∃ I : Int, (i : Int) = I := ⟨_, rfl⟩
  have HN : Veil ((f : Int) = F) := ⟨hF⟩
  have HR : Veil _ := ⟨hr⟩
  have H1 : Veil _ := ⟨fun w => refamt_any n w⟩
  have H2 : Veil _ := ⟨fun w => refamt_any mo w⟩
  obtain ⟨A1, hA1⟩ : ∃ A, amt n = A := ⟨_, rfl⟩
  obtain ⟨A2, hA2⟩ : ∃ A, amt mo = A := ⟨_, rfl⟩
  rw [hA1] at H1
  rw [hA2] at H2
  have HA1 : Veil (A1 = true ↔ (0 ≤ n ∧ n ≤ 1152921504606846976)) := ⟨by rw [← hA1]; exact amt_iff n⟩
  have HA2 : Veil (A2 = true ↔ (0 ≤ mo ∧ mo ≤ 1152921504606846976)) := ⟨by rw [← hA2]; exact amt_iff mo⟩
  rw [hF, hI]
  clear hF hI hr hA1 hA2
  have HB : Veil _ := ⟨LiBox.new w F I n mo 27⟩
  have hT : Below w.heap.size w (w.alloc (.cells #[.int .u32 F, .int .u16 I, .int .i64 n, .int .i64 mo] 27)) := below_al (Below.refl _ _) _
  cases A1 <;> cases A2
  all_goals
    go_enter Tryd.func15, Tryd.ntmps15
    go_wp2_with (first
      | (go_at_call 33; (with_reducible refine (H2.out _).mono ?_); rintro e w2 ⟨rfl, hb2⟩; have hT := bc_then hT hb2; have HB : Veil _ := ⟨HB.out.below hb2⟩; obtain ⟨x0, x1, x2, x3⟩ := HB.out)
      | (go_at_call 33; (with_reducible refine (H1.out _).mono ?_); rintro e w1 ⟨rfl, hb1⟩; have hT := bc_then hT hb1; have HB : Veil _ := ⟨HB.out.below hb1⟩; obtain ⟨x0, x1, x2, x3⟩ := HB.out))
    all_goals
      go_ret
      refine ⟨ret_boolL ?_, hT⟩
      have h := HR.out
      have h1 := HN.out
      have a1 := HA1.out
      have a2 := HA2.out
      subst h
      rw [Bool.eq_iff_iff]
      simp at *
      omega
end Go.Proofs.YtckkiilbabbeaaaDoor

/- Shop: the document's own Bytes. -/
namespace Go.Proofs.YtckkiilbabbeaaaDoor
open Go Go.RowKit Sm
attribute [local go_sem] Oper.semAt_some

set_option maxRecDepth 20000 in
set_option maxHeartbeats 2000000 in
theorem refbytesLi_any (m : Li) (hm : m.Ok) (w : World) : Calls Tryd.prog 11 #[m.v] w fun e w' => e = .returned (.tuple #[.string ⟨(bytesLi m).1.toArray⟩, .int .i64 (bytesLi m).2]) ∧ Below w.heap.size w w' := by
  have RR : Veil _ := ⟨fun w => refrightLi_any m w⟩
  have hsrc := hm.src
  have hit := hm.item
  by_cases hr : rightLi m = true
  · have e : bytesLi m = (((putB m.src 4 ++ putB m.item 2) ++ putB m.n.toNat 8) ++ putB m.price.toNat 8, 0) := by unfold bytesLi; rw [if_pos hr]; simp [keyLi]
    rw [e]
    rw [hr] at RR
    obtain ⟨-, k2, k3, -⟩ := (rightLi_iff _).1 hr
    clear e hr hm
    obtain ⟨f, i, n, mo⟩ := m
    unfold Li.v at *
    dsimp only at *
    have P1 : Veil (∀ w, Calls Tryd.prog 27 #[.int .u64 f, .int .i64 4] w fun e w' => e = .returned (.string ⟨(putB f 4).toArray⟩) ∧ Below w.heap.size w w') := ⟨fun w => put_any f 4 (by decide) w⟩
    have P2 : Veil (∀ w, Calls Tryd.prog 27 #[.int .u64 i, .int .i64 2] w fun e w' => e = .returned (.string ⟨(putB i 2).toArray⟩) ∧ Below w.heap.size w w') := ⟨fun w => put_any i 2 (by decide) w⟩
    have P3 : Veil (∀ w, Calls Tryd.prog 27 #[.int .u64 n, .int .i64 8] w fun e w' => e = .returned (.string ⟨(putB n.toNat 8).toArray⟩) ∧ Below w.heap.size w w') := ⟨fun w => by
      have := put_any n.toNat 8 (by decide) w
      rwa [show ((n.toNat : Nat) : Int) = n by omega] at this⟩
    have P4 : Veil (∀ w, Calls Tryd.prog 27 #[.int .u64 mo, .int .i64 8] w fun e w' => e = .returned (.string ⟨(putB mo.toNat 8).toArray⟩) ∧ Below w.heap.size w w') := ⟨fun w => by
      have := put_any mo.toNat 8 (by decide) w
      rwa [show ((mo.toNat : Nat) : Int) = mo by omega] at this⟩
    have wf : IntKind.u64.wrap (f : Int) = f := by rw [IntKind.wrap_u64]; omega
    have wi : IntKind.u64.wrap (i : Int) = i := by rw [IntKind.wrap_u64]; omega
    have wm : IntKind.u64.wrap mo = mo := by rw [IntKind.wrap_u64]; omega
    have wn : IntKind.u64.wrap n = n := by rw [IntKind.wrap_u64]; omega
    clear k2 k3 hsrc hit
    have HB0 : Veil _ := ⟨LiBox.new w f i n mo 27⟩
    go_enter Tryd.func11, Tryd.ntmps11
    go_wp2_with (go_at_call 15; refine (RR.out _).mono ?_; rintro e w1 ⟨rfl, hb1⟩; have HBl : Veil _ := ⟨bc_then (below_al (Below.refl _ w) _) hb1⟩; have HB : Veil _ := ⟨HB0.out.below hb1⟩; clear hb1)
    refine region_new [.is (.pointer (some ⟨w.heap.size, 0, none⟩)), .is (.int .u32 f), .is (.int .u64 f), .is (.string ⟨(putB f 4).toArray⟩), .is (.pointer (some ⟨w.heap.size, 1, none⟩)), .is (.pointer (some ⟨w.heap.size, 1, none⟩)), .is (.int .u16 i), .is (.int .u64 i), .is (.string ⟨(putB i 2).toArray⟩), .is (.string ⟨(putB f 4 ++ putB i 2).toArray⟩), .is (.pointer (some ⟨w.heap.size, 1, none⟩)), .is (.pointer (some ⟨w.heap.size, 2, none⟩)), .is (.int .i64 n), .is (.int .u64 n), .is (.string ⟨(putB n.toNat 8).toArray⟩), .is (.string ⟨((putB f 4 ++ putB i 2) ++ putB n.toNat 8).toArray⟩), .is (.pointer (some ⟨w.heap.size, 3, none⟩)), .is (.int .i64 mo), .is (.int .u64 mo), .is (.string ⟨(putB mo.toNat 8).toArray⟩), .is (.string ⟨(((putB f 4 ++ putB i 2) ++ putB n.toNat 8) ++ putB mo.toNat 8).toArray⟩)]
      [[], [(0, 9)], [(1, 10)], [(2, 11)], [], [(4, 13)], [(5, 14)], [(6, 15)], [(7, 16)], [(3, 12), (8, 17)], [], [(10, 19)], [(11, 20)], [(12, 21)], [(13, 22)], [(9, 18), (14, 23)], [], [(16, 25)], [(17, 26)], [(18, 27)], [(15, 24), (19, 28)]]
      [[], [0], [1], [2], [], [4], [5], [6], [3, 7], [3, 8], [], [10], [11], [12], [8, 13], [9, 14], [], [16], [17], [14, 18], [15, 19]]
      [(0, 9), (1, 10), (2, 11), (3, 12), (4, 13), (5, 14), (6, 15), (7, 16), (8, 17), (9, 18), (10, 19), (11, 20), (12, 21), (13, 22), (14, 23), (15, 24), (16, 25), (17, 26), (18, 27), (19, 28), (20, 29)] rfl (by kernel_rfl) ⟨?_, ?_, ?_, ?_, ?_, ?_, ?_, ?_, ?_, ?_, ?_, ?_, ?_, ?_, ?_, ?_, ?_, ?_, ?_, ?_, ?_, trivial⟩ ?_
    · intro vals W hB _
      dsimp only [putsL, slotOf]
      go_wp2
      exact ⟨rfl, Below.refl _ _, rfl⟩
    · intro vals W hB ⟨h0, _⟩
      have h0 : vals 0 = _ := h0
      obtain ⟨x0, x1, x2, x3⟩ := HB.out.below hB
      dsimp only [putsL, slotOf]
      rw [h0]
      go_wp2
      exact ⟨rfl, Below.refl _ _, rfl⟩
    · intro vals W hB ⟨h1, _⟩
      have h1 : vals 1 = _ := h1
      dsimp only [putsL, slotOf]
      rw [h1]
      go_wp2
      exact ⟨rfl, Below.refl _ _, rfl⟩
    · intro vals W hB ⟨h2, _⟩
      have h2 : vals 2 = _ := h2
      dsimp only [putsL, slotOf]
      rw [h2]
      go_wp2_with ((go_at_call 27; (with_reducible refine (P1.out _).mono ?_); rintro e w4 ⟨rfl, hb4⟩))
      exact ⟨rfl, hb4, rfl⟩
    · intro vals W hB _
      dsimp only [putsL, slotOf]
      go_wp2
      exact ⟨rfl, Below.refl _ _, rfl⟩
    · intro vals W hB ⟨h4, _⟩
      have h4 : vals 4 = _ := h4
      dsimp only [putsL, slotOf]
      rw [h4]
      go_wp2
      exact ⟨rfl, Below.refl _ _, rfl⟩
    · intro vals W hB ⟨h5, _⟩
      have h5 : vals 5 = _ := h5
      obtain ⟨x0, x1, x2, x3⟩ := HB.out.below hB
      dsimp only [putsL, slotOf]
      rw [h5]
      go_wp2
      exact ⟨rfl, Below.refl _ _, rfl⟩
    · intro vals W hB ⟨h6, _⟩
      have h6 : vals 6 = _ := h6
      dsimp only [putsL, slotOf]
      rw [h6]
      go_wp2
      exact ⟨rfl, Below.refl _ _, rfl⟩
    · intro vals W hB ⟨h3, h7, _⟩
      have h7 : vals 7 = _ := h7
      dsimp only [putsL, slotOf]
      rw [h7]
      go_wp2_with ((go_at_call 27; (with_reducible refine (P2.out _).mono ?_); rintro e w4 ⟨rfl, hb4⟩))
      exact ⟨rfl, hb4, rfl⟩
    · intro vals W hB ⟨h3, h8, _⟩
      have h3 : vals 3 = _ := h3
      have h8 : vals 8 = _ := h8
      dsimp only [putsL, slotOf]
      rw [h3, h8]
      go_wp2
      exact ⟨rfl, Below.refl _ _, congrArg Value.string (str_add _ _)⟩
    · intro vals W hB _
      dsimp only [putsL, slotOf]
      go_wp2
      exact ⟨rfl, Below.refl _ _, rfl⟩
    · intro vals W hB ⟨h10, _⟩
      have h10 : vals 10 = _ := h10
      dsimp only [putsL, slotOf]
      rw [h10]
      go_wp2
      exact ⟨rfl, Below.refl _ _, rfl⟩
    · intro vals W hB ⟨h11, _⟩
      have h11 : vals 11 = _ := h11
      obtain ⟨x0, x1, x2, x3⟩ := HB.out.below hB
      dsimp only [putsL, slotOf]
      rw [h11]
      go_wp2
      exact ⟨rfl, Below.refl _ _, rfl⟩
    · intro vals W hB ⟨h12, _⟩
      have h12 : vals 12 = _ := h12
      dsimp only [putsL, slotOf]
      rw [h12]
      go_wp2
      exact ⟨rfl, Below.refl _ _, rfl⟩
    · intro vals W hB ⟨h8, h13, _⟩
      have h13 : vals 13 = _ := h13
      dsimp only [putsL, slotOf]
      rw [h13]
      go_wp2_with ((go_at_call 27; (with_reducible refine (P3.out _).mono ?_); rintro e w4 ⟨rfl, hb4⟩))
      exact ⟨rfl, hb4, rfl⟩
    · intro vals W hB ⟨h9, h14, _⟩
      have h9 : vals 9 = _ := h9
      have h14 : vals 14 = _ := h14
      dsimp only [putsL, slotOf]
      rw [h9, h14]
      go_wp2
      exact ⟨rfl, Below.refl _ _, congrArg Value.string (str_add _ _)⟩
    · intro vals W hB _
      dsimp only [putsL, slotOf]
      go_wp2
      exact ⟨rfl, Below.refl _ _, rfl⟩
    · intro vals W hB ⟨h16, _⟩
      have h16 : vals 16 = _ := h16
      obtain ⟨x0, x1, x2, x3⟩ := HB.out.below hB
      dsimp only [putsL, slotOf]
      rw [h16]
      go_wp2
      exact ⟨rfl, Below.refl _ _, rfl⟩
    · intro vals W hB ⟨h17, _⟩
      have h17 : vals 17 = _ := h17
      dsimp only [putsL, slotOf]
      rw [h17]
      go_wp2
      exact ⟨rfl, Below.refl _ _, rfl⟩
    · intro vals W hB ⟨h14, h18, _⟩
      have h18 : vals 18 = _ := h18
      dsimp only [putsL, slotOf]
      rw [h18]
      go_wp2_with ((go_at_call 27; (with_reducible refine (P4.out _).mono ?_); rintro e w4 ⟨rfl, hb4⟩))
      exact ⟨rfl, hb4, rfl⟩
    · intro vals W hB ⟨h15, h19, _⟩
      have h15 : vals 15 = _ := h15
      have h19 : vals 19 = _ := h19
      dsimp only [putsL, slotOf]
      rw [h15, h19]
      go_wp2
      exact ⟨rfl, Below.refl _ _, congrArg Value.string (str_add _ _)⟩
    rintro vals W hB ⟨q0, q1, q2, q3, q4, q5, q6, q7, q8, q9, q10, q11, q12, q13, q14, q15, q16, q17, q18, q19, q20, -⟩
    have h0 : vals 0 = _ := q0
    have h1 : vals 1 = _ := q1
    have h2 : vals 2 = _ := q2
    have h3 : vals 3 = _ := q3
    have h4 : vals 4 = _ := q4
    have h5 : vals 5 = _ := q5
    have h6 : vals 6 = _ := q6
    have h7 : vals 7 = _ := q7
    have h8 : vals 8 = _ := q8
    have h9 : vals 9 = _ := q9
    have h10 : vals 10 = _ := q10
    have h11 : vals 11 = _ := q11
    have h12 : vals 12 = _ := q12
    have h13 : vals 13 = _ := q13
    have h14 : vals 14 = _ := q14
    have h15 : vals 15 = _ := q15
    have h16 : vals 16 = _ := q16
    have h17 : vals 17 = _ := q17
    have h18 : vals 18 = _ := q18
    have h19 : vals 19 = _ := q19
    have h20 : vals 20 = _ := q20
    dsimp only [putsL]
    rw [h0, h1, h2, h3, h4, h5, h6, h7, h8, h9, h10, h11, h12, h13, h14, h15, h16, h17, h18, h19, h20]
    clear h0 q0 h1 q1 h2 q2 h3 q3 h4 q4 h5 q5 h6 q6 h7 q7 h8 q8 h9 q9 h10 q10 h11 q11 h12 q12 h13 q13 h14 q14 h15 q15 h16 q16 h17 q17 h18 q18 h19 q19 h20 q20
    simp only [List.length_cons, List.length_nil, Nat.reduceAdd, List.drop_succ_cons, List.drop_zero, List.setIfInBounds_toArray, List.set_cons_succ, List.set_cons_zero]
    have HBF : Veil _ := ⟨bc_then HBl.out hB⟩
    clear hB
    go_wp2
    go_ret2
    exact ⟨rfl, HBF.out⟩
  · have e : bytesLi m = ([], 150) := by unfold bytesLi; rw [if_neg hr]
    have hf : rightLi m = false := by simpa using hr
    rw [e]
    rw [hf] at RR
    clear e hf hr hm
    obtain ⟨f, i, n, mo⟩ := m
    unfold Li.v at *
    dsimp only at *
    go_enter Tryd.func11, Tryd.ntmps11
    go_wp2_with (go_at_call 15; refine (RR.out _).mono ?_; rintro e w1 ⟨rfl, hb1⟩)
    go_ret2
    exact ⟨rfl, bc_then (below_al (Below.refl _ _) _) hb1⟩
end Go.Proofs.YtckkiilbabbeaaaDoor

/- Shop: the document's own Parse. -/
namespace Go.Proofs.YtckkiilbabbeaaaDoor
open Go Go.RowKit Sm
attribute [local go_sem] Oper.semAt_some

theorem info_listing : (Tryd.prog.info? 27).map (·.size) = some 4 := by kernel_rfl
theorem results_listing2 {fn : Func} {p q : Tmp} {tmps : Array Value} {w : World} {g : Nat} {x0 x1 x2 x3 y : Value} (h : fn.results = #[.cell p 27, .tmp q]) (hp : tmps.getD p undef = .pointer (some ⟨g, 0, none⟩)) (hq : tmps.getD q undef = y) (hg : w.heap[g]? = some (.cells #[x0, x1, x2, x3] 27 (0, 0))) :
    (results fn tmps).run Tryd.prog w = .ok (.tuple #[.agg #[x0, x1, x2, x3], y]) w := by
  rw [results_cell_tmp h]
  have hp' : tmps[p]?.getD undef = .pointer (some ⟨g, 0, none⟩) := by simpa using hp
  have hq' : tmps[q]?.getD undef = y := by simpa using hq
  simp [hp', hq', asAddr, run_loadVar_row w g 27 27 #[x0, x1, x2, x3] (0, 0) _ hg Tryd.underlying27 rfl info_listing]

set_option maxRecDepth 20000 in
set_option maxHeartbeats 4000000 in
theorem refparseLi_any (s : List UInt8) (_ : s.length ≤ 1000) (w : World) : Calls Tryd.prog 13 #[.string ⟨s.toArray⟩] w fun e w' => e = .returned (.tuple #[(parseLi s).1.v, .int .i64 (parseLi s).2]) ∧ Below w.heap.size w w' := by
  by_cases hl : s.length = 22
  · have HP : Veil (parseLi s = if rightLi (liOf s) = true then (liOf s, 0) else (Li.zero, 150)) := ⟨by unfold parseLi; simp only [hl, true_and]⟩
    have RR : Veil _ := ⟨fun w => refrightLi_any (liOf s) w⟩
    obtain ⟨r, hr⟩ : ∃ r, parseLi s = r := ⟨_, rfl⟩
    rw [hr] at HP ⊢
    clear hr
    have l1 := seg_lt s 0 4
    have l2 := seg_lt s 4 2
    have l3 := seg_lt s 6 8
    have l4 := seg_lt s 14 8
    rw [q4] at l1
    rw [q8] at l3 l4
    rw [q2] at l2
    have X : ∀ a b : Nat, (⟨s.toArray⟩ : ByteArray).extract a b = ⟨((s.drop a).take (b - a)).toArray⟩ := fun a b => extM s a b
    have G : ∀ a b : Nat, b - a ≤ 100 → ∀ w, Calls Tryd.prog 30 #[.string ((⟨s.toArray⟩ : ByteArray).extract a b)] w fun e w' => e = .returned (.int .u64 (seg s a (b - a))) ∧ w = w' := fun a b h w => by
      rw [X]
      exact get_any _ (by rw [List.length_take]; omega) w
    have G1 : Veil _ := ⟨G 0 4 (by decide)⟩
    have G2 : Veil _ := ⟨G 4 6 (by decide)⟩
    have G3 : Veil _ := ⟨G 6 14 (by decide)⟩
    have G4 : Veil _ := ⟨G 14 22 (by decide)⟩
    clear X G
    unfold liOf at RR HP
    have w1 : IntKind.u32.wrap ((seg s 0 4 : Nat) : Int) = ((seg s 0 4 : Nat) : Int) := by rw [IntKind.wrap_u32]; omega
    have w2 := sgn_wrap (seg s 6 8) l3
    have w3 : IntKind.u16.wrap ((seg s 4 2 : Nat) : Int) = ((seg s 4 2 : Nat) : Int) := by simp only [IntKind.wrap, IntKind.bits, IntKind.signed]; simp; omega
    have w4 := sgn_wrap (seg s 14 8) l4
    simp only [Nat.sub_zero, Nat.reduceSub] at G1 G2 G3 G4
    clear l1 l2 l3 l4
    generalize seg s 0 4 = F at *
    generalize seg s 4 2 = I at *
    generalize seg s 6 8 = NN at *
    generalize seg s 14 8 = MO at *
    generalize sgn MO = SM at *
    generalize sgn NN = SN at *
    unfold Li.v at RR
    dsimp only at RR HP
    generalize rightLi ⟨F, I, SN, SM⟩ = b at RR HP
    have hln : (s.length : Int) = 22 := by omega
    clear hl
    cases b
    all_goals
      have e1 : Veil _ := ⟨HP.out⟩
      first
        | (have e2 : r = (Li.zero, 150) := by rw [e1.out]; rfl)
        | (have e2 : r = (⟨F, I, SN, SM⟩, 0) := by rw [e1.out]; rfl)
      subst e2
      clear e1 HP
      unfold Li.v
      dsimp only [Li.zero]
      go_enter Tryd.func13, Tryd.ntmps13
      go_wp2
      have HR0 : Veil _ := ⟨heap_alloc_new w (.cells #[.int .u32 0, .int .u16 0, .int .i64 0, .int .i64 0] 27)⟩
      have HB0 : Veil _ := ⟨below_al (Below.refl w.heap.size w) (.cells #[.int .u32 0, .int .u16 0, .int .i64 0, .int .i64 0] 27)⟩
      refine region_new [.is (.string ⟨s.toArray⟩), .is (.string ((⟨s.toArray⟩ : ByteArray).extract 0 4)), .is (.int .u64 F), .is (.int .u32 F), .is (.string ⟨s.toArray⟩), .is (.string ((⟨s.toArray⟩ : ByteArray).extract 4 6)), .is (.int .u64 I), .is (.int .u16 I), .is (.string ⟨s.toArray⟩), .is (.string ((⟨s.toArray⟩ : ByteArray).extract 6 14)), .is (.int .u64 NN), .is (.int .i64 SN), .is (.agg #[.int .u16 I, .int .i64 SN]), .is (.string ⟨s.toArray⟩), .is (.string ((⟨s.toArray⟩ : ByteArray).extract 14 22)), .is (.int .u64 MO), .is (.int .i64 SM), .is (.agg #[.int .u32 F, .int .u16 I, .int .i64 SN, .int .i64 SM]), .row (w.heap.size + 1) (fun g => .pointer (some ⟨g, 0, none⟩)) #[.int .u32 0, .int .u16 0, .int .i64 0, .int .i64 0] 27]
        [[], [(0, 10)], [(1, 11)], [(2, 12)], [], [(4, 14)], [(5, 15)], [(6, 16)], [], [(8, 18)], [(9, 19)], [(10, 20)], [(7, 17), (11, 21)], [], [(13, 23)], [(14, 24)], [(15, 25)], [(3, 13), (12, 22), (16, 26)], []]
        [[], [0], [1], [2], [], [4], [2, 5], [6], [], [8], [6, 9], [10], [7, 11], [], [13], [10, 14], [15], [3, 12, 16], []]
        [(0, 10), (1, 11), (2, 12), (3, 13), (4, 14), (5, 15), (6, 16), (7, 17), (8, 18), (9, 19), (10, 20), (11, 21), (12, 22), (13, 23), (14, 24), (15, 25), (16, 26), (17, 27), (18, 4)] rfl (by kernel_rfl) ⟨?_, ?_, ?_, ?_, ?_, ?_, ?_, ?_, ?_, ?_, ?_, ?_, ?_, ?_, ?_, ?_, ?_, ?_, ?_, trivial⟩ ?_
      · intro vals W hB _
        dsimp only [putsL, slotOf]
        go_wp2
        exact ⟨rfl, Below.refl _ _, rfl⟩
      · intro vals W hB ⟨h0, _⟩
        have h0 : vals 0 = _ := h0
        dsimp only [putsL, slotOf]
        rw [h0]
        go_wp2
        exact ⟨rfl, Below.refl _ _, rfl⟩
      · intro vals W hB ⟨h1, _⟩
        have h1 : vals 1 = _ := h1
        dsimp only [putsL, slotOf]
        rw [h1]
        go_wp2_with ((go_at_call 30; (with_reducible refine (G1.out _).mono ?_); rintro e w4 ⟨rfl, hw4⟩; subst hw4; have hb4 := Below.refl W.heap.size W))
        exact ⟨rfl, hb4, rfl⟩
      · intro vals W hB ⟨h2, _⟩
        have h2 : vals 2 = _ := h2
        dsimp only [putsL, slotOf]
        rw [h2]
        go_wp2
        exact ⟨rfl, Below.refl _ _, rfl⟩
      · intro vals W hB _
        dsimp only [putsL, slotOf]
        go_wp2
        exact ⟨rfl, Below.refl _ _, rfl⟩
      · intro vals W hB ⟨h4, _⟩
        have h4 : vals 4 = _ := h4
        dsimp only [putsL, slotOf]
        rw [h4]
        go_wp2
        exact ⟨rfl, Below.refl _ _, rfl⟩
      · intro vals W hB ⟨h2, h5, _⟩
        have h5 : vals 5 = _ := h5
        dsimp only [putsL, slotOf]
        rw [h5]
        go_wp2_with ((go_at_call 30; (with_reducible refine (G2.out _).mono ?_); rintro e w4 ⟨rfl, hw4⟩; subst hw4; have hb4 := Below.refl W.heap.size W))
        exact ⟨rfl, hb4, rfl⟩
      · intro vals W hB ⟨h6, _⟩
        have h6 : vals 6 = _ := h6
        dsimp only [putsL, slotOf]
        rw [h6]
        go_wp2
        exact ⟨rfl, Below.refl _ _, rfl⟩
      · intro vals W hB _
        dsimp only [putsL, slotOf]
        go_wp2
        exact ⟨rfl, Below.refl _ _, rfl⟩
      · intro vals W hB ⟨h8, _⟩
        have h8 : vals 8 = _ := h8
        dsimp only [putsL, slotOf]
        rw [h8]
        go_wp2
        exact ⟨rfl, Below.refl _ _, rfl⟩
      · intro vals W hB ⟨h6, h9, _⟩
        have h9 : vals 9 = _ := h9
        dsimp only [putsL, slotOf]
        rw [h9]
        go_wp2_with ((go_at_call 30; (with_reducible refine (G3.out _).mono ?_); rintro e w4 ⟨rfl, hw4⟩; subst hw4; have hb4 := Below.refl W.heap.size W))
        exact ⟨rfl, hb4, rfl⟩
      · intro vals W hB ⟨h10, _⟩
        have h10 : vals 10 = _ := h10
        dsimp only [putsL, slotOf]
        rw [h10]
        go_wp2
        exact ⟨rfl, Below.refl _ _, rfl⟩
      · intro vals W hB ⟨h7, h11, _⟩
        have h7 : vals 7 = _ := h7
        have h11 : vals 11 = _ := h11
        dsimp only [putsL, slotOf]
        rw [h7, h11]
        go_wp2
        exact ⟨rfl, Below.refl _ _, rfl⟩
      · intro vals W hB _
        dsimp only [putsL, slotOf]
        go_wp2
        exact ⟨rfl, Below.refl _ _, rfl⟩
      · intro vals W hB ⟨h13, _⟩
        have h13 : vals 13 = _ := h13
        dsimp only [putsL, slotOf]
        rw [h13]
        go_wp2
        exact ⟨rfl, Below.refl _ _, rfl⟩
      · intro vals W hB ⟨h10, h14, _⟩
        have h14 : vals 14 = _ := h14
        dsimp only [putsL, slotOf]
        rw [h14]
        go_wp2_with ((go_at_call 30; (with_reducible refine (G4.out _).mono ?_); rintro e w4 ⟨rfl, hw4⟩; subst hw4; have hb4 := Below.refl W.heap.size W))
        exact ⟨rfl, hb4, rfl⟩
      · intro vals W hB ⟨h15, _⟩
        have h15 : vals 15 = _ := h15
        dsimp only [putsL, slotOf]
        rw [h15]
        go_wp2
        exact ⟨rfl, Below.refl _ _, rfl⟩
      · intro vals W hB ⟨h3, h12, h16, _⟩
        have h3 : vals 3 = _ := h3
        have h12 : vals 12 = _ := h12
        have h16 : vals 16 = _ := h16
        dsimp only [putsL, slotOf]
        rw [h3, h12, h16]
        go_wp2
        exact ⟨rfl, Below.refl _ _, rfl⟩
      · intro vals W hB _
        dsimp only [putsL, slotOf]
        go_wp2
        exact ⟨rfl, below_al (Below.refl _ _) _, _, (by have := hB.size; simpa using this), rfl, heap_alloc_new _ _⟩
      rintro vals W hB ⟨q0, q1, q2, q3, q4, q5, q6, q7, q8, q9, q10, q11, q12, q13, q14, q15, q16, q17, ⟨g18, hw18, q18, hg18⟩, -⟩
      have h0 : vals 0 = _ := q0
      have h1 : vals 1 = _ := q1
      have h2 : vals 2 = _ := q2
      have h3 : vals 3 = _ := q3
      have h4 : vals 4 = _ := q4
      have h5 : vals 5 = _ := q5
      have h6 : vals 6 = _ := q6
      have h7 : vals 7 = _ := q7
      have h8 : vals 8 = _ := q8
      have h9 : vals 9 = _ := q9
      have h10 : vals 10 = _ := q10
      have h11 : vals 11 = _ := q11
      have h12 : vals 12 = _ := q12
      have h13 : vals 13 = _ := q13
      have h14 : vals 14 = _ := q14
      have h15 : vals 15 = _ := q15
      have h16 : vals 16 = _ := q16
      have h17 : vals 17 = _ := q17
      have h18 : vals 18 = _ := q18
      dsimp only [putsL]
      rw [h0, h1, h2, h3, h4, h5, h6, h7, h8, h9, h10, h11, h12, h13, h14, h15, h16, h17, h18]
      clear h0 q0 h1 q1 h2 q2 h3 q3 h4 q4 h5 q5 h6 q6 h7 q7 h8 q8 h9 q9 h10 q10 h11 q11 h12 q12 h13 q13 h14 q14 h15 q15 h16 q16 h17 q17 h18 q18
      simp only [List.length_cons, List.length_nil, Nat.reduceAdd, List.drop_succ_cons, List.drop_zero, List.setIfInBounds_toArray, List.set_cons_succ, List.set_cons_zero]

      have HB1 : Veil _ := ⟨bc_then HB0.out hB⟩
      have hres : W.heap[w.heap.size]? = some (.cells #[.int .u32 0, .int .u16 0, .int .i64 0, .int .i64 0] 27 (0, 0)) := (hB.block _ (by simp)).trans HR0.out
      have HG : Veil _ := ⟨hg18⟩
      obtain ⟨⟨c0, c1, c2, c3⟩, k0, k1, k2, k3⟩ := pkM hg18
      clear hB hg18
      have hne : w.heap.size ≠ g18 := by omega
      have HM : Veil _ := ⟨stM HG.out (.int .u32 F) (.int .u16 I) (.int .i64 SN) (.int .i64 SM)⟩
      have HRs : Veil _ := ⟨otherM hres hne (.int .u32 F) (.int .u16 I) (.int .i64 SN) (.int .i64 SM)⟩
      have HB2 : Veil _ := ⟨tnM HB1.out (show w.heap.size ≤ g18 by omega) (.int .u32 F) (.int .u16 I) (.int .i64 SN) (.int .i64 SM)⟩
      go_wp2_with (go_at_call 15; (with_reducible refine (RR.out _).mono ?_); rintro e w5 ⟨rfl, hb5⟩; have HR5 : Veil _ := ⟨(hb5.block _ (lt_of_heap HRs.out)).trans HRs.out⟩; have HM5 : Veil _ := ⟨(hb5.block _ (lt_of_heap HM.out)).trans HM.out⟩; have HB5 : Veil _ := ⟨bc_then HB2.out hb5⟩; obtain ⟨-, f0, f1, f2, f3⟩ := pkM HR5.out; obtain ⟨⟨z0, z1, z2, z3⟩, -⟩ := pkM HR5.out; obtain ⟨⟨y0, y1, y2, y3⟩, -⟩ := pkM HM5.out)
      exact bodyPost_ret (results_listing2 (g := w.heap.size) rfl rfl rfl (stM HR5.out _ _ _ _)) rfl ⟨rfl, tnM HB5.out (Nat.le_refl _) _ _ _ _⟩
  · have e : parseLi s = (Li.zero, 150) := by unfold parseLi; rw [if_neg (fun h => hl h.1)]
    have hln : ¬ (s.length : Int) = 22 := by omega
    rw [e]
    clear e hl
    unfold Li.v
    dsimp only [Li.zero]
    have HR0 : Veil _ := ⟨heap_alloc_new w (.cells #[.int .u32 0, .int .u16 0, .int .i64 0, .int .i64 0] 27)⟩
    go_enter Tryd.func13, Tryd.ntmps13
    go_wp2
    exact bodyPost_ret (results_listing2 (g := w.heap.size) rfl rfl rfl HR0.out) rfl ⟨rfl, below_al (Below.refl _ _) _⟩
end Go.Proofs.YtckkiilbabbeaaaDoor

/- Shop: the document's own List, Cancel. -/
namespace Go.Proofs.YtckkiilbabbeaaaDoor
open Go Go.RowKit Sm
attribute [local go_sem] Oper.semAt_some

set_option maxRecDepth 20000 in
set_option maxHeartbeats 2000000 in
theorem reflistS_any {w : World} {p : Option Addr} (l : List St) (lc : Nat) (x : Li) (hx : x.Ok) (h : Els elS w p l) (hl : l.length ≤ 1000) :
    Calls Tryd.prog 18 #[.slice p l.length lc, x.v] w (GoodsPost w (listS l x).1 (listS l x).2) := by
  have RR : Veil _ := ⟨fun w => refrightLi_any x w⟩
  have TK : Veil (∀ W, Below w.heap.size w W → Calls Tryd.prog 36 #[.slice p l.length lc, x.st.v] W (GoodsPost W (takeG l x.st).1 (takeG l x.st).2)) := ⟨fun W hW => reftakeG_any l lc x.st (h.below hW) hl hx.n⟩
  obtain ⟨R, hR⟩ : ∃ R, listS l x = R := ⟨_, rfl⟩
  have HR : Veil _ := ⟨hR⟩
  rw [hR]
  clear hR h hx hl
  unfold listS at HR
  generalize rightLi x = r at RR HR
  generalize takeG l x.st = s2 at TK HR
  obtain ⟨T, e2⟩ := s2
  obtain ⟨f, i, n, mo⟩ := x
  unfold Li.st St.v Li.v at *
  dsimp only at *
  have HB0 : Veil _ := ⟨LiBox.new w f i n mo 27⟩
  have HT : Veil (Below w.heap.size w (w.alloc (.cells #[.int .u32 f, .int .u16 i, .int .i64 n, .int .i64 mo] 27))) := ⟨below_al (Below.refl _ _) _⟩
  cases r
  · have e : R = ([], 150) := HR.out.symm
    subst e
    go_enter Tryd.func18, Tryd.ntmps18
    go_wp2_with (go_at_call 15; (with_reducible refine (RR.out _).mono ?_); rintro e w1 ⟨rfl, hb1⟩; have HB : Veil _ := ⟨HB0.out.below hb1⟩; have HT1 : Veil _ := ⟨bc_then HT.out hb1⟩; clear hb1; obtain ⟨x0, x1, x2, x3⟩ := HB.out)
    go_ret2
    exact ⟨_, rfl, FreshE.nil _ _ _, HT1.out⟩
  · have e : R = (T, e2) := HR.out.symm
    subst e
    go_enter Tryd.func18, Tryd.ntmps18
    go_wp2_with (first
      | (go_at_call 36; (with_reducible refine (TK.out _ HT1.out).mono ?_); rintro e w4 ⟨v4, rfl, hF4, hb4⟩; have HF4 : Veil _ := ⟨hF4⟩; have HB4 : Veil _ := ⟨hb4⟩; obtain ⟨p4, c4, ev4, -, -⟩ := hF4.form; subst ev4; clear hb4 hF4)
      | (go_at_call 15; (with_reducible refine (RR.out _).mono ?_); rintro e w1 ⟨rfl, hb1⟩; have HB : Veil _ := ⟨HB0.out.below hb1⟩; have HT1 : Veil _ := ⟨bc_then HT.out hb1⟩; clear hb1; obtain ⟨x0, x1, x2, x3⟩ := HB.out))
    go_ret2
    exact ⟨_, rfl, HF4.out.base HT1.out.size, bc_then HT1.out HB4.out⟩

set_option maxRecDepth 20000 in
set_option maxHeartbeats 2000000 in
theorem refcancelS_any {w : World} {p : Option Addr} (l : List St) (lc : Nat) (x : Li) (hx : x.Ok) (h : Els elS w p l) (hl : l.length ≤ 1000) :
    Calls Tryd.prog 20 #[.slice p l.length lc, x.v] w (GoodsPost w (cancelS l x).1 (cancelS l x).2) := by
  have RR : Veil _ := ⟨fun w => refrightLi_any x w⟩
  have TK : Veil (∀ W, Below w.heap.size w W → Calls Tryd.prog 38 #[.slice p l.length lc, x.st.v] W (GoodsPost W (giveG l x.st).1 (giveG l x.st).2)) := ⟨fun W hW => refgiveG_any l lc x.st (h.below hW) hl hx.n⟩
  obtain ⟨R, hR⟩ : ∃ R, cancelS l x = R := ⟨_, rfl⟩
  have HR : Veil _ := ⟨hR⟩
  rw [hR]
  clear hR h hx hl
  unfold cancelS at HR
  generalize rightLi x = r at RR HR
  generalize giveG l x.st = s2 at TK HR
  obtain ⟨T, e2⟩ := s2
  obtain ⟨f, i, n, mo⟩ := x
  unfold Li.st St.v Li.v at *
  dsimp only at *
  have HB0 : Veil _ := ⟨LiBox.new w f i n mo 27⟩
  have HT : Veil (Below w.heap.size w (w.alloc (.cells #[.int .u32 f, .int .u16 i, .int .i64 n, .int .i64 mo] 27))) := ⟨below_al (Below.refl _ _) _⟩
  cases r
  · have e : R = ([], 150) := HR.out.symm
    subst e
    go_enter Tryd.func20, Tryd.ntmps20
    go_wp2_with (go_at_call 15; (with_reducible refine (RR.out _).mono ?_); rintro e w1 ⟨rfl, hb1⟩; have HB : Veil _ := ⟨HB0.out.below hb1⟩; have HT1 : Veil _ := ⟨bc_then HT.out hb1⟩; clear hb1; obtain ⟨x0, x1, x2, x3⟩ := HB.out)
    go_ret2
    exact ⟨_, rfl, FreshE.nil _ _ _, HT1.out⟩
  · have e : R = (T, e2) := HR.out.symm
    subst e
    go_enter Tryd.func20, Tryd.ntmps20
    go_wp2_with (first
      | (go_at_call 38; (with_reducible refine (TK.out _ HT1.out).mono ?_); rintro e w4 ⟨v4, rfl, hF4, hb4⟩; have HF4 : Veil _ := ⟨hF4⟩; have HB4 : Veil _ := ⟨hb4⟩; obtain ⟨p4, c4, ev4, -, -⟩ := hF4.form; subst ev4; clear hb4 hF4)
      | (go_at_call 15; (with_reducible refine (RR.out _).mono ?_); rintro e w1 ⟨rfl, hb1⟩; have HB : Veil _ := ⟨HB0.out.below hb1⟩; have HT1 : Veil _ := ⟨bc_then HT.out hb1⟩; clear hb1; obtain ⟨x0, x1, x2, x3⟩ := HB.out))
    go_ret2
    exact ⟨_, rfl, HF4.out.base HT1.out.size, bc_then HT1.out HB4.out⟩
end Go.Proofs.YtckkiilbabbeaaaDoor

/- Shop: the document's own Buy. -/
namespace Go.Proofs.YtckkiilbabbeaaaDoor
open Go Go.RowKit Sm
attribute [local go_sem] Oper.semAt_some

theorem results_acc4 {fn : Func} {p q r s : Tmp} {tmps : Array Value} {w : World} {g k : Nat} {x0 x1 z0 z1 y z : Value} (h : fn.results = #[.cell p 37, .cell q 37, .tmp r, .tmp s]) (hp : tmps.getD p undef = .pointer (some ⟨g, 0, none⟩)) (hq : tmps.getD q undef = .pointer (some ⟨k, 0, none⟩)) (hr : tmps.getD r undef = y) (hs : tmps.getD s undef = z) (hg : w.heap[g]? = some (.cells #[x0, x1] 37 (0, 0))) (hk : w.heap[k]? = some (.cells #[z0, z1] 37 (0, 0))) :
    (results fn tmps).run Tryd.prog w = .ok (.tuple #[.agg #[x0, x1], .agg #[z0, z1], y, z]) w := by
  have hp' : tmps[p]?.getD undef = .pointer (some ⟨g, 0, none⟩) := by simpa using hp
  have hq' : tmps[q]?.getD undef = .pointer (some ⟨k, 0, none⟩) := by simpa using hq
  have hr' : tmps[r]?.getD undef = y := by simpa using hr
  have hs' : tmps[s]?.getD undef = z := by simpa using hs
  obtain ⟨⟨c0, c1⟩, -⟩ := pk2 hg
  obtain ⟨⟨d0, d1⟩, -⟩ := pk2 hk
  simp [results, h, go_sem, hp', hq', hr', hs', c0, c1, d0, d1]
/-- The boxes of two accounts, a listing, two answers, behind calls. -/
structure ByB (w W : World) (a b c d f i n mo : Int) : Prop where
  x : W.heap[w.heap.size]? = some (.cells #[.int .i64 a, .int .i64 b] 37 (0, 0))
  y : W.heap[w.heap.size + 1]? = some (.cells #[.int .i64 c, .int .i64 d] 37 (0, 0))
  m : W.heap[w.heap.size + 2]? = some (.cells #[.int .u32 f, .int .u16 i, .int .i64 n, .int .i64 mo] 27 (0, 0))
  r : W.heap[w.heap.size + 3]? = some (.cells #[.int .i64 0, .int .i64 0] 37 (0, 0))
  s : W.heap[w.heap.size + 4]? = some (.cells #[.int .i64 0, .int .i64 0] 37 (0, 0))
  below : Below w.heap.size w W
theorem ByB.new (w : World) (a b c d f i n mo : Int) : ByB w (((((w.alloc (.cells #[.int .i64 a, .int .i64 b] 37)).alloc (.cells #[.int .i64 c, .int .i64 d] 37)).alloc (.cells #[.int .u32 f, .int .u16 i, .int .i64 n, .int .i64 mo] 27)).alloc (.cells #[.int .i64 0, .int .i64 0] 37)).alloc (.cells #[.int .i64 0, .int .i64 0] 37)) a b c d f i n mo := by
  refine ⟨?_, ?_, ?_, ?_, ?_, below_al (below_al (below_al (below_al (below_al (Below.refl _ _) _) _) _) _) _⟩
  all_goals
    simp only [heap_alloc_if, World.size_alloc]; repeat (first | rw [if_neg (by omega)] | rw [if_pos (by first | trivial | omega)])
theorem ByB.after {w W W' : World} {a b c d f i n mo : Int} (h : ByB w W a b c d f i n mo) (hb : Below W.heap.size W W') : ByB w W' a b c d f i n mo :=
  ⟨(hb.block _ (lt_of_heap h.x)).trans h.x, (hb.block _ (lt_of_heap h.y)).trans h.y, (hb.block _ (lt_of_heap h.m)).trans h.m, (hb.block _ (lt_of_heap h.r)).trans h.r, (hb.block _ (lt_of_heap h.s)).trans h.s, bc_then h.below hb⟩
theorem two_boxes (w : World) (a b c d : Int) : ((w.alloc (.cells #[.int .i64 a, .int .i64 b] 37)).alloc (.cells #[.int .i64 c, .int .i64 d] 37)).heap[w.heap.size]? = some (.cells #[.int .i64 a, .int .i64 b] 37 (0, 0)) ∧ ((w.alloc (.cells #[.int .i64 a, .int .i64 b] 37)).alloc (.cells #[.int .i64 c, .int .i64 d] 37)).heap[w.heap.size + 1]? = some (.cells #[.int .i64 c, .int .i64 d] 37 (0, 0)) := by
  constructor
  all_goals
    simp only [heap_alloc_if, World.size_alloc]; repeat (first | rw [if_neg (by omega)] | rw [if_pos (by first | trivial | omega)])
def BuyPost (w : World) (A B : Ac) (L : List St) (c : Int) (e : Ending) (w' : World) : Prop := ∃ v, e = .returned (.tuple #[A.v, B.v, v, .int .i64 c]) ∧ FreshE elS w.heap.size w' v L ∧ Below w.heap.size w w'
theorem BuyPost.nil {w w' : World} {c : Int} (hb : Below w.heap.size w w') : BuyPost w Ac.zero Ac.zero [] c (.returned (.tuple #[.agg #[.int .i64 0, .int .i64 0], .agg #[.int .i64 0, .int .i64 0], .slice none 0 0, .int .i64 c])) w' := ⟨_, rfl, FreshE.nil _ _ _, hb⟩

set_option maxRecDepth 20000 in
set_option maxHeartbeats 4000000 in
theorem refbuyS_any {w : World} {p : Option Addr} (a b : Ac) (ha : a.Ok) (hb : b.Ok) (l : List St) (lc : Nat) (x : Li) (hx : x.Ok) (h : Els elS w p l) (hl : l.length ≤ 1000) :
    Calls Tryd.prog 22 #[a.v, b.v, .slice p l.length lc, x.v] w (BuyPost w (buyS a b l x).1 (buyS a b l x).2.1 (buyS a b l x).2.2.1 (buyS a b l x).2.2.2) := by
  have RR : Veil _ := ⟨fun w => refrightLi_any x w⟩
  have PY : Veil _ := ⟨fun w => refpayA_any a b ha hb x.price hx.price w⟩
  have GV : Veil (∀ W, Below w.heap.size w W → Calls Tryd.prog 38 #[.slice p l.length lc, x.st.v] W (GoodsPost W (giveG l x.st).1 (giveG l x.st).2)) := ⟨fun W hW => refgiveG_any l lc x.st (h.below hW) hl hx.n⟩
  obtain ⟨R, hR⟩ : ∃ R, buyS a b l x = R := ⟨_, rfl⟩
  have HR : Veil _ := ⟨hR⟩
  rw [hR]
  clear hR h hx hl ha hb
  unfold buyS at HR
  generalize rightLi x = r1 at RR HR
  generalize payA a b x.price = s1 at PY HR
  generalize giveG l x.st = s2 at GV HR
  obtain ⟨⟨bw, bb⟩, ⟨dw, db⟩, e1⟩ := s1
  obtain ⟨T, e2⟩ := s2
  obtain ⟨aw, ab⟩ := a
  obtain ⟨cw, cb⟩ := b
  obtain ⟨f, i, n, mo⟩ := x
  unfold Li.st St.v Li.v Ac.v at *
  dsimp only at *
  have HB0 : Veil _ := ⟨ByB.new w aw ab cw cb f i n mo⟩
  cases r1
  · have e : R = (Ac.zero, Ac.zero, [], 150) := HR.out.symm
    subst e
    go_enter Tryd.func22, Tryd.ntmps22
    go_wp2_with (first
      | (go_at_call 38; (with_reducible refine (GV.out _ HB.out.below).mono ?_); rintro e w4 ⟨v4, rfl, hF4, hb4⟩; have HF4 : Veil (FreshE elS (w.heap.size + 5) _ _ _) := ⟨hF4.base (by simp; omega)⟩; have HP : Veil _ := ⟨And.intro ((hb4.block _ (lt_of_heap HP.out.1)).trans HP.out.1) ((hb4.block _ (lt_of_heap HP.out.2)).trans HP.out.2)⟩; have HB : Veil _ := ⟨HB.out.after hb4⟩; obtain ⟨p4, c4, ev4, -, -⟩ := hF4.form; subst ev4; clear hb4 hF4; obtain ⟨⟨r0, r1⟩, k0, k1⟩ := pk2 HB.out.r; obtain ⟨⟨s0, s1⟩, k2, k3⟩ := pk2 HB.out.s; obtain ⟨⟨u0, u1⟩, -⟩ := pk2 HP.out.1; obtain ⟨⟨u2, u3⟩, -⟩ := pk2 HP.out.2)
      | (go_at_call 41; (with_reducible refine (PY.out _).mono ?_); rintro e w2 ⟨rfl, hb2⟩; have HP : Veil (((w2.alloc (.cells #[.int .i64 bw, .int .i64 bb] 37)).alloc (.cells #[.int .i64 dw, .int .i64 db] 37)).heap[w2.heap.size]? = some (.cells #[.int .i64 bw, .int .i64 bb] 37 (0, 0)) ∧ ((w2.alloc (.cells #[.int .i64 bw, .int .i64 bb] 37)).alloc (.cells #[.int .i64 dw, .int .i64 db] 37)).heap[w2.heap.size + 1]? = some (.cells #[.int .i64 dw, .int .i64 db] 37 (0, 0))) := ⟨two_boxes w2 bw bb dw db⟩; have HB : Veil _ := ⟨(HB.out.after hb2).after (below_al (below_al (Below.refl w2.heap.size w2) (.cells #[.int .i64 bw, .int .i64 bb] 37)) (.cells #[.int .i64 dw, .int .i64 db] 37))⟩; have hlt : w.heap.size + 4 < w2.heap.size := (by have h1 := lt_of_heap HB1.out.s; have h2 := hb2.size; omega); clear hb2; obtain ⟨⟨x0, x1⟩, -⟩ := pk2 HB.out.x; obtain ⟨⟨y0, y1⟩, -⟩ := pk2 HB.out.y; obtain ⟨⟨m0, m1, m2, m3⟩, -⟩ := pkM HB.out.m; obtain ⟨⟨r0, r1⟩, k0, k1⟩ := pk2 HB.out.r; obtain ⟨⟨s0, s1⟩, k2, k3⟩ := pk2 HB.out.s)
      | (go_at_call 15; (with_reducible refine (RR.out _).mono ?_); rintro e w1 ⟨rfl, hb1⟩; have HB : Veil _ := ⟨HB0.out.after hb1⟩; have HB1 : Veil _ := ⟨HB0.out.after hb1⟩; clear hb1; obtain ⟨⟨x0, x1⟩, -⟩ := pk2 HB.out.x; obtain ⟨⟨y0, y1⟩, -⟩ := pk2 HB.out.y; obtain ⟨⟨m0, m1, m2, m3⟩, -⟩ := pkM HB.out.m; obtain ⟨⟨r0, r1⟩, k0, k1⟩ := pk2 HB.out.r; obtain ⟨⟨s0, s1⟩, k2, k3⟩ := pk2 HB.out.s))
    exact bodyPost_ret (results_acc4 (g := w.heap.size + 3) (k := w.heap.size + 4) rfl rfl rfl rfl rfl (st22 (by omega) HB.out.r HB.out.s _ _ _ _).1 (st22 (by omega) HB.out.r HB.out.s _ _ _ _).2) rfl (BuyPost.nil (tn2 (tn2 HB.out.below (by omega) _ _) (by omega) _ _))
  by_cases he1 : e1 = 0
  rotate_left 1
  · have e : R = (Ac.zero, Ac.zero, [], e1) := by rw [← HR.out, if_pos rfl, if_neg he1]
    subst e
    have he1' : (e1 != 0) = true := by simpa using he1
    have he1'' : ¬ e1 = 0 := he1
    go_enter Tryd.func22, Tryd.ntmps22
    go_wp2_with (first
      | (go_at_call 38; (with_reducible refine (GV.out _ HB.out.below).mono ?_); rintro e w4 ⟨v4, rfl, hF4, hb4⟩; have HF4 : Veil (FreshE elS (w.heap.size + 5) _ _ _) := ⟨hF4.base (by simp; omega)⟩; have HP : Veil _ := ⟨And.intro ((hb4.block _ (lt_of_heap HP.out.1)).trans HP.out.1) ((hb4.block _ (lt_of_heap HP.out.2)).trans HP.out.2)⟩; have HB : Veil _ := ⟨HB.out.after hb4⟩; obtain ⟨p4, c4, ev4, -, -⟩ := hF4.form; subst ev4; clear hb4 hF4; obtain ⟨⟨r0, r1⟩, k0, k1⟩ := pk2 HB.out.r; obtain ⟨⟨s0, s1⟩, k2, k3⟩ := pk2 HB.out.s; obtain ⟨⟨u0, u1⟩, -⟩ := pk2 HP.out.1; obtain ⟨⟨u2, u3⟩, -⟩ := pk2 HP.out.2)
      | (go_at_call 41; (with_reducible refine (PY.out _).mono ?_); rintro e w2 ⟨rfl, hb2⟩; have HP : Veil (((w2.alloc (.cells #[.int .i64 bw, .int .i64 bb] 37)).alloc (.cells #[.int .i64 dw, .int .i64 db] 37)).heap[w2.heap.size]? = some (.cells #[.int .i64 bw, .int .i64 bb] 37 (0, 0)) ∧ ((w2.alloc (.cells #[.int .i64 bw, .int .i64 bb] 37)).alloc (.cells #[.int .i64 dw, .int .i64 db] 37)).heap[w2.heap.size + 1]? = some (.cells #[.int .i64 dw, .int .i64 db] 37 (0, 0))) := ⟨two_boxes w2 bw bb dw db⟩; have HB : Veil _ := ⟨(HB.out.after hb2).after (below_al (below_al (Below.refl w2.heap.size w2) (.cells #[.int .i64 bw, .int .i64 bb] 37)) (.cells #[.int .i64 dw, .int .i64 db] 37))⟩; have hlt : w.heap.size + 4 < w2.heap.size := (by have h1 := lt_of_heap HB1.out.s; have h2 := hb2.size; omega); clear hb2; obtain ⟨⟨x0, x1⟩, -⟩ := pk2 HB.out.x; obtain ⟨⟨y0, y1⟩, -⟩ := pk2 HB.out.y; obtain ⟨⟨m0, m1, m2, m3⟩, -⟩ := pkM HB.out.m; obtain ⟨⟨r0, r1⟩, k0, k1⟩ := pk2 HB.out.r; obtain ⟨⟨s0, s1⟩, k2, k3⟩ := pk2 HB.out.s)
      | (go_at_call 15; (with_reducible refine (RR.out _).mono ?_); rintro e w1 ⟨rfl, hb1⟩; have HB : Veil _ := ⟨HB0.out.after hb1⟩; have HB1 : Veil _ := ⟨HB0.out.after hb1⟩; clear hb1; obtain ⟨⟨x0, x1⟩, -⟩ := pk2 HB.out.x; obtain ⟨⟨y0, y1⟩, -⟩ := pk2 HB.out.y; obtain ⟨⟨m0, m1, m2, m3⟩, -⟩ := pkM HB.out.m; obtain ⟨⟨r0, r1⟩, k0, k1⟩ := pk2 HB.out.r; obtain ⟨⟨s0, s1⟩, k2, k3⟩ := pk2 HB.out.s))
    exact bodyPost_ret (results_acc4 (g := w.heap.size + 3) (k := w.heap.size + 4) rfl rfl rfl rfl rfl (st22 (by omega) HB.out.r HB.out.s _ _ _ _).1 (st22 (by omega) HB.out.r HB.out.s _ _ _ _).2) rfl (BuyPost.nil (tn2 (tn2 HB.out.below (by omega) _ _) (by omega) _ _))
  subst he1
  by_cases he2 : e2 = 0
  rotate_left 1
  · have e : R = (Ac.zero, Ac.zero, [], e2) := by rw [← HR.out, if_pos rfl, if_pos rfl, if_neg he2]
    subst e
    have he2' : (e2 != 0) = true := by simpa using he2
    have he2'' : ¬ e2 = 0 := he2
    go_enter Tryd.func22, Tryd.ntmps22
    go_wp2_with (first
      | (go_at_call 38; (with_reducible refine (GV.out _ HB.out.below).mono ?_); rintro e w4 ⟨v4, rfl, hF4, hb4⟩; have HF4 : Veil (FreshE elS (w.heap.size + 5) _ _ _) := ⟨hF4.base (by simp; omega)⟩; have HP : Veil _ := ⟨And.intro ((hb4.block _ (lt_of_heap HP.out.1)).trans HP.out.1) ((hb4.block _ (lt_of_heap HP.out.2)).trans HP.out.2)⟩; have HB : Veil _ := ⟨HB.out.after hb4⟩; obtain ⟨p4, c4, ev4, -, -⟩ := hF4.form; subst ev4; clear hb4 hF4; obtain ⟨⟨r0, r1⟩, k0, k1⟩ := pk2 HB.out.r; obtain ⟨⟨s0, s1⟩, k2, k3⟩ := pk2 HB.out.s; obtain ⟨⟨u0, u1⟩, -⟩ := pk2 HP.out.1; obtain ⟨⟨u2, u3⟩, -⟩ := pk2 HP.out.2)
      | (go_at_call 41; (with_reducible refine (PY.out _).mono ?_); rintro e w2 ⟨rfl, hb2⟩; have HP : Veil (((w2.alloc (.cells #[.int .i64 bw, .int .i64 bb] 37)).alloc (.cells #[.int .i64 dw, .int .i64 db] 37)).heap[w2.heap.size]? = some (.cells #[.int .i64 bw, .int .i64 bb] 37 (0, 0)) ∧ ((w2.alloc (.cells #[.int .i64 bw, .int .i64 bb] 37)).alloc (.cells #[.int .i64 dw, .int .i64 db] 37)).heap[w2.heap.size + 1]? = some (.cells #[.int .i64 dw, .int .i64 db] 37 (0, 0))) := ⟨two_boxes w2 bw bb dw db⟩; have HB : Veil _ := ⟨(HB.out.after hb2).after (below_al (below_al (Below.refl w2.heap.size w2) (.cells #[.int .i64 bw, .int .i64 bb] 37)) (.cells #[.int .i64 dw, .int .i64 db] 37))⟩; have hlt : w.heap.size + 4 < w2.heap.size := (by have h1 := lt_of_heap HB1.out.s; have h2 := hb2.size; omega); clear hb2; obtain ⟨⟨x0, x1⟩, -⟩ := pk2 HB.out.x; obtain ⟨⟨y0, y1⟩, -⟩ := pk2 HB.out.y; obtain ⟨⟨m0, m1, m2, m3⟩, -⟩ := pkM HB.out.m; obtain ⟨⟨r0, r1⟩, k0, k1⟩ := pk2 HB.out.r; obtain ⟨⟨s0, s1⟩, k2, k3⟩ := pk2 HB.out.s)
      | (go_at_call 15; (with_reducible refine (RR.out _).mono ?_); rintro e w1 ⟨rfl, hb1⟩; have HB : Veil _ := ⟨HB0.out.after hb1⟩; have HB1 : Veil _ := ⟨HB0.out.after hb1⟩; clear hb1; obtain ⟨⟨x0, x1⟩, -⟩ := pk2 HB.out.x; obtain ⟨⟨y0, y1⟩, -⟩ := pk2 HB.out.y; obtain ⟨⟨m0, m1, m2, m3⟩, -⟩ := pkM HB.out.m; obtain ⟨⟨r0, r1⟩, k0, k1⟩ := pk2 HB.out.r; obtain ⟨⟨s0, s1⟩, k2, k3⟩ := pk2 HB.out.s))
    exact bodyPost_ret (results_acc4 (g := w.heap.size + 3) (k := w.heap.size + 4) rfl rfl rfl rfl rfl (st22 (by omega) HB.out.r HB.out.s _ _ _ _).1 (st22 (by omega) HB.out.r HB.out.s _ _ _ _).2) rfl (BuyPost.nil (tn2 (tn2 HB.out.below (by omega) _ _) (by omega) _ _))
  subst he2
  have e : R = (⟨bw, bb⟩, ⟨dw, db⟩, T, 0) := by rw [← HR.out, if_pos rfl, if_pos rfl, if_pos rfl]
  subst e
  go_enter Tryd.func22, Tryd.ntmps22
  go_wp2_with (first
    | (go_at_call 38; (with_reducible refine (GV.out _ HB.out.below).mono ?_); rintro e w4 ⟨v4, rfl, hF4, hb4⟩; have HF4 : Veil (FreshE elS (w.heap.size + 5) _ _ _) := ⟨hF4.base (by simp; omega)⟩; have HP : Veil _ := ⟨And.intro ((hb4.block _ (lt_of_heap HP.out.1)).trans HP.out.1) ((hb4.block _ (lt_of_heap HP.out.2)).trans HP.out.2)⟩; have HB : Veil _ := ⟨HB.out.after hb4⟩; obtain ⟨p4, c4, ev4, -, -⟩ := hF4.form; subst ev4; clear hb4 hF4; obtain ⟨⟨r0, r1⟩, k0, k1⟩ := pk2 HB.out.r; obtain ⟨⟨s0, s1⟩, k2, k3⟩ := pk2 HB.out.s; obtain ⟨⟨u0, u1⟩, -⟩ := pk2 HP.out.1; obtain ⟨⟨u2, u3⟩, -⟩ := pk2 HP.out.2)
    | (go_at_call 41; (with_reducible refine (PY.out _).mono ?_); rintro e w2 ⟨rfl, hb2⟩; have HP : Veil (((w2.alloc (.cells #[.int .i64 bw, .int .i64 bb] 37)).alloc (.cells #[.int .i64 dw, .int .i64 db] 37)).heap[w2.heap.size]? = some (.cells #[.int .i64 bw, .int .i64 bb] 37 (0, 0)) ∧ ((w2.alloc (.cells #[.int .i64 bw, .int .i64 bb] 37)).alloc (.cells #[.int .i64 dw, .int .i64 db] 37)).heap[w2.heap.size + 1]? = some (.cells #[.int .i64 dw, .int .i64 db] 37 (0, 0))) := ⟨two_boxes w2 bw bb dw db⟩; have HB : Veil _ := ⟨(HB.out.after hb2).after (below_al (below_al (Below.refl w2.heap.size w2) (.cells #[.int .i64 bw, .int .i64 bb] 37)) (.cells #[.int .i64 dw, .int .i64 db] 37))⟩; have hlt : w.heap.size + 4 < w2.heap.size := (by have h1 := lt_of_heap HB1.out.s; have h2 := hb2.size; omega); clear hb2; obtain ⟨⟨x0, x1⟩, -⟩ := pk2 HB.out.x; obtain ⟨⟨y0, y1⟩, -⟩ := pk2 HB.out.y; obtain ⟨⟨m0, m1, m2, m3⟩, -⟩ := pkM HB.out.m; obtain ⟨⟨r0, r1⟩, k0, k1⟩ := pk2 HB.out.r; obtain ⟨⟨s0, s1⟩, k2, k3⟩ := pk2 HB.out.s)
    | (go_at_call 15; (with_reducible refine (RR.out _).mono ?_); rintro e w1 ⟨rfl, hb1⟩; have HB : Veil _ := ⟨HB0.out.after hb1⟩; have HB1 : Veil _ := ⟨HB0.out.after hb1⟩; clear hb1; obtain ⟨⟨x0, x1⟩, -⟩ := pk2 HB.out.x; obtain ⟨⟨y0, y1⟩, -⟩ := pk2 HB.out.y; obtain ⟨⟨m0, m1, m2, m3⟩, -⟩ := pkM HB.out.m; obtain ⟨⟨r0, r1⟩, k0, k1⟩ := pk2 HB.out.r; obtain ⟨⟨s0, s1⟩, k2, k3⟩ := pk2 HB.out.s))
  obtain ⟨b6, h6⟩ : ∃ b, w.heap.size + 1 + 1 + 1 = b := ⟨_, rfl⟩
  obtain ⟨b7, h7⟩ : ∃ b, w.heap.size + 1 + 1 + 1 + 1 = b := ⟨_, rfl⟩
  obtain ⟨b11, h11⟩ : ∃ b, w2.heap.size = b := ⟨_, rfl⟩
  obtain ⟨b13, h13⟩ : ∃ b, w2.heap.size + 1 = b := ⟨_, rfl⟩
  have HR6 : Veil (w4.heap[b6]? = some (.cells #[.int .i64 0, .int .i64 0] 37 (0, 0)) ∧ w4.heap[b7]? = some (.cells #[.int .i64 0, .int .i64 0] 37 (0, 0)) ∧ w.heap.size ≤ b6 ∧ w.heap.size ≤ b7 ∧ Below w.heap.size w w4) := ⟨by rw [← h6]; exact HB.out.r, by rw [← h7]; exact HB.out.s, by omega, by omega, HB.out.below⟩
  have HX5 : Veil (w4.heap[b13]? = some (.cells #[.int .i64 dw, .int .i64 db] 37 (0, 0)) ∧ w4.heap[b11]? = some (.cells #[.int .i64 bw, .int .i64 bb] 37 (0, 0))) := ⟨by rw [← h13]; exact HP.out.2, by rw [← h11]; exact HP.out.1⟩
  have HF : Veil (FreshE elS (w.heap.size + 5) w4 (.slice p4 T.length c4) T ∧ ∀ k, (k = b6 ∨ k = b7) → k < w.heap.size + 5) := ⟨HF4.out, fun k hk => by omega⟩
  have n67 : b6 ≠ b7 := by omega
  have n611 : b6 ≠ b11 := by omega
  have n613 : b6 ≠ b13 := by omega
  have n711 : b7 ≠ b11 := by omega
  have n713 : b7 ≠ b13 := by omega
  rw [h7, h6, h13, h11]
  clear h6 h7 h11 h13 hlt x0 x1 y0 y1 m0 m1 m2 m3 r0 r1 k0 k1 s0 s1 k2 k3 u0 u1 u2 u3 HB HP HF4
  obtain ⟨⟨y0, y1⟩, f0, f1⟩ := pk2 HR6.out.1
  obtain ⟨⟨z0, z1⟩, g0, g1⟩ := pk2 HR6.out.2.1
  obtain ⟨⟨c0, c1⟩, -⟩ := pk2 HX5.out.2
  obtain ⟨⟨d0, d1⟩, -⟩ := pk2 HX5.out.1
  have HK : Veil (∀ W, Turned (fun k => k = b6 ∨ k = b7) w4 W → W.cell? ⟨b11, 0, none⟩ = some (.int .i64 bw) ∧ W.cell? ⟨b11, 1, none⟩ = some (.int .i64 bb) ∧ W.cell? ⟨b13, 0, none⟩ = some (.int .i64 dw) ∧ W.cell? ⟨b13, 1, none⟩ = some (.int .i64 db)) := ⟨fun W h => ⟨h.cell c0 (by dsimp only; omega), h.cell c1 (by dsimp only; omega), h.cell d0 (by dsimp only; omega), h.cell d1 (by dsimp only; omega)⟩⟩
  go_region_held3 (fun W => (W.cell? ⟨b11, 0, none⟩ = some (.int .i64 bw) ∧ W.cell? ⟨b11, 1, none⟩ = some (.int .i64 bb) ∧ W.cell? ⟨b13, 0, none⟩ = some (.int .i64 dw) ∧ W.cell? ⟨b13, 1, none⟩ = some (.int .i64 db))) (first | assumption | exact HK.out _ (Turned.refl _ _).drew | exact HK.out _ (tu1 w4 b6 b7 _ _).drew | exact HK.out _ (tu2 w4 b6 b7 _ _ _ _).drew) (fail)
  all_goals
    go_wp2
    refine bodyPost_ret (results_acc4 (g := b6) (k := b7) rfl rfl rfl rfl rfl (st22 n67 HR6.out.1 HR6.out.2.1 _ _ _ _).1 (st22 n67 HR6.out.1 HR6.out.2.1 _ _ _ _).2) rfl ⟨_, rfl, (HF.out.1.turned (tu2 w4 b6 b7 _ _ _ _).drew HF.out.2).base (Nat.le_add_right _ _), (tn2 (tn2 HR6.out.2.2.2.2 HR6.out.2.2.1 _ _) HR6.out.2.2.2.1 _ _).drew⟩
end Go.Proofs.YtckkiilbabbeaaaDoor
