/- Mail, by the program: numbers, Parse. -/
import Derived.Test.YtfjjodkapofgjaaGreatDoorSh
import Derived.Test.YtfjjodkapofgjaaGreatDoorKK0
import Derived.Test.YtfjjodkapofgjaaGreatDoorKZ3
namespace Go.Proofs.YtfjjodkapofgjaaGreatDoor
open Go Go.RowKit Sm
attribute [local go_sem] Oper.semAt_some

theorem ml_zeros (n : Nat) (hn : n ≤ 1000) (w : World) : Calls Tryz.prog 46 #[.string ⟨#[0]⟩, .int .i64 (n : Int)] w fun e w' => e = .returned (.string ⟨(List.replicate n 0).toArray⟩) ∧ Below w.heap.size w w' := by
  have h := Tryz.strings_Repeat ⟨#[0]⟩ n w (by omega) (by simp [ByteArray.size]; omega)
  have e : Lib.repeatL ([0] : List UInt8) n = List.replicate n 0 := by
    have := Lib.repeatL_replicate 0 1 n
    simpa using this
  rw [show (⟨#[0]⟩ : ByteArray).data.toList = [0] from rfl, e] at h
  exact h
theorem getB_zeros (t : List UInt8) : ∀ n, getB (List.replicate n 0 ++ t) = getB t
  | 0 => by simp
  | n + 1 => by
    have h := getB_zeros t n
    rw [List.replicate_succ, List.cons_append]
    unfold getB at h ⊢
    rw [List.foldl_cons, show shl64 0 0 = 0 from rfl]
    exact h
theorem parse_eight (q : List UInt8) (h : q.length = 8) : parseR q = if getB q ≤ 1152921504606846976 then ([(getB q : Int)], 0) else ([], 110) := by
  have e : eightsM q = [getB q] := by
    have := eightsM_cons q [] h
    rw [List.append_nil] at this
    rw [this]
    rfl
  unfold parseR isM
  rw [e, h]
  by_cases hc : getB q ≤ 1152921504606846976
  · rw [if_pos (by simp [hc]), if_pos hc]; rfl
  · rw [if_neg (by simp; omega), if_neg hc]
def mszs : List Nat := [4, 8, 2, 8]
def moff (k : Nat) : Nat := (mszs.take k).foldl (· + ·) 0
def numS (s : List UInt8) : List Int := [(seg s 0 4 : Int), (seg s 4 8 : Int), (seg s 12 2 : Int), (seg s 14 8 : Int)]
def okS (s : List UInt8) : Bool := decide (s.length = 22) && (numS s).all amt
theorem numS_len (s : List UInt8) : (numS s).length = 4 := rfl
theorem moff_next (k : Nat) (h : k < 4) : moff (k + 1) = moff k + mszs.getD k 0 ∧ 1 ≤ mszs.getD k 0 ∧ mszs.getD k 0 ≤ 8 ∧ moff k + mszs.getD k 0 ≤ 22 := by
  match k, h with
  | 0, _ => decide
  | 1, _ => decide
  | 2, _ => decide
  | 3, _ => decide
theorem numS_at (s : List UInt8) (k : Nat) (h : k < 4) : (numS s).getD k 0 = (seg s (moff k) (mszs.getD k 0) : Int) := by
  match k, h with
  | 0, _ => rfl
  | 1, _ => rfl
  | 2, _ => rfl
  | 3, _ => rfl
theorem numS_take (s : List UInt8) (k : Nat) (h : k < 4) : (numS s).take (k + 1) = (numS s).take k ++ [(seg s (moff k) (mszs.getD k 0) : Int)] := by
  rw [List.take_succ_eq_append_getElem (show k < (numS s).length from h), ← numS_at s k h]
  simp [List.getD, show k < (numS s).length from h]
theorem okS_short (s : List UInt8) (h : s.length ≠ 22) : okS s = false := by unfold okS; rw [decide_eq_false h]; rfl
theorem okS_bad (s : List UInt8) (k : Nat) (h : k < 4) (hb : ¬ seg s (moff k) (mszs.getD k 0) ≤ 1152921504606846976) : okS s = false := by
  have e : (numS s).all amt = false := by
    rw [List.all_eq_false]
    refine ⟨(numS s)[k]'h, List.getElem_mem _, ?_⟩
    have := numS_at s k h
    have e2 : (numS s).getD k 0 = (numS s)[k]'h := by simp only [List.getD]; rw [List.getElem?_eq_getElem (show k < (numS s).length from h)]; rfl
    rw [e2] at this
    rw [this, amt_iff]
    omega
  unfold okS
  rw [e, Bool.and_false]
theorem okS_good (s : List UInt8) (h : s.length = 22) (ha : (numS s).all amt = true) : okS s = true := by unfold okS; rw [decide_eq_true h, ha]; rfl
theorem szs_cell (w : World) (k : Nat) (h : k < 4) : (w.alloc (.cells #[.int .i64 4, .int .i64 8, .int .i64 2, .int .i64 8] 3)).cell? ⟨w.heap.size, k, none⟩ = some (.int .i64 (mszs.getD k 0 : Nat)) := by
  match k, h with
  | 0, _ => exact cell_whole (cur := [.int .i64 4, .int .i64 8, .int .i64 2, .int .i64 8]) (heap_alloc_new _ _) 0
  | 1, _ => exact cell_whole (cur := [.int .i64 4, .int .i64 8, .int .i64 2, .int .i64 8]) (heap_alloc_new _ _) 1
  | 2, _ => exact cell_whole (cur := [.int .i64 4, .int .i64 8, .int .i64 2, .int .i64 8]) (heap_alloc_new _ _) 2
  | 3, _ => exact cell_whole (cur := [.int .i64 4, .int .i64 8, .int .i64 2, .int .i64 8]) (heap_alloc_new _ _) 3
def NumPost (s : List UInt8) (w : World) (e : Ending) (w' : World) : Prop := ∃ v, e = .returned v ∧ ((okS s = true ∧ ∃ p c, v = .slice p 4 c ∧ Els elL w' p (numS s)) ∨ (okS s = false ∧ v = .slice none 0 0)) ∧ Below w.heap.size w w'

set_option maxRecDepth 20000 in
set_option maxHeartbeats 4000000 in
theorem mlnumbers_any (s : List UInt8) (hs : s.length ≤ 1000) (W : World) (g : Nat) (hg : g = W.heap.size) :
    Calls Tryz.prog 28 #[.string ⟨s.toArray⟩, .slice (some ⟨g, 0, none⟩) 4 4] (W.alloc (.cells #[.int .i64 4, .int .i64 8, .int .i64 2, .int .i64 8] 3)) (NumPost s W) := by
  have HCl : Veil _ := ⟨szs_cell W⟩
  have hgl : g < (W.alloc (.cells #[.int .i64 4, .int .i64 8, .int .i64 2, .int .i64 8] 3)).heap.size := by rw [hg, World.size_alloc]; omega
  have HBw : Veil (Below W.heap.size W (W.alloc (.cells #[.int .i64 4, .int .i64 8, .int .i64 2, .int .i64 8] 3))) := ⟨below_al (Below.refl _ _) _⟩
  have HGW : Veil _ := ⟨hg⟩
  rw [← hg] at HCl
  clear hg
  revert HCl hgl HBw
  generalize W.alloc (.cells #[.int .i64 4, .int .i64 8, .int .i64 2, .int .i64 8] 3) = w
  intro HCl hgl HBw
  obtain ⟨R0, hR0⟩ : ∃ R0, s = R0 := ⟨_, rfl⟩
  have HR0 : Veil _ := ⟨hR0⟩
  rw [show (Value.string ⟨s.toArray⟩) = Value.string ⟨R0.toArray⟩ by rw [hR0]]
  clear hR0
  go_enter Tryz.func28, Tryz.ntmps28
  go_wp2
  go_loopw [0, 5, 12] (fun r l i wr => ∃ (k : Nat) (R : List UInt8), k ≤ 4 ∧ r = .string ⟨R.toArray⟩ ∧ i = .int .i64 k ∧ Veil (R = s.drop (moff k) ∧ moff k ≤ s.length ∧ ((numS s).take k).all amt = true) ∧ Veil (OwnE elL wr w.heap.size l ((numS s).take k) ∧ Below w.heap.size w wr)) (fun _ _ i _ => 4 - (intOf i).toNat)
  case atStart => exact ⟨0, R0, Nat.zero_le _, rfl, rfl, ⟨HR0.out.symm, Nat.zero_le _, rfl⟩, ⟨OwnE.nil _ _ _, Below.refl _ _⟩⟩
  case round =>
    obtain ⟨k, Rr, hk, rfl, rfl, HK, HO⟩ := hrel
    by_cases hlt : k < 4
    · have c1 := (HO.out.2.cell (p := ⟨g, k, none⟩) hgl).trans (HCl.out k hlt)
      obtain ⟨hoff, hsz1, hsz8, h22⟩ := moff_next k hlt
      have HNT : Veil _ := ⟨numS_take s k hlt⟩
      have HBad : Veil _ := ⟨okS_bad s k hlt⟩
      obtain ⟨hRr, hol, hall⟩ := HK.out
      have hRl : Rr.length = s.length - moff k := by rw [hRr, List.length_drop]
      have hseg : seg s (moff k) (mszs.getD k 0) = getB (Rr.take (mszs.getD k 0)) := by rw [hRr]; rfl
      rw [hseg] at HNT HBad
      have HAl : Veil (getB (Rr.take (mszs.getD k 0)) ≤ 1152921504606846976 → ((numS s).take (k + 1)).all amt = true) := ⟨fun h => by
        rw [HNT.out, List.all_append, hall, List.all_cons, (amt_iff _).2 (by omega)]; rfl⟩
      have HRd : Veil (Rr.drop (mszs.getD k 0) = s.drop (moff (k + 1))) := ⟨by rw [hRr, List.drop_drop, hoff]⟩
      have hR1 : Rr.length ≤ 1000 := by omega
      have HL4 : Veil (((numS s).take k).length ≤ 4) := ⟨by rw [List.length_take]; exact Nat.le_trans (Nat.min_le_left _ _) hk⟩
      clear hRr hseg hall HK
      revert c1 hoff hsz1 hsz8 h22 HNT HBad HAl HRd HO HL4
      generalize mszs.getD k 0 = sz
      generalize hL : (numS s).take k = L
      intro HO c1 hoff hsz1 hsz8 h22 HNT HBad HAl HRd HL4
      have HOf : Veil (moff (k + 1) = moff k + sz ∧ moff k + sz ≤ 22 ∧ moff k ≤ s.length ∧ Rr.length = s.length - moff k) := ⟨hoff, h22, hol, hRl⟩
      clear hoff h22 hol hL hRl
      by_cases hle : sz ≤ Rr.length
      · obtain ⟨d, hd⟩ : ∃ d : Nat, d + sz = 8 := ⟨8 - sz, by omega⟩
        have HZ : Veil (∀ w, Calls Tryz.prog 46 #[.string ⟨#[0]⟩, .int .i64 (8 - (sz : Int))] w fun e w' => e = .returned (.string ⟨(List.replicate d 0).toArray⟩) ∧ Below w.heap.size w w') := ⟨fun w => by
          have := ml_zeros d (by omega) w
          rwa [show (d : Int) = 8 - (sz : Int) by omega] at this⟩
        have HX5 : Veil ((⟨Rr.toArray⟩ : ByteArray).extract 0 sz = ⟨(Rr.take sz).toArray⟩) := ⟨by rw [extM]; simp⟩
        have HP : Veil _ := ⟨fun w => moparse_any (List.replicate d 0 ++ Rr.take sz) (by rw [List.length_append, List.length_replicate, List.length_take]; omega) w⟩
        have hpe := parse_eight (List.replicate d 0 ++ Rr.take sz) (by rw [List.length_append, List.length_replicate, List.length_take]; omega)
        rw [getB_zeros] at hpe
        have HPE : Veil ((getB (Rr.take sz) ≤ 1152921504606846976 ∧ (parseR (List.replicate d 0 ++ Rr.take sz)) = ([(getB (Rr.take sz) : Int)], 0)) ∨ (¬ getB (Rr.take sz) ≤ 1152921504606846976 ∧ (parseR (List.replicate d 0 ++ Rr.take sz)) = ([], 110))) := ⟨by
          by_cases hc : getB (Rr.take sz) ≤ 1152921504606846976
          · exact .inl ⟨hc, by rw [hpe, if_pos hc]⟩
          · exact .inr ⟨hc, by rw [hpe, if_neg hc]⟩⟩
        clear hpe
        revert HP HPE
        generalize parseR (List.replicate d 0 ++ Rr.take sz) = pr
        obtain ⟨X, rc⟩ := pr
        intro HP HPE
        dsimp only at HP
        have hd8 : d + sz ≤ 8 := Nat.le_of_eq hd
        clear hd
        go_wp2
        refine region_new [.is (.int .i64 (sz : Int)), .is (.int .i64 (8 - (sz : Int))), .is (.string ⟨(List.replicate d (0 : UInt8)).toArray⟩), .is (.string ⟨Rr.toArray⟩), .is (.int .i64 (sz : Int)), .is (.string ⟨(Rr.take sz).toArray⟩), .is (.string ⟨(List.replicate d (0 : UInt8) ++ Rr.take sz).toArray⟩), .gen (fun v W => ∃ p c, v = .tuple #[.slice p X.length c, .int .i64 rc] ∧ Els elL W p X) (fun v W W' hb ⟨p, c, h, hz⟩ => ⟨p, c, h, hz.below hb⟩), .gen (fun v W => ∃ p c, v = .tuple #[.slice p X.length c, .int .i64 rc] ∧ Els elL W p X) (fun v W W' hb ⟨p, c, h, hz⟩ => ⟨p, c, h, hz.below hb⟩), .gen (fun v W => ∃ p c, v = .slice p X.length c ∧ Els elL W p X) (fun v W W' hb ⟨p, c, h, hz⟩ => ⟨p, c, h, hz.below hb⟩), .is (.int .i64 rc), .gen (fun v W => ∃ p c, v = .slice p X.length c ∧ Els elL W p X) (fun v W W' hb ⟨p, c, h, hz⟩ => ⟨p, c, h, hz.below hb⟩), .is (.int .i64 rc)]
          [[], [(0, 21)], [(1, 22)], [], [], [(3, 24), (4, 25)], [(2, 23), (5, 26)], [(6, 27)], [(7, 28)], [(8, 20)], [(8, 20)], [(9, 29)], [(10, 30)]]
          [[], [0], [1], [], [], [3, 4], [2, 5], [2, 6], [7], [8], [8], [0, 1, 2, 3, 4, 5, 6, 7, 8, 9], [0, 1, 2, 3, 4, 5, 6, 7, 8, 9, 10, 11]]
          [(0, 21), (1, 22), (2, 23), (3, 24), (4, 25), (5, 26), (6, 27), (7, 28), (8, 20), (9, 29), (10, 30), (11, 8), (12, 9)] rfl (by kernel_rfl) ⟨?_, ?_, ?_, ?_, ?_, ?_, ?_, ?_, ?_, ?_, ?_, ?_, ?_, trivial⟩ ?_
        · intro vals W hB _
          dsimp only [putsL, slotOf]
          go_wp2
          exact ⟨rfl, Below.refl _ _, rfl⟩
        · intro vals W hB ⟨h0, _⟩
          have h0 : vals 0 = _ := h0
          dsimp only [putsL, slotOf]
          rw [h0]
          go_wp2
          exact ⟨rfl, Below.refl _ _, rfl⟩
        · intro vals W hB ⟨h1, _⟩
          have h1 : vals 1 = _ := h1
          dsimp only [putsL, slotOf]
          rw [h1]
          go_wp2_with ((go_at_call 46; refine (HZ.out _).mono ?_; rintro e w4 ⟨rfl, hb4⟩))
          exact ⟨rfl, hb4, rfl⟩
        · intro vals W hB _
          dsimp only [putsL, slotOf]
          go_wp2
          exact ⟨rfl, Below.refl _ _, rfl⟩
        · intro vals W hB _
          dsimp only [putsL, slotOf]
          go_wp2
          exact ⟨rfl, Below.refl _ _, rfl⟩
        · intro vals W hB ⟨h3, h4, _⟩
          have h3 : vals 3 = _ := h3
          have h4 : vals 4 = _ := h4
          dsimp only [putsL, slotOf]
          rw [h3, h4]
          go_wp2
          exact ⟨rfl, Below.refl _ _, congrArg Value.string HX5.out⟩
        · intro vals W hB ⟨h2, h5, _⟩
          have h2 : vals 2 = _ := h2
          have h5 : vals 5 = _ := h5
          dsimp only [putsL, slotOf]
          rw [h2, h5]
          go_wp2
          exact ⟨rfl, Below.refl _ _, congrArg Value.string (str_add _ _)⟩
        · intro vals W hB ⟨h2, h6, _⟩
          have h6 : vals 6 = _ := h6
          dsimp only [putsL, slotOf]
          rw [h6]
          go_wp2_with ((go_at_call 45; refine (HP.out _).mono ?_; rintro e w4 ⟨p7, c7, rfl, hel7, hle7, hb4⟩))
          exact ⟨rfl, hb4, ⟨p7, c7, rfl, hel7⟩⟩
        · intro vals W hB ⟨⟨pu7, cu7, h7, hz7⟩, _⟩
          have h7 : vals 7 = _ := h7
          dsimp only [putsL, slotOf]
          rw [h7]
          go_wp2
          exact ⟨rfl, Below.refl _ _, ⟨pu7, ⟨cu7, rfl⟩, hz7⟩⟩
        · intro vals W hB ⟨⟨pu8, cu8, h8, hz8⟩, _⟩
          have h8 : vals 8 = _ := h8
          dsimp only [putsL, slotOf]
          rw [h8]
          go_wp2
          exact ⟨rfl, Below.refl _ _, ⟨pu8, ⟨cu8, rfl⟩, hz8⟩⟩
        · intro vals W hB ⟨⟨pu8, cu8, h8, hz8⟩, _⟩
          have h8 : vals 8 = _ := h8
          dsimp only [putsL, slotOf]
          rw [h8]
          go_wp2
          exact ⟨rfl, Below.refl _ _, rfl⟩
        · intro vals W hB ⟨h0, h1, h2, h3, h4, h5, h6, ⟨pu7, cu7, h7, hz7⟩, ⟨pu8, cu8, h8, hz8⟩, ⟨pu9, cu9, h9, hz9⟩, _⟩
          have h9 : vals 9 = _ := h9
          dsimp only [putsL, slotOf]
          rw [h9]
          go_wp2
          exact ⟨rfl, Below.refl _ _, ⟨pu9, ⟨cu9, rfl⟩, hz9⟩⟩
        · intro vals W hB ⟨h0, h1, h2, h3, h4, h5, h6, ⟨pu7, cu7, h7, hz7⟩, ⟨pu8, cu8, h8, hz8⟩, ⟨pu9, cu9, h9, hz9⟩, h10, ⟨pu11, cu11, h11, hz11⟩, _⟩
          have h10 : vals 10 = _ := h10
          dsimp only [putsL, slotOf]
          rw [h10]
          go_wp2
          exact ⟨rfl, Below.refl _ _, rfl⟩
        rintro vals W hB ⟨q0, q1, q2, q3, q4, q5, q6, ⟨pu7, cu7, q7, hz7⟩, ⟨pu8, cu8, q8, hz8⟩, ⟨pu9, cu9, q9, hz9⟩, q10, ⟨pu11, cu11, q11, hz11⟩, q12, -⟩
        have h0 : vals 0 = _ := q0
        have h1 : vals 1 = _ := q1
        have h2 : vals 2 = _ := q2
        have h3 : vals 3 = _ := q3
        have h4 : vals 4 = _ := q4
        have h5 : vals 5 = _ := q5
        have h6 : vals 6 = _ := q6
        have h7 : vals 7 = _ := q7
        have h8 : vals 8 = _ := q8
        have h9 : vals 9 = _ := q9
        have h10 : vals 10 = _ := q10
        have h11 : vals 11 = _ := q11
        have h12 : vals 12 = _ := q12
        dsimp only [putsL]
        rw [h0, h1, h2, h3, h4, h5, h6, h7, h8, h9, h10, h11, h12]
        clear h0 q0 h1 q1 h2 q2 h3 q3 h4 q4 h5 q5 h6 q6 h7 q7 h8 q8 h9 q9 h10 q10 h11 q11 h12 q12
        simp only [List.length_cons, List.length_nil, Nat.reduceAdd, List.drop_succ_cons, List.drop_zero, List.setIfInBounds_toArray, List.set_cons_succ, List.set_cons_zero]
        have HO2 : Veil _ := ⟨(⟨HO.out.1.below hB, bc_then HO.out.2 hB⟩ : _ ∧ _)⟩
        have HM : Veil _ := ⟨hz11⟩
        clear hB hz7 hz8 hz9 hz11
        by_cases hrc : rc = 0
        · subst hrc
          rcases HPE.out with ⟨hgb, hX⟩ | ⟨-, hX⟩
          rotate_left 1
          · exact absurd (congrArg Prod.snd hX) (by simp)
          have hX : X = [(getB (Rr.take sz) : Int)] := congrArg Prod.fst hX
          have HX : Veil _ := ⟨hX⟩
          have HGb : Veil _ := ⟨hgb⟩
          clear hX hgb
          have HXl : Veil (L.length + X.length ≤ 1000000) := ⟨by rw [HX.out]; have := HL4.out; simp only [List.length_cons, List.length_nil]; omega⟩
          go_wp2_with (at_builtin; refine wpList_append_els elL rfl (.tmp 33) (.tmp 34) rfl w.heap.size _ L X rfl HO2.out.1 pu11 cu11 rfl HM.out HXl.out HO2.out.2.size ?_; intro v' w9 hown hgrow hfrom)
          refine ⟨⟨k + 1, Rr.drop sz, by omega, ?_, by go_num, ⟨HRd.out, by have := HOf.out; omega, HAl.out HGb.out⟩, ⟨?_, ?_⟩⟩, ?_⟩
          · refine congrArg Value.string ?_
            rw [extM, List.take_of_length_le (by rw [List.length_drop]; omega)]
          · rw [HNT.out, ← HX.out]; exact hown
          · exact ownE_grown HO2.out.2 (Nat.le_refl _) HO2.out.1 hgrow
          · simp only [intOf]; omega
        · have HE : Veil (okS s = false) := ⟨by
            rcases HPE.out with ⟨-, hX⟩ | ⟨hgb, -⟩
            · exact absurd (congrArg Prod.snd hX) hrc
            · exact HBad.out hgb⟩
          clear HM
          go_wp2
          go_ret
          exact ⟨_, rfl, .inr ⟨HE.out, rfl⟩, HBw.out.trans (HO2.out.2.mono HBw.out.size)⟩
      · have HE : Veil (okS s = false) := ⟨okS_short s (by have := HOf.out; omega)⟩
        go_wp2
        go_ret
        exact ⟨_, rfl, .inr ⟨HE.out, rfl⟩, HBw.out.trans (HO.out.2.mono HBw.out.size)⟩
    · obtain rfl : k = 4 := by omega
      obtain ⟨hRr, hol, hall⟩ := HK.out
      have h22 : 22 ≤ s.length := hol
      rw [List.take_of_length_le (Nat.le_of_eq (numS_len s))] at hall HO
      obtain ⟨p, c, e5, hE, -⟩ := HO.out.1.form
      subst e5
      by_cases hnil : Rr = []
      · have HE : Veil (okS s = true) := ⟨okS_good s (by have h1 := congrArg List.length (hnil.symm.trans hRr); rw [List.length_drop, List.length_nil, show moff 4 = 22 from rfl] at h1; omega) hall⟩
        have HL : Veil _ := ⟨hE⟩
        subst hnil
        have hni : ([] : List UInt8).isEmpty = true := rfl
        clear hRr hall hE hol h22
        go_wp2
        go_ret
        exact ⟨_, rfl, .inl ⟨HE.out, p, c, rfl, HL.out⟩, HBw.out.trans (HO.out.2.mono HBw.out.size)⟩
      · have HE : Veil (okS s = false) := ⟨okS_short s (fun h => hnil (by rw [hRr]; exact List.drop_eq_nil_of_le (by rw [h]; decide)))⟩
        have hni : Rr.isEmpty = false := by simpa using hnil
        clear hRr hall hE hol h22 hnil
        go_wp2
        go_ret
        exact ⟨_, rfl, .inr ⟨HE.out, rfl⟩, HBw.out.trans (HO.out.2.mono HBw.out.size)⟩
/-- The boxes of Parse: the answer's, the mail's. -/
structure PsB (w A : World) (a b c d : Int) : Prop where
  r : A.heap[w.heap.size]? = some (.cells #[.int .u32 0, .int .i64 0, .int .u16 0, .int .i64 0] 30 (0, 0))
  m : A.heap[w.heap.size + 1]? = some (.cells #[.int .u32 a, .int .i64 b, .int .u16 c, .int .i64 d] 30 (0, 0))
  t : Below w.heap.size w A
theorem PsB.new (w : World) : PsB w ((w.alloc (.cells #[.int .u32 0, .int .i64 0, .int .u16 0, .int .i64 0] 30)).alloc (.cells #[.int .u32 0, .int .i64 0, .int .u16 0, .int .i64 0] 30)) 0 0 0 0 :=
  ⟨heap_alloc2_old _ _ _, heap_alloc2_new _ _ _, below_al (below_al (Below.refl _ _) _) _⟩
theorem PsB.after {w A A' : World} {a b c d : Int} (h : PsB w A a b c d) (hb : Below A.heap.size A A') : PsB w A' a b c d :=
  ⟨(hb.block _ (lt_of_heap h.r)).trans h.r, (hb.block _ (lt_of_heap h.m)).trans h.m, bc_then h.t hb⟩
theorem PsB.set {w A : World} {a b c d : Int} (h : PsB w A a b c d) (a' b' c' d' : Int) : PsB w ((((A.setCell ⟨w.heap.size + 1, 0, none⟩ (.int .u32 a')).setCell ⟨w.heap.size + 1, 1, none⟩ (.int .i64 b')).setCell ⟨w.heap.size + 1, 2, none⟩ (.int .u16 c')).setCell ⟨w.heap.size + 1, 3, none⟩ (.int .i64 d')) a' b' c' d' := by
  refine ⟨?_, stM h.m _ _ _ _, tnM h.t (Nat.le_succ _) _ _ _ _⟩
  rw [Below.heap_setCell _ _ _ _ (by dsimp only; omega), Below.heap_setCell _ _ _ _ (by dsimp only; omega), Below.heap_setCell _ _ _ _ (by dsimp only; omega), Below.heap_setCell _ _ _ _ (by dsimp only; omega)]
  exact h.r
theorem ret_mail {x y : Value} {c : Int} (h : x = y) : Ending.returned (.tuple #[x, .int .i64 c]) = Ending.returned (.tuple #[y, .int .i64 c]) := by rw [h]
theorem els4 {w : World} {p : Option Addr} {a0 a1 a2 a3 : Int} (h : Els elL w p [a0, a1, a2, a3]) : ∃ b o, p = some ⟨b, o, none⟩ ∧ (∀ W, Below w.heap.size w W → W.cell? ⟨b, o, none⟩ = some (.int .i64 a0) ∧ W.cell? ⟨b, o + 1, none⟩ = some (.int .i64 a1) ∧ W.cell? ⟨b, o + 2, none⟩ = some (.int .i64 a2) ∧ W.cell? ⟨b, o + 3, none⟩ = some (.int .i64 a3)) := by
  obtain ⟨b, o, hp, hr⟩ := h (by simp)
  have h0 : w.cell? ⟨b, o, none⟩ = some (.int .i64 a0) := hr 0 0 (by simp) (by decide)
  have h1 : w.cell? ⟨b, o + 1, none⟩ = some (.int .i64 a1) := hr 1 0 (by simp) (by decide)
  have h2 : w.cell? ⟨b, o + 2, none⟩ = some (.int .i64 a2) := hr 2 0 (by simp) (by decide)
  have h3 : w.cell? ⟨b, o + 3, none⟩ = some (.int .i64 a3) := hr 3 0 (by simp) (by decide)
  refine ⟨b, o, hp, fun W hb => ⟨?_, ?_, ?_, ?_⟩⟩
  · exact (hb.cell (World.block_lt_of_cell? _ _ h0)).trans h0
  · exact (hb.cell (World.block_lt_of_cell? _ _ h1)).trans h1
  · exact (hb.cell (World.block_lt_of_cell? _ _ h2)).trans h2
  · exact (hb.cell (World.block_lt_of_cell? _ _ h3)).trans h3
theorem okS_of (s : List UInt8) (h : okS s = true) : s.length = 22 ∧ mlOf s = ⟨seg s 0 4, seg s 4 8, seg s 12 2, seg s 14 8⟩ := by
  unfold okS numS at h
  rw [Bool.and_eq_true, decide_eq_true_iff] at h
  obtain ⟨h1, h2⟩ := h
  simp only [List.all_cons, List.all_nil, Bool.and_true, Bool.and_eq_true, amt_iff] at h2
  refine ⟨h1, ?_⟩
  unfold mlOf sgn
  rw [if_pos (by omega), if_pos (by omega)]
theorem okS_not (s : List UInt8) (h : okS s = false) : parseM s = (Ml.zero, 140) := by
  unfold parseM
  rw [if_neg]
  rintro ⟨h1, h2⟩
  have hk : okS s = true := by
    refine okS_good s h1 ?_
    obtain ⟨-, h3, h4, -⟩ := (rightM_iff _).1 h2
    have s1 := seg_lt s 0 4
    have s3 := seg_lt s 12 2
    have s2 := seg_lt s 4 8
    have s4 := seg_lt s 14 8
    rw [q4] at s1
    rw [q2] at s3
    rw [q8] at s2 s4
    unfold mlOf sgn at h3 h4
    dsimp only at h3 h4
    unfold numS
    simp only [List.all_cons, List.all_nil, Bool.and_true, Bool.and_eq_true, amt_iff]
    refine ⟨by omega, ?_, by omega, ?_⟩
    · split at h3 <;> omega
    · split at h4 <;> omega
  rw [h] at hk
  cases hk

set_option maxRecDepth 20000 in
set_option maxHeartbeats 4000000 in
theorem mlparse_any (s : List UInt8) (hs : s.length ≤ 1000) (w : World) : Calls Tryz.prog 11 #[.string ⟨s.toArray⟩] w fun e w' => e = .returned (.tuple #[(parseM s).1.v, .int .i64 (parseM s).2]) ∧ Below w.heap.size w w' := by
  have HNu : Veil _ := ⟨fun W g hg => mlnumbers_any s hs W g hg⟩
  have HP0 : Veil _ := ⟨PsB.new w⟩
  by_cases hok : okS s = true
  · obtain ⟨h22, hof⟩ := okS_of s hok
    have hR : parseM s = if rightM (mlOf s) = true then (mlOf s, 0) else (Ml.zero, 140) := by unfold parseM; simp [h22]
    rw [hR]
    have HRt : Veil _ := ⟨fun w => mlright_any (mlOf s) (mlOf_ok s) w⟩
    have hx := mlOf_ok s
    generalize rightM (mlOf s) = rt at HRt ⊢
    rw [hof] at HRt hx ⊢
    have hs0 := hx.src
    have hs2 := hx.item
    have HNv : Veil (∀ (e : Ending) (w w' : World), NumPost s w e w' → ∃ p c, e = .returned (.slice p 4 c) ∧ Els elL w' p [(seg s 0 4 : Int), (seg s 4 8 : Int), (seg s 12 2 : Int), (seg s 14 8 : Int)] ∧ Below w.heap.size w w') := ⟨by
      rintro e w w' ⟨v, rfl, h | h, hb⟩
      · obtain ⟨-, p, c, rfl, hE⟩ := h; exact ⟨p, c, rfl, hE, hb⟩
      · rw [hok] at h; exact absurd h.1 (by decide)⟩
    dsimp only at hs0 hs2
    clear hx hof hR hok h22
    revert HRt HNv hs0 hs2
    generalize seg s 0 4 = n0
    generalize seg s 4 8 = n1
    generalize seg s 12 2 = n2
    generalize seg s 14 8 = n3
    intro HRt hs0 hs2 HNv
    unfold Ml.v at HRt
    dsimp only at HRt
    obtain ⟨a0, e0⟩ : ∃ a0 : Int, (n0 : Int) = a0 := ⟨_, rfl⟩
    obtain ⟨a1, e1⟩ : ∃ a1 : Int, (n1 : Int) = a1 := ⟨_, rfl⟩
    obtain ⟨a2, e2⟩ : ∃ a2 : Int, (n2 : Int) = a2 := ⟨_, rfl⟩
    obtain ⟨a3, e3⟩ : ∃ a3 : Int, (n3 : Int) = a3 := ⟨_, rfl⟩
    have wr0 : IntKind.u32.wrap a0 = a0 := by rw [IntKind.wrap_u32]; omega
    have wr2 : IntKind.u16.wrap a2 = a2 := by rw [IntKind.wrap_u16]; omega
    have HFin : Veil ((⟨n0, n1, n2, n3⟩ : Ml).v = .agg #[.int .u32 a0, .int .i64 a1, .int .u16 a2, .int .i64 a3]) := ⟨by unfold Ml.v; dsimp only; rw [e0, e1, e2, e3]⟩
    rw [e0, e1, e2, e3] at HNv
    rw [e0, e1, e2, e3] at HRt
    clear e0 e1 e2 e3 hs0 hs2
    go_enter Tryz.func11, Tryz.ntmps11
    go_wp2
    refine wp_scope_ahead 0 rfl ?_
    go_wp2_with (go_at_call 28; refine (HNu.out _ _ (by simp)).mono ?_; rintro e w1 hpost; obtain ⟨p, c, rfl, hE, hb1⟩ := HNv.out _ _ _ hpost; have HP1 : Veil _ := ⟨HP0.out.after hb1⟩; obtain ⟨b, o, rfl, hE4⟩ := els4 hE; have HE4 : Veil _ := ⟨hE4⟩; clear hE hE4 hpost hb1)
    refine region_new [.is (.slice (some ⟨b, o, none⟩) 4 c), .is (.pointer (some ⟨b, o, none⟩)), .is (.int .i64 a0), .is (.int .u32 a0), .is (.slice (some ⟨b, o, none⟩) 4 c), .is (.pointer (some ⟨b, o + 1, none⟩)), .is (.int .i64 a1), .is (.slice (some ⟨b, o, none⟩) 4 c), .is (.pointer (some ⟨b, o + 2, none⟩)), .is (.int .i64 a2), .is (.int .u16 a2), .is (.slice (some ⟨b, o, none⟩) 4 c), .is (.pointer (some ⟨b, o + 3, none⟩)), .is (.int .i64 a3), .is (.agg #[.int .u16 a2, .int .i64 a3]), .is (.agg #[.int .u32 a0, .int .i64 a1, .int .u16 a2, .int .i64 a3])]
      [[], [(0, 12)], [(1, 13)], [(2, 14)], [], [(4, 16)], [(5, 17)], [], [(7, 19)], [(8, 20)], [(9, 21)], [], [(11, 23)], [(12, 24)], [(10, 22), (13, 25)], [(3, 15), (6, 18), (14, 26)]]
      [[], [0], [1], [2], [], [4], [5], [], [7], [8], [9], [], [11], [12], [10, 13], [3, 6, 14]]
      [(0, 12), (1, 13), (2, 14), (3, 15), (4, 16), (5, 17), (6, 18), (7, 19), (8, 20), (9, 21), (10, 22), (11, 23), (12, 24), (13, 25), (14, 26), (15, 27)] rfl (by kernel_rfl) ⟨?_, ?_, ?_, ?_, ?_, ?_, ?_, ?_, ?_, ?_, ?_, ?_, ?_, ?_, ?_, ?_, trivial⟩ ?_
    · intro vals W hB _
      dsimp only [putsL, slotOf]
      go_wp2
      exact ⟨rfl, Below.refl _ _, rfl⟩
    · intro vals W hB ⟨h0, _⟩
      have h0 : vals 0 = _ := h0
      dsimp only [putsL, slotOf]
      rw [h0]
      go_wp2
      exact ⟨rfl, Below.refl _ _, rfl⟩
    · intro vals W hB ⟨h1, _⟩
      have h1 : vals 1 = _ := h1
      obtain ⟨x0, x1, x2, x3⟩ := HE4.out W hB
      dsimp only [putsL, slotOf]
      rw [h1]
      go_wp2
      exact ⟨rfl, Below.refl _ _, rfl⟩
    · intro vals W hB ⟨h2, _⟩
      have h2 : vals 2 = _ := h2
      dsimp only [putsL, slotOf]
      rw [h2]
      go_wp2
      exact ⟨rfl, Below.refl _ _, rfl⟩
    · intro vals W hB _
      dsimp only [putsL, slotOf]
      go_wp2
      exact ⟨rfl, Below.refl _ _, rfl⟩
    · intro vals W hB ⟨h4, _⟩
      have h4 : vals 4 = _ := h4
      dsimp only [putsL, slotOf]
      rw [h4]
      go_wp2
      exact ⟨rfl, Below.refl _ _, rfl⟩
    · intro vals W hB ⟨h5, _⟩
      have h5 : vals 5 = _ := h5
      obtain ⟨x0, x1, x2, x3⟩ := HE4.out W hB
      dsimp only [putsL, slotOf]
      rw [h5]
      go_wp2
      exact ⟨rfl, Below.refl _ _, rfl⟩
    · intro vals W hB _
      dsimp only [putsL, slotOf]
      go_wp2
      exact ⟨rfl, Below.refl _ _, rfl⟩
    · intro vals W hB ⟨h7, _⟩
      have h7 : vals 7 = _ := h7
      dsimp only [putsL, slotOf]
      rw [h7]
      go_wp2
      exact ⟨rfl, Below.refl _ _, rfl⟩
    · intro vals W hB ⟨h8, _⟩
      have h8 : vals 8 = _ := h8
      obtain ⟨x0, x1, x2, x3⟩ := HE4.out W hB
      dsimp only [putsL, slotOf]
      rw [h8]
      go_wp2
      exact ⟨rfl, Below.refl _ _, rfl⟩
    · intro vals W hB ⟨h9, _⟩
      have h9 : vals 9 = _ := h9
      dsimp only [putsL, slotOf]
      rw [h9]
      go_wp2
      exact ⟨rfl, Below.refl _ _, rfl⟩
    · intro vals W hB _
      dsimp only [putsL, slotOf]
      go_wp2
      exact ⟨rfl, Below.refl _ _, rfl⟩
    · intro vals W hB ⟨h11, _⟩
      have h11 : vals 11 = _ := h11
      dsimp only [putsL, slotOf]
      rw [h11]
      go_wp2
      exact ⟨rfl, Below.refl _ _, rfl⟩
    · intro vals W hB ⟨h12, _⟩
      have h12 : vals 12 = _ := h12
      obtain ⟨x0, x1, x2, x3⟩ := HE4.out W hB
      dsimp only [putsL, slotOf]
      rw [h12]
      go_wp2
      exact ⟨rfl, Below.refl _ _, rfl⟩
    · intro vals W hB ⟨h10, h13, _⟩
      have h10 : vals 10 = _ := h10
      have h13 : vals 13 = _ := h13
      dsimp only [putsL, slotOf]
      rw [h10, h13]
      go_wp2
      exact ⟨rfl, Below.refl _ _, rfl⟩
    · intro vals W hB ⟨h3, h6, h14, _⟩
      have h3 : vals 3 = _ := h3
      have h6 : vals 6 = _ := h6
      have h14 : vals 14 = _ := h14
      dsimp only [putsL, slotOf]
      rw [h3, h6, h14]
      go_wp2
      exact ⟨rfl, Below.refl _ _, rfl⟩
    rintro vals W hB ⟨q0, q1, q2, q3, q4, q5, q6, q7, q8, q9, q10, q11, q12, q13, q14, q15, -⟩
    have h0 : vals 0 = _ := q0
    have h1 : vals 1 = _ := q1
    have h2 : vals 2 = _ := q2
    have h3 : vals 3 = _ := q3
    have h4 : vals 4 = _ := q4
    have h5 : vals 5 = _ := q5
    have h6 : vals 6 = _ := q6
    have h7 : vals 7 = _ := q7
    have h8 : vals 8 = _ := q8
    have h9 : vals 9 = _ := q9
    have h10 : vals 10 = _ := q10
    have h11 : vals 11 = _ := q11
    have h12 : vals 12 = _ := q12
    have h13 : vals 13 = _ := q13
    have h14 : vals 14 = _ := q14
    have h15 : vals 15 = _ := q15
    dsimp only [putsL]
    rw [h0, h1, h2, h3, h4, h5, h6, h7, h8, h9, h10, h11, h12, h13, h14, h15]
    clear h0 q0 h1 q1 h2 q2 h3 q3 h4 q4 h5 q5 h6 q6 h7 q7 h8 q8 h9 q9 h10 q10 h11 q11 h12 q12 h13 q13 h14 q14 h15 q15
    simp only [List.length_cons, List.length_nil, Nat.reduceAdd, List.drop_succ_cons, List.drop_zero, List.setIfInBounds_toArray, List.set_cons_succ, List.set_cons_zero]
    have HP2 : Veil _ := ⟨HP1.out.after hB⟩
    clear hB
    obtain ⟨⟨y0, y1, y2, y3⟩, f0, f1, f2, f3⟩ := pkM HP2.out.m
    have HP3 : Veil _ := ⟨HP2.out.set a0 a1 a2 a3⟩
    cases rt
    · go_wp2_with (go_at_call 29; refine (HRt.out _).mono ?_; rintro e w3 ⟨rfl, hb3⟩; have HP4 : Veil _ := ⟨HP3.out.after hb3⟩; clear hb3; obtain ⟨⟨z0, z1, z2, z3⟩, k0, k1, k2, k3⟩ := pkM HP4.out.r)
      go_step3
      refine jump_goto ?_
      go_wp2
      rw [Exit.noGoto_ret]
      exact bodyPost_ret (results_mail2 (g := w.heap.size) rfl rfl rfl (stM HP4.out.r _ _ _ _)) rfl ⟨rfl, tnM HP4.out.t (Nat.le_refl _) _ _ _ _⟩
    · go_wp2_with (go_at_call 29; refine (HRt.out _).mono ?_; rintro e w3 ⟨rfl, hb3⟩; have HP4 : Veil _ := ⟨HP3.out.after hb3⟩; clear hb3; obtain ⟨⟨z0, z1, z2, z3⟩, k0, k1, k2, k3⟩ := pkM HP4.out.r; obtain ⟨⟨x0, x1, x2, x3⟩, -⟩ := pkM HP4.out.m)
      refine jump_ret ?_
      exact bodyPost_ret (results_mail2 (g := w.heap.size) rfl rfl rfl (stM HP4.out.r _ _ _ _)) rfl ⟨ret_mail HFin.out.symm, tnM HP4.out.t (Nat.le_refl _) _ _ _ _⟩
  · have hok : okS s = false := by simpa using hok
    rw [okS_not s hok]
    have HNv : Veil (∀ (e : Ending) (w w' : World), NumPost s w e w' → e = .returned (.slice none 0 0) ∧ Below w.heap.size w w') := ⟨by
      rintro e w w' ⟨v, rfl, h | h, hb⟩
      · rw [hok] at h; exact absurd h.1 (by decide)
      · exact ⟨by rw [h.2], hb⟩⟩
    clear hok
    dsimp only [Ml.zero, Ml.v]
    go_enter Tryz.func11, Tryz.ntmps11
    go_wp2
    refine wp_scope_ahead 0 rfl ?_
    go_wp2_with (go_at_call 28; refine (HNu.out _ _ (by simp)).mono ?_; rintro e w1 hpost; obtain ⟨rfl, hb1⟩ := HNv.out _ _ _ hpost; have HP4 : Veil _ := ⟨HP0.out.after hb1⟩; clear hpost hb1; obtain ⟨⟨z0, z1, z2, z3⟩, k0, k1, k2, k3⟩ := pkM HP4.out.r)
    go_step3
    refine jump_goto ?_
    go_wp2
    rw [Exit.noGoto_ret]
    exact bodyPost_ret (results_mail2 (g := w.heap.size) rfl rfl rfl (stM HP4.out.r _ _ _ _)) rfl ⟨rfl, tnM HP4.out.t (Nat.le_refl _) _ _ _ _⟩
end Go.Proofs.YtfjjodkapofgjaaGreatDoor
