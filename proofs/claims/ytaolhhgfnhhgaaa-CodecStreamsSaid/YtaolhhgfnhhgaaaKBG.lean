/- The law CodecStreams. -/
import Derived.Test.YtaolhhgfnhhgaaaKBE
namespace Go.Proofs.Ytaolhhgfnhhgaaa
open Go Go.RowKit Sm
attribute [local go_sem] Oper.semAt_some

def okF (x : List UInt8) : Bool := decide (1 ≤ x.length ∧ x.length ≤ 100)
def wantF (L : List (List UInt8)) : List (List UInt8) := (L.map fun x => x.take 120).filter okF
theorem wantF_good (L : List (List UInt8)) : GoodF (wantF L) := by
  intro x hx
  have := (List.mem_filter.1 hx).2
  unfold okF at this
  exact of_decide_eq_true this
theorem wantF_next (L : List (List UInt8)) (k : Nat) (h : k < L.length) : wantF (L.take (k + 1)) = wantF (L.take k) ++ (if okF ((L.getD k []).take 120) then [(L.getD k []).take 120] else []) := by
  have e : L.getD k [] = L[k] := by simp [List.getD, h]
  rw [e]
  unfold wantF
  rw [List.take_succ_eq_append_getElem h, List.map_append, List.filter_append]
  congr 1
  simp only [List.map_cons, List.map_nil, List.filter_cons, List.filter_nil]
theorem wantF_len (L : List (List UInt8)) : (wantF L).length ≤ L.length := by
  unfold wantF
  exact Nat.le_trans (List.length_filter_le _ _) (by simp)
theorem frames_len (L : List (List UInt8)) (h : GoodF L) : (frames L).length ≤ 102 * L.length := by
  induction L with
  | nil => simp [frames]
  | cons x l ih =>
    have h1 := h x List.mem_cons_self
    have h2 := ih (fun y hy => h y (List.mem_cons_of_mem _ hy))
    unfold frames at h2 ⊢
    rw [List.flatMap_cons, List.length_append, List.length_append, putB_length, List.length_cons]
    omega
theorem frames_snoc (L : List (List UInt8)) (x : List UInt8) : frames (L ++ [x]) = frames L ++ (putB x.length 2 ++ x) := by
  unfold frames
  rw [List.flatMap_append]
  simp
theorem make_texts (W : World) : (Instr.makeSlice 40 (.int .i64 0) (.int .i64 40)).run Try.prog W = .ok (.slice (some ⟨W.heap.size, 0, none⟩) 0 40) (W.alloc (.cells (madeCells #[Value.string ⟨#[]⟩] 40) 9)) := by
  obtain ⟨i0, hi, hz0, hz1, hz2⟩ := info_parts elK.info
  have hz2 : i0.bytes = 16 := hz2
  have h := run_make (P := Try.prog) W 40 9 i0 (.string ⟨#[]⟩) Try.underlying40 hi hz0 .i64 .i64 0 40 (by omega) (by omega) (by rw [hz2]; omega) (by omega)
  have hz1 : i0.size = 1 := hz1
  rw [hz1, Nat.mul_one] at h
  exact h
theorem made_texts (W : World) : OwnE elK (W.alloc (.cells (madeCells #[Value.string ⟨#[]⟩] 40) 9)) W.heap.size (.slice (some ⟨W.heap.size, 0, none⟩) 0 40) [] :=
  ⟨rfl, .inr ⟨W.heap.size, 40, _, rfl, Nat.le_refl _, heap_alloc_new _ _, Nat.zero_le _, by unfold maxLen; omega, by show (madeCells #[Value.string ⟨#[]⟩] 40).size = 40 * 1; simp [madeCells], rfl⟩⟩

set_option maxRecDepth 20000 in
set_option maxHeartbeats 8000000 in
theorem codecStreams_any (w0 : World) (p : Option Addr) (L : List (List UInt8)) (c : Nat) (hp : Els elK w0 p L) (hlc : L.length ≤ 9223372036854775807) (hx : ∀ x ∈ L, x.length ≤ 9223372036854775807) (at' : Int) (hat : I64 at') : Calls Try.prog 6 #[.slice p L.length c, .int .i64 at'] w0 fun e w' => e = .returned (.bool true) ∧ Below w0.heap.size w0 w' := by
  have HS : Veil _ := ⟨shown17_any⟩
  have HEl : Veil (0 < L.length → ∃ b o, p = some ⟨b, o, none⟩ ∧ ∀ k, k < L.length → w0.cell? ⟨b, o + k, none⟩ = some (.string ⟨(L.getD k []).toArray⟩)) := ⟨els_textK hp⟩
  have HXl : Veil (∀ k, k < L.length → (L.getD k []).length ≤ 9223372036854775807) := ⟨fun k hk => hx _ (by simp [List.getD, hk])⟩
  have HW : Veil (∀ k, GoodF (wantF (L.take k)) ∧ (wantF (L.take k)).length ≤ k ∧ (frames (wantF (L.take k))).length ≤ 102 * k) := ⟨fun k => by
    have h1 := wantF_good (L.take k)
    have h2 := wantF_len (L.take k)
    have h3 := frames_len _ h1
    have h4 : (L.take k).length ≤ k := by rw [List.length_take]; omega
    exact ⟨h1, by omega, by omega⟩⟩
  have HWn : Veil _ := ⟨wantF_next L⟩
  have HT0 : Veil _ := ⟨Below.refl w0.heap.size w0⟩
  obtain ⟨n, hn⟩ : ∃ n, L.length = n := ⟨_, rfl⟩
  rw [hn] at HEl HXl HWn hlc ⊢
  clear hn hp hx
  go_enter Try.func6, Try.ntmps6
  go_wp2_with (go_at_call 9; refine (HS.out _).mono ?_; rintro e w1 ⟨rfl, hb1⟩; have HT1 : Veil _ := ⟨hb1⟩; clear hb1)
  go_loopw [6, 7, 8, 9, 10, 11] (fun l st i _ _ _ wr => ∃ k : Nat, k ≤ n ∧ k ≤ 20 ∧ i = .int .i64 k ∧ st = .string ⟨(frames (wantF (L.take k))).toArray⟩ ∧ Veil (OwnE elK wr w0.heap.size l (wantF (L.take k)) ∧ Below w0.heap.size w0 wr)) (fun _ _ i _ _ _ _ => n - (intOf i).toNat)
  case atStart => exact ⟨0, Nat.zero_le _, Nat.zero_le _, rfl, rfl, ⟨OwnE.nil _ _ _, HT1.out⟩⟩
  case round =>
    obtain ⟨k, hkn, hk20, rfl, rfl, HO⟩ := hrel
    obtain ⟨hgood, hwl, hfl⟩ := HW.out k
    obtain ⟨pn, cn, ev, -, -⟩ := HO.out.1.form
    subst ev
    have HGd : Veil _ := ⟨hgood⟩
    by_cases hlt : k < n ∧ k < 20
    · obtain ⟨hlt, hlt2⟩ := hlt
      obtain ⟨b, o, rfl, hc⟩ := HEl.out (by omega)
      have hck := hc k hlt
      have HXk := HXl.out k hlt
      have HNx : Veil _ := ⟨HWn.out k hlt⟩
      have HX0 : Veil _ := ⟨(HO.out.2.cell (World.block_lt_of_cell? _ _ hck)).trans hck⟩
      have hmin : ∀ W, (Builtin.min_ #[3, 3] 3 #[.int .i64 ((L.getD k []).length : Int), .int .i64 120]).run Try.prog W = .ok (.int .i64 ((min (L.getD k []).length 120 : Nat) : Int)) W := min_two (L.getD k []).length 120
      have hEx := take_extM (L.getD k []) 120
      have hmx : min (L.getD k []).length 120 ≤ (L.getD k []).length := Nat.min_le_left _ _
      have hl120 : ((L.getD k []).take 120).length ≤ 120 := by rw [List.length_take]; omega
      have hsz : (⟨(L.getD k []).toArray⟩ : ByteArray).size = (L.getD k []).length := by simp [ByteArray.size]
      clear hc hck
      revert HXk HNx HX0 hmin hEx hmx hl120 hsz
      generalize (L.getD k []).take 120 = x
      generalize hX : (⟨(L.getD k []).toArray⟩ : ByteArray) = X
      generalize min (L.getD k []).length 120 = mx
      generalize (L.getD k []).length = xl
      intro HXk HNx HX0 hmin hEx hmx hl120 hsz
      clear hX
      have HX : Veil _ := ⟨HX0.out⟩
      have HFr : Veil _ := ⟨fun w => frame_any x (by omega) w⟩
      have HEx : Veil _ := ⟨hEx⟩
      clear HX0 hEx
      revert HNx HO hfl hwl HGd
      generalize wantF (L.take k) = M
      intro hwl hfl HO HGd HNx
      by_cases hok : okF x = true
      · have e : frameR x = (putB x.length 2 ++ x, 0) := by unfold frameR; unfold okF at hok; rw [if_pos (of_decide_eq_true hok)]
        rw [hok] at HNx
        rw [e] at HFr
        have HFn : Veil _ := ⟨frames_snoc M x⟩
        have hfl2 : (putB x.length 2 ++ x).length ≤ 122 := by rw [List.length_append, putB_length]; omega
        have HMl : Veil (M.length ≤ 1000000) := ⟨by omega⟩
        have hfm : (frames M).length ≤ 102 * 20 := by omega
        clear e hok hfl hwl
        dsimp only at HFr
        revert HFr HFn hfl2
        generalize putB x.length 2 ++ x = fx
        intro HFr HFn hfl2
        have HAd : Veil _ := ⟨str_add (frames M) fx⟩
        revert HAd hfm HFn
        generalize frames M = FM
        intro hfm HFn HAd
        go_wp2
        refine region_new [.is (.slice (some ⟨b, o, none⟩) n c), .is (.int .i64 k), .is (.pointer (some ⟨b, o + k, none⟩)), .is (.string X), .is (.slice (some ⟨b, o, none⟩) n c), .is (.int .i64 k), .is (.pointer (some ⟨b, o + k, none⟩)), .is (.string X), .is (.int .i64 xl), .is (.int .i64 (mx : Nat)), .is (.string ⟨x.toArray⟩)]
          [[], [], [(0, 30), (1, 31)], [(2, 32)], [], [], [(4, 34), (5, 35)], [(6, 36)], [(7, 37)], [(8, 38)], [(3, 33), (9, 39)]]
          [[], [], [0, 1], [2], [], [], [4, 5], [6], [7], [8], [3, 9]]
          [(0, 30), (1, 31), (2, 32), (3, 33), (4, 34), (5, 35), (6, 36), (7, 37), (8, 38), (9, 39), (10, 40)] rfl (by kernel_rfl) ⟨?_, ?_, ?_, ?_, ?_, ?_, ?_, ?_, ?_, ?_, ?_, trivial⟩ ?_
        · intro vals W hB _
          dsimp only [putsL, slotOf]
          go_wp2
          exact ⟨rfl, Below.refl _ _, rfl⟩
        · intro vals W hB _
          dsimp only [putsL, slotOf]
          go_wp2
          exact ⟨rfl, Below.refl _ _, rfl⟩
        · intro vals W hB ⟨h0, h1, _⟩
          have h0 : vals 0 = _ := h0
          have h1 : vals 1 = _ := h1
          dsimp only [putsL, slotOf]
          rw [h0, h1]
          go_wp2
          exact ⟨rfl, Below.refl _ _, rfl⟩
        · intro vals W hB ⟨h2, _⟩
          have h2 : vals 2 = _ := h2
          have c0 : W.cell? ⟨b, o + k, none⟩ = some (.string X) := (hB.cell (World.block_lt_of_cell? _ _ HX.out)).trans HX.out
          dsimp only [putsL, slotOf]
          rw [h2]
          go_wp2
          exact ⟨rfl, Below.refl _ _, rfl⟩
        · intro vals W hB _
          dsimp only [putsL, slotOf]
          go_wp2
          exact ⟨rfl, Below.refl _ _, rfl⟩
        · intro vals W hB _
          dsimp only [putsL, slotOf]
          go_wp2
          exact ⟨rfl, Below.refl _ _, rfl⟩
        · intro vals W hB ⟨h4, h5, _⟩
          have h4 : vals 4 = _ := h4
          have h5 : vals 5 = _ := h5
          dsimp only [putsL, slotOf]
          rw [h4, h5]
          go_wp2
          exact ⟨rfl, Below.refl _ _, rfl⟩
        · intro vals W hB ⟨h6, _⟩
          have h6 : vals 6 = _ := h6
          have c0 : W.cell? ⟨b, o + k, none⟩ = some (.string X) := (hB.cell (World.block_lt_of_cell? _ _ HX.out)).trans HX.out
          dsimp only [putsL, slotOf]
          rw [h6]
          go_wp2
          exact ⟨rfl, Below.refl _ _, rfl⟩
        · intro vals W hB ⟨h7, _⟩
          have h7 : vals 7 = _ := h7
          dsimp only [putsL, slotOf]
          rw [h7]
          go_wp2
          exact ⟨rfl, Below.refl _ _, rfl⟩
        · intro vals W hB ⟨h8, _⟩
          have h8 : vals 8 = _ := h8
          dsimp only [putsL, slotOf]
          rw [h8]
          go_wp2
          exact ⟨rfl, Below.refl _ _, rfl⟩
        · intro vals W hB ⟨h3, h9, _⟩
          have h3 : vals 3 = _ := h3
          have h9 : vals 9 = _ := h9
          dsimp only [putsL, slotOf]
          rw [h3, h9]
          go_wp2
          exact ⟨rfl, Below.refl _ _, congrArg Value.string HEx.out⟩
        rintro vals W hB ⟨q0, q1, q2, q3, q4, q5, q6, q7, q8, q9, q10, -⟩
        have h0 : vals 0 = _ := q0
        have h1 : vals 1 = _ := q1
        have h2 : vals 2 = _ := q2
        have h3 : vals 3 = _ := q3
        have h4 : vals 4 = _ := q4
        have h5 : vals 5 = _ := q5
        have h6 : vals 6 = _ := q6
        have h7 : vals 7 = _ := q7
        have h8 : vals 8 = _ := q8
        have h9 : vals 9 = _ := q9
        have h10 : vals 10 = _ := q10
        dsimp only [putsL]
        rw [h0, h1, h2, h3, h4, h5, h6, h7, h8, h9, h10]
        clear h0 q0 h1 q1 h2 q2 h3 q3 h4 q4 h5 q5 h6 q6 h7 q7 h8 q8 h9 q9 h10 q10
        simp only [List.length_cons, List.length_nil, Nat.reduceAdd, List.drop_succ_cons, List.drop_zero, List.setIfInBounds_toArray, List.set_cons_succ, List.set_cons_zero]
        have HO2 : Veil _ := ⟨(⟨HO.out.1.below hB, bc_then HO.out.2 hB⟩ : _ ∧ _)⟩
        clear hB HO
        go_wp2_with (first
          | (at_builtin; refine wpList_append_el elK rfl (.tmp 48) (.tmp 50) rfl w0.heap.size _ M x rfl (HO3.out.1.below (below_al (Below.refl _ _) _)) w5.heap.size rfl (heap_alloc_new _ _) HMl.out (by have := HO3.out.2.size; simp; omega) ?_; intro v' w9 hown9 hgrow hfrom)
          | (go_at_call 19; refine (HFr.out _).mono ?_; rintro e w5 ⟨rfl, hb5⟩; have HO3 : Veil _ := ⟨(⟨HO2.out.1.below hb5, bc_then HO2.out.2 hb5⟩ : _ ∧ _)⟩; clear hb5))
        refine ⟨⟨k + 1, by omega, by omega, by go_num, ?_, ⟨?_, ?_⟩⟩, ?_⟩
        · rw [HNx.out, if_pos trivial, HFn.out, ← HAd.out]
        · rw [HNx.out, if_pos trivial]; exact hown9
        · exact ownE_grown (below_al HO3.out.2 _) (Nat.le_refl _) (HO3.out.1.below (below_al (Below.refl _ _) _)) hgrow
        · simp only [intOf]; omega
      · have hok : okF x = false := by simpa using hok
        have e : frameR x = ([], 170) := by unfold frameR; unfold okF at hok; rw [if_neg (of_decide_eq_false hok)]
        rw [hok] at HNx
        rw [e] at HFr
        clear e hok hfl hwl
        dsimp only at HFr
        generalize hFM : frames M = FM
        have HFM : Veil _ := ⟨hFM⟩
        clear hFM
        go_wp2
        refine region_new [.is (.slice (some ⟨b, o, none⟩) n c), .is (.int .i64 k), .is (.pointer (some ⟨b, o + k, none⟩)), .is (.string X), .is (.slice (some ⟨b, o, none⟩) n c), .is (.int .i64 k), .is (.pointer (some ⟨b, o + k, none⟩)), .is (.string X), .is (.int .i64 xl), .is (.int .i64 (mx : Nat)), .is (.string ⟨x.toArray⟩)]
          [[], [], [(0, 30), (1, 31)], [(2, 32)], [], [], [(4, 34), (5, 35)], [(6, 36)], [(7, 37)], [(8, 38)], [(3, 33), (9, 39)]]
          [[], [], [0, 1], [2], [], [], [4, 5], [6], [7], [8], [3, 9]]
          [(0, 30), (1, 31), (2, 32), (3, 33), (4, 34), (5, 35), (6, 36), (7, 37), (8, 38), (9, 39), (10, 40)] rfl (by kernel_rfl) ⟨?_, ?_, ?_, ?_, ?_, ?_, ?_, ?_, ?_, ?_, ?_, trivial⟩ ?_
        · intro vals W hB _
          dsimp only [putsL, slotOf]
          go_wp2
          exact ⟨rfl, Below.refl _ _, rfl⟩
        · intro vals W hB _
          dsimp only [putsL, slotOf]
          go_wp2
          exact ⟨rfl, Below.refl _ _, rfl⟩
        · intro vals W hB ⟨h0, h1, _⟩
          have h0 : vals 0 = _ := h0
          have h1 : vals 1 = _ := h1
          dsimp only [putsL, slotOf]
          rw [h0, h1]
          go_wp2
          exact ⟨rfl, Below.refl _ _, rfl⟩
        · intro vals W hB ⟨h2, _⟩
          have h2 : vals 2 = _ := h2
          have c0 : W.cell? ⟨b, o + k, none⟩ = some (.string X) := (hB.cell (World.block_lt_of_cell? _ _ HX.out)).trans HX.out
          dsimp only [putsL, slotOf]
          rw [h2]
          go_wp2
          exact ⟨rfl, Below.refl _ _, rfl⟩
        · intro vals W hB _
          dsimp only [putsL, slotOf]
          go_wp2
          exact ⟨rfl, Below.refl _ _, rfl⟩
        · intro vals W hB _
          dsimp only [putsL, slotOf]
          go_wp2
          exact ⟨rfl, Below.refl _ _, rfl⟩
        · intro vals W hB ⟨h4, h5, _⟩
          have h4 : vals 4 = _ := h4
          have h5 : vals 5 = _ := h5
          dsimp only [putsL, slotOf]
          rw [h4, h5]
          go_wp2
          exact ⟨rfl, Below.refl _ _, rfl⟩
        · intro vals W hB ⟨h6, _⟩
          have h6 : vals 6 = _ := h6
          have c0 : W.cell? ⟨b, o + k, none⟩ = some (.string X) := (hB.cell (World.block_lt_of_cell? _ _ HX.out)).trans HX.out
          dsimp only [putsL, slotOf]
          rw [h6]
          go_wp2
          exact ⟨rfl, Below.refl _ _, rfl⟩
        · intro vals W hB ⟨h7, _⟩
          have h7 : vals 7 = _ := h7
          dsimp only [putsL, slotOf]
          rw [h7]
          go_wp2
          exact ⟨rfl, Below.refl _ _, rfl⟩
        · intro vals W hB ⟨h8, _⟩
          have h8 : vals 8 = _ := h8
          dsimp only [putsL, slotOf]
          rw [h8]
          go_wp2
          exact ⟨rfl, Below.refl _ _, rfl⟩
        · intro vals W hB ⟨h3, h9, _⟩
          have h3 : vals 3 = _ := h3
          have h9 : vals 9 = _ := h9
          dsimp only [putsL, slotOf]
          rw [h3, h9]
          go_wp2
          exact ⟨rfl, Below.refl _ _, congrArg Value.string HEx.out⟩
        rintro vals W hB ⟨q0, q1, q2, q3, q4, q5, q6, q7, q8, q9, q10, -⟩
        have h0 : vals 0 = _ := q0
        have h1 : vals 1 = _ := q1
        have h2 : vals 2 = _ := q2
        have h3 : vals 3 = _ := q3
        have h4 : vals 4 = _ := q4
        have h5 : vals 5 = _ := q5
        have h6 : vals 6 = _ := q6
        have h7 : vals 7 = _ := q7
        have h8 : vals 8 = _ := q8
        have h9 : vals 9 = _ := q9
        have h10 : vals 10 = _ := q10
        dsimp only [putsL]
        rw [h0, h1, h2, h3, h4, h5, h6, h7, h8, h9, h10]
        clear h0 q0 h1 q1 h2 q2 h3 q3 h4 q4 h5 q5 h6 q6 h7 q7 h8 q8 h9 q9 h10 q10
        simp only [List.length_cons, List.length_nil, Nat.reduceAdd, List.drop_succ_cons, List.drop_zero, List.setIfInBounds_toArray, List.set_cons_succ, List.set_cons_zero]
        have HO2 : Veil _ := ⟨(⟨HO.out.1.below hB, bc_then HO.out.2 hB⟩ : _ ∧ _)⟩
        clear hB HO
        go_wp2_with (go_at_call 19; refine (HFr.out _).mono ?_; rintro e w5 ⟨rfl, hb5⟩; have HO3 : Veil _ := ⟨(⟨HO2.out.1.below hb5, bc_then HO2.out.2 hb5⟩ : _ ∧ _)⟩; clear hb5)
        have hn0 : wantF (L.take (k + 1)) = M := by rw [HNx.out]; simp
        refine ⟨⟨k + 1, by omega, by omega, by go_num, ?_, ⟨?_, ?_⟩⟩, ?_⟩
        · rw [hn0, HFM.out]
        · rw [hn0]; exact HO3.out.1
        · exact HO3.out.2
        · simp only [intOf]; omega
    · have HOw : Veil _ := ⟨HO.out⟩
      have HCut : Veil _ := ⟨splR_cut (wantF (L.take k)) hgood⟩
      have HFl2 : Veil ((frames (wantF (L.take k))).length ≤ 2040 ∧ (wantF (L.take k)).length ≤ 20) := ⟨by omega, by omega⟩
      clear hgood HGd hwl hfl HO HEl HXl HW HWn HT0
      have hst : ¬ ((k : Int) < n ∧ (k : Int) < 20) := by omega
      clear hlt
      obtain ⟨hfa, hwa⟩ := HFl2.out
      revert HOw HCut hfa hwa HFl2
      generalize wantF (L.take k) = M
      intro HOw HCut HFl2 hfa hwa
      obtain ⟨S, hS⟩ : ∃ S, frames M = S := ⟨_, rfl⟩
      rw [hS] at hfa HCut ⊢
      clear hS HFl2
      by_cases h1 : at' < 0
      · by_cases g : (k : Int) < n
        · have g2 : ¬ (k : Int) < 20 := fun h => hst ⟨g, h⟩
          clear hst
          go_wp2
          go_ret
          exact ⟨rfl, HOw.out.2⟩
        · clear hst
          go_wp2
          go_ret
          exact ⟨rfl, HOw.out.2⟩
      by_cases h2 : at' > (S.length : Int)
      · by_cases g : (k : Int) < n
        · have g2 : ¬ (k : Int) < 20 := fun h => hst ⟨g, h⟩
          clear hst
          go_wp2
          go_ret
          exact ⟨rfl, HOw.out.2⟩
        · clear hst
          go_wp2
          go_ret
          exact ⟨rfl, HOw.out.2⟩
      obtain ⟨m, rfl⟩ : ∃ m : Nat, at' = m := ⟨at'.toNat, by omega⟩
      have hm : m ≤ S.length := by omega
      obtain ⟨q1, q2, q3⟩ := HCut.out (S.take m) (S.drop m) (List.take_append_drop m S)
      have P1 : Veil (∀ w, Calls _ _ _ w (SplPost (S.take m) w)) := ⟨fun w => csplit_any (S.take m) (by rw [List.length_take]; omega) w⟩
      have hr1 := splR_rest (S.take m)
      have hn1 := splR_len (S.take m)
      rw [List.length_take] at hr1 hn1
      unfold SplPost at P1
      have hE1 : (⟨S.toArray⟩ : ByteArray).extract 0 m = ⟨(S.take m).toArray⟩ := by rw [extM]; simp
      have hE2 : (⟨S.toArray⟩ : ByteArray).extract m S.length = ⟨(S.drop m).toArray⟩ := by rw [extM, List.take_of_length_le (by rw [List.length_drop]; omega)]
      have hdl : (S.drop m).length = S.length - m := List.length_drop
      generalize hx1 : splR (S.take m) = x1 at q1 q2 q3 P1 hr1 hn1
      obtain ⟨A1, R1, e1⟩ := x1
      dsimp only at q1 q2 q3 P1 hr1 hn1
      subst q1
      have P2 : Veil (∀ w, Calls _ _ _ w (SplPost (R1 ++ S.drop m) w)) := ⟨fun w => csplit_any (R1 ++ S.drop m) (by rw [List.length_append]; omega) w⟩
      have hn2 := splR_len (R1 ++ S.drop m)
      rw [List.length_append] at hn2
      unfold SplPost at P2
      rw [q2] at P2
      generalize (splR (R1 ++ S.drop m)).1 = B1 at q3 P2 hn2
      dsimp only at P2
      have hA : (⟨R1.toArray⟩ : ByteArray) ++ ⟨(S.drop m).toArray⟩ = ⟨(R1 ++ S.drop m).toArray⟩ := str_add _ _
      rw [← hE1] at P1
      rw [← hA, ← hE2] at P2
      have hsz1 : (⟨R1.toArray⟩ : ByteArray).size = R1.length := by simp [ByteArray.size]
      have HTx : Veil _ := ⟨fun p q c d w h1 h2 => texts_same p q c d M w h1 h2 (by omega)⟩
      have HQ3 : Veil _ := ⟨q3⟩
      have HLn : Veil (A1.length ≤ 1000000 ∧ (A1.length + B1.length ≤ 1000000)) := ⟨by omega, by omega⟩
      have HR1 : Veil (R1.length ≤ 4000) := ⟨by omega⟩
      have HKp : Veil (A1.length ≤ min m S.length ∧ R1.length ≤ min m S.length) := ⟨hn1, hr1⟩
      clear hx1 q2 q3 HCut hE1 hE2 hA hr1 hn1 hn2 hdl
      have hR1 : R1.length ≤ 4000 := HR1.out
      have hmk := make_texts
      have hmd := made_texts
      generalize madeCells #[Value.string ⟨#[]⟩] 40 = ZZ at hmk hmd
      have HMd : Veil _ := ⟨hmd⟩
      clear hmd
      have HEw : Veil (Els elK wr pn M) := ⟨by obtain ⟨p', c', e', h', -⟩ := HOw.out.1.form; cases e'; exact h'⟩
      by_cases g : (k : Int) < n
      · have g2 : ¬ (k : Int) < 20 := fun h => hst ⟨g, h⟩
        clear hst
        go_wp2_with (first
          | (go_at_call 23; refine (HTx.out _ _ _ _ _ HEA.out HEW.out).mono ?_; rintro e w8 ⟨rfl, hb8⟩)
          | (at_builtin; refine wpList_append_els elK rfl (.tmp 84) (.tmp 85) rfl w5.heap.size _ A1 B1 rfl HOA.out p5 c5 rfl HE5.out (by have := HLn.out.2; omega) HB6.out.size ?_; intro v7 w7 hown7 hgrow7 hfrom7; rw [HQ3.out] at hown7; obtain ⟨p7, c7, ev7, hel7, -⟩ := hown7.form; subst ev7; have HB7 : Veil _ := ⟨ownE_grown HB6.out (Nat.le_refl _) HOA.out hgrow7⟩; have HEA : Veil _ := ⟨hel7⟩; have HEW : Veil _ := ⟨HEW5.out.below HB7.out⟩; clear hown7 hgrow7 hfrom7 hel7)
          | (at_builtin; refine wpList_append_els elK rfl (.tmp 82) (.tmp 83) rfl w5.heap.size _ [] A1 rfl (HMd.out w5) p4 c4 rfl (HE4.out.below (below_al (Below.refl _ _) _)) (by have := HLn.out.1; simpa using this) (by simp) ?_; intro v6 w6 hown6 hgrow6 hfrom6; rw [List.nil_append] at hown6; have HB6 : Veil _ := ⟨ownE_grown (below_al (Below.refl _ w5) _) (Nat.le_refl _) (HMd.out w5) hgrow6⟩; have HOA : Veil _ := ⟨hown6⟩; have HE5 : Veil _ := ⟨HE5.out.below HB6.out⟩; clear hown6 hgrow6 hfrom6)
          | (go_at_call 21; have hg := HE4; (with_reducible refine (P2.out _).mono ?_); rintro e w5 ⟨p5, c5, rfl, hel5, hb5⟩; have HT5 : Veil _ := ⟨bc_then HT4.out hb5⟩; have HE4 : Veil _ := ⟨HE4.out.below hb5⟩; have HE5 : Veil _ := ⟨hel5⟩; have HEW5 : Veil _ := ⟨HEW4.out.below hb5⟩; clear hb5 hel5)
          | (go_at_call 21; refine (P1.out _).mono ?_; clear P1; rintro e w4 ⟨p4, c4, rfl, hel4, hb4⟩; have HT4 : Veil _ := ⟨bc_then HOw.out.2 hb4⟩; have HE4 : Veil _ := ⟨hel4⟩; have HEW4 : Veil _ := ⟨HEw.out.below hb4⟩; clear hb4 hel4))
        go_ret
        exact ⟨rfl, bc_then (HT5.out.trans (HB7.out.mono HT5.out.size)) hb8⟩
      · clear hst
        go_wp2_with (first
          | (go_at_call 23; refine (HTx.out _ _ _ _ _ HEA.out HEW.out).mono ?_; rintro e w8 ⟨rfl, hb8⟩)
          | (at_builtin; refine wpList_append_els elK rfl (.tmp 84) (.tmp 85) rfl w5.heap.size _ A1 B1 rfl HOA.out p5 c5 rfl HE5.out (by have := HLn.out.2; omega) HB6.out.size ?_; intro v7 w7 hown7 hgrow7 hfrom7; rw [HQ3.out] at hown7; obtain ⟨p7, c7, ev7, hel7, -⟩ := hown7.form; subst ev7; have HB7 : Veil _ := ⟨ownE_grown HB6.out (Nat.le_refl _) HOA.out hgrow7⟩; have HEA : Veil _ := ⟨hel7⟩; have HEW : Veil _ := ⟨HEW5.out.below HB7.out⟩; clear hown7 hgrow7 hfrom7 hel7)
          | (at_builtin; refine wpList_append_els elK rfl (.tmp 82) (.tmp 83) rfl w5.heap.size _ [] A1 rfl (HMd.out w5) p4 c4 rfl (HE4.out.below (below_al (Below.refl _ _) _)) (by have := HLn.out.1; simpa using this) (by simp) ?_; intro v6 w6 hown6 hgrow6 hfrom6; rw [List.nil_append] at hown6; have HB6 : Veil _ := ⟨ownE_grown (below_al (Below.refl _ w5) _) (Nat.le_refl _) (HMd.out w5) hgrow6⟩; have HOA : Veil _ := ⟨hown6⟩; have HE5 : Veil _ := ⟨HE5.out.below HB6.out⟩; clear hown6 hgrow6 hfrom6)
          | (go_at_call 21; have hg := HE4; (with_reducible refine (P2.out _).mono ?_); rintro e w5 ⟨p5, c5, rfl, hel5, hb5⟩; have HT5 : Veil _ := ⟨bc_then HT4.out hb5⟩; have HE4 : Veil _ := ⟨HE4.out.below hb5⟩; have HE5 : Veil _ := ⟨hel5⟩; have HEW5 : Veil _ := ⟨HEW4.out.below hb5⟩; clear hb5 hel5)
          | (go_at_call 21; refine (P1.out _).mono ?_; clear P1; rintro e w4 ⟨p4, c4, rfl, hel4, hb4⟩; have HT4 : Veil _ := ⟨bc_then HOw.out.2 hb4⟩; have HE4 : Veil _ := ⟨hel4⟩; have HEW4 : Veil _ := ⟨HEw.out.below hb4⟩; clear hb4 hel4))
        go_ret
        exact ⟨rfl, bc_then (HT5.out.trans (HB7.out.mono HT5.out.size)) hb8⟩
end Go.Proofs.Ytaolhhgfnhhgaaa
