/- The walk of cutPlace. -/
import Derived.Test.YtokbmimbbeedcaaGreatDoorKO6
namespace Go.Proofs.YtokbmimbbeedcaaGreatDoor
open Go Go.RowKit Sm
attribute [local go_sem] Oper.semAt_some

set_option maxRecDepth 20000 in
set_option maxHeartbeats 4000000 in
theorem cutplace_of {w : World} {n : Nd} {a : NdP} (h : NdAt w n a) (hf : SlOk a.pk n.ks.length a.ck) (hok : Veil n.Ok) :
    Calls Tryz.prog 124 #[n.v a] w fun e w' => e = .returned (.int .i64 n.cutAt) ∧ Below w.heap.size w w' := by
  refine calls_of_wp_marks Tryz.func124 rfl ?_
  simp only [Tryz.ntmps124, List.size_toArray, List.length_cons, List.length_nil, Nat.reduceAdd, Nat.reduceSub, Array.replicate_succ, Array.replicate_zero, List.push_toArray, List.append_toArray, List.nil_append, List.cons_append]
  have HSz : Veil (∀ w, NdAt w n a → Calls Tryz.prog 78 #[n.v a] w fun e w' => e = .returned (.int .i64 n.size) ∧ Below w.heap.size w w') := ⟨fun w h => size_of h hf hok⟩
  have HPa : Veil (∀ w, NdAt w n a → Calls Tryz.prog 109 #[n.v a] w fun e w' => ∃ Bx, e = .returned (.func (.func 139) #[] #[.pointer (some ⟨Bx, 0, none⟩)]) ∧ ReadsN Bx n a w' ∧ Below w.heap.size w w') := ⟨fun w h => partsN_of h⟩
  have HTx : Veil (∀ W p c T, Els elK W p T → (∀ s ∈ T, s.length ≤ 1000000) → T.length ≤ 1 → Calls Tryz.prog 140 #[.slice p T.length c] W fun e w' => e = .returned (.int .i64 (tsz T)) ∧ ∃ n, w' = W.drewN n) := ⟨fun W p c T h h1 h2 => textsize_of h c h1 (by omega)⟩
  have HZ0 : Veil (n.right = false → n.size = 0) := ⟨fun hr => by rw [Nd.size, if_neg (by simp [hr])]⟩
  have HA : Veil (∀ k, n.ks.length = 0 ∨ k ≤ n.ks.length → k ≤ 100000 → ∀ W, NdAt W n a → Calls Tryz.prog 128 #[n.v a, .int .i64 k] W fun e w' => ∃ p c, e = .returned (.slice p (n.ahead k).length c) ∧ Els elK w' p (n.ahead k) ∧ (∀ x, p = some x → n.ks ≠ [] ∧ ∃ y, a.pk = some y ∧ y.block = x.block) ∧ Below W.heap.size W w') := ⟨fun k hi hk W h => ahead_of h hf hok.out.k k hi hk⟩
  have HOk : Veil _ := ⟨hok.out⟩
  have hP : n.ps.length ≤ 100000 := hok.out.p
  have hD : n.ds.length ≤ 100000 := hok.out.d
  have HH : Veil _ := ⟨h⟩
  obtain ⟨W1, hW1⟩ : ∃ W1, w.alloc (.cells #[.slice a.pp n.ps.length a.cp, .slice a.pk n.ks.length a.ck, .slice a.pd n.ds.length a.cd] 92) = W1 := ⟨_, rfl⟩
  have HB : Veil (NdBox w n a W1) := ⟨by have := NdBox.new h; rw [hW1] at this; exact this⟩
  obtain ⟨a0, a1, a2⟩ := HB.out.cells
  have HCA : Veil (n.cutAt = if n.right then (cutSt n.least n.lgr (n.ps.length + n.ds.length + 1 - n.least)).1 else 0) := ⟨rfl⟩
  obtain ⟨CA, hCA⟩ : ∃ CA, n.cutAt = CA := ⟨_, rfl⟩
  rw [hCA] at HCA ⊢
  clear h hCA
  by_cases hr : n.right = true
  · have HSq : Veil (∀ Bx, Seq Tryz.prog 139 #[.pointer (some ⟨Bx, 0, none⟩)] (handsQ n) (n.ps.length + n.ds.length) (ReadsN Bx n a)) := ⟨fun Bx => parts_seq Bx n a hok hf (Nd.right_xd hr) (Nd.right_kd hr)⟩
    have HLK : Veil _ := ⟨Nd.right_lk hr⟩
    have HIN : Veil _ := ⟨fun k (hk : k < n.ps.length + n.ds.length) => cut_in hr hk⟩
    have HSB : Veil (1 ≤ n.size ∧ n.size ≤ 500000000000) := ⟨by
      rw [Nd.size, if_pos hr]
      refine ⟨n.enc_pos, ?_⟩
      rw [enc_right hr]
      have := encP_len hok.out (Nd.right_kd hr) (Nd.right_xd hr) _ (Nat.le_refl (n.ps.length + n.ds.length))
      omega⟩
    have HLS : Veil (∀ k, n.lft (k + 1) = n.lft k + n.part k) := ⟨fun k => by unfold Nd.lft; rw [encP_succ, List.length_append, partB_len]⟩
    have HL0 : Veil (n.lft 0 = 1) := ⟨by simp [Nd.lft, encP_zero]⟩
    have HPL : Veil (∀ k, k < n.ps.length + n.ds.length → n.part k ≤ 2000006) := ⟨fun k hk => part_le hok.out (Nd.right_kd hr) hk (Nd.right_xd hr)⟩
    have HLG : Veil (∀ k, n.lgr k = max (n.lft k) (1 + n.size - n.lft k - tsz (n.ahead k))) := ⟨fun _ => rfl⟩
    replace HCA : Veil (CA = (cutSt n.least n.lgr (n.ps.length + n.ds.length + 1 - n.least)).1) := ⟨by rw [HCA.out, if_pos hr]⟩
    have HLE : Veil (n.least = if n.ds.length = 0 then 1 else 2) := ⟨rfl⟩
    clear hok hf HZ0 hr
    unfold handsQ at HSq
    revert HSq; revert HSB; revert HIN; revert HLG; revert HPL; revert HL0; revert HLS; revert HLE; revert HCA; revert HSz
    generalize n.part = part
    generalize n.lft = L
    generalize n.lgr = G
    generalize n.size = sz
    generalize n.least = ls
    intro HSz HCA HLE HLS HL0 HPL HLG HIN HSB HSq
    have h1 := HSB.out.1
    have h0 : ((sz : Int) == 0) = false := by rw [beq_eq_false_iff_ne]; omega
    unfold Nd.v at *
    by_cases hd : n.ds.length = 0
    · obtain rfl : ls = 1 := by rw [HLE.out, if_pos hd]
      replace hd : n.ds.length < 1 := by omega
      go_wp2
      go_step3
      go_wp2_with (go_at_call 78; refine (HSz.out _ HB.out.s).mono ?_; rintro e w3 ⟨rfl, hb⟩; replace HB : Veil _ := ⟨HB.out.below hb⟩; have HW3 : Veil (w.heap.size < w3.heap.size) := ⟨lt_of_heap HB.out.b⟩; obtain ⟨w4, w5, w6, w7, w8, w9, hw4, hw5, hw6, hw7, hw8, hw9, ⟨c6, f6⟩, ⟨c7, f7⟩, ⟨c8, f8⟩, HTI⟩ := three_int w3 0 0 sz; replace HB : Veil _ := ⟨HB.out.below HTI.out.2.2.2.1⟩; have c9 := HTI.out.2.2.1.cell; clear hb a0 a1 a2; obtain ⟨w10, w12, w13, hw10, hw12, hw13, c10, HTM⟩ := more_int w9 1 ((n.ps.length : Int) + n.ds.length - 1) 1; obtain ⟨a0, a1, a2⟩ := (HB.out.below HTM.out.2.2.2.2.1).cells; obtain ⟨e0, e1, e2⟩ := (HB.out.below HTM.out.2.2.2.1).cells)
      go_step3
      go_wp2_with (go_at_call 109; refine (HPa.out _ (HB.out.s.below HTM.out.2.2.2.1)).mono ?_; rintro e w14 ⟨Bx, rfl, hrd, hb14⟩)
      obtain ⟨B3, e3'⟩ : ∃ B3, w3.heap.size = B3 := ⟨_, rfl⟩
      obtain ⟨B4, e4'⟩ : ∃ B4, w4.heap.size = B4 := ⟨_, rfl⟩
      obtain ⟨B5, e5'⟩ : ∃ B5, w5.heap.size = B5 := ⟨_, rfl⟩
      obtain ⟨B6, e6'⟩ : ∃ B6, w9.heap.size = B6 := ⟨_, rfl⟩
      obtain ⟨B7, e7'⟩ : ∃ B7, w10.heap.size = B7 := ⟨_, rfl⟩
      obtain ⟨B8, e8'⟩ : ∃ B8, w12.heap.size = B8 := ⟨_, rfl⟩
      have HI0 : Veil (SpI w B3 B4 B5 B6 B7 B8 Bx n a sz 1 ((n.ps.length : Int) + n.ds.length - 1) 0 0 1 w14) := ⟨by
        rw [← e3', ← e4', ← e5', ← e6', ← e7', ← e8']
        have hT := HTI.out
        have hM := HTM.out
        have hb13 := hM.2.2.2.1
        have hX := (HB.out.below hb13).below hb14
        have h3 := HW3.out
        have h9 := lt_of_heap hT.2.2.1
        exact ⟨⟨hX.b, hX.s⟩, (hT.1.below hb13).below hb14, (hT.2.1.below hb13).below hb14, (hT.2.2.1.below hb13).below hb14, hM.1.below hb14, hM.2.1.below hb14, hM.2.2.1.below hb14, hrd, Turned.new hX.x, by omega⟩⟩
      rw [e3', e4', e5', e6', e7', e8']
      clear e3' e4' e5' e6' e7' e8' hw4 hw5 hw6 hw7 hw8 hw9 hw10 hw12 hw13 c6 f6 c7 f7 c8 f8 c9 c10 a0 a1 a2 e0 e1 e2 HTI HTM HB hrd hb14 HW3 hW1 HSz HPa
      have HZ : Veil (w.heap.size < w14.heap.size ∧ B8 < w14.heap.size) := ⟨by have := lt_of_heap HI0.out.y.b; have := lt_of_heap HI0.out.c8; omega⟩
      refine wp_range_break (gf := 139) (lb := #[.pointer (some ⟨Bx, 0, none⟩)]) rfl (enters_of Tryz.func139 (by kernel_rfl) rfl)
        (HSq.out Bx) (fun k => rfl)
        (fun k A => (k = 0 ∨ k + 1 ≤ n.ps.length + n.ds.length + 1) ∧ SpI w B3 B4 B5 B6 B7 B8 Bx n a sz 1 ((n.ps.length : Int) + n.ds.length - 1) ((cutSt 1 G k).1 : Nat) ((cutSt 1 G k).2 : Nat) (L k : Nat) A)
        (fun A => ∃ fw lf, SpI w B3 B4 B5 B6 B7 B8 Bx n a sz 1 ((n.ps.length : Int) + n.ds.length - 1) CA fw lf A) ?hI ?hE ?hF ?h0 ?hN ?hround ?hend
      case hI => rintro k A A' ⟨h0, h1⟩ hb; exact ⟨h0, h1.booked hb (by have := HZ.out; omega)⟩
      case hE => rintro A A' ⟨fw, lf, h1⟩ hb; exact ⟨fw, lf, h1.booked hb (by have := HZ.out; omega)⟩
      case hF => rintro k A ⟨_, h⟩; exact h.x
      case h0 => exact ⟨.inl rfl, by rw [HL0.out]; exact HI0.out⟩
      case hN =>
        rintro A ⟨h1, h2⟩
        obtain rfl : CA = (cutSt 1 G (n.ps.length + n.ds.length)).1 := by rw [HCA.out]; congr 2 <;> omega
        exact ⟨_, _, h2⟩
      case hround =>
        rintro l m k A hl2 hlt ⟨hkE, hi⟩
        simp only [List.zip_cons_cons, List.zip_nil_right, List.foldl_cons, List.foldl_nil, List.setIfInBounds_toArray, List.set_cons_succ, List.set_cons_zero]
        have HI1 : Veil _ := ⟨hi⟩
        have HST : Veil (cutSt 1 G (k + 1) = if 1 ≤ k ∧ ((cutSt 1 G k).1 = 0 ∨ G k < (cutSt 1 G k).2) then (k, G k) else cutSt 1 G k) := ⟨rfl⟩
        have HCE : Veil (n.ps.length + n.ds.length < k + 1 → CA = (cutSt 1 G k).1) := ⟨fun h => by rw [HCA.out]; congr 2 <;> omega⟩
        have hpk := HPL.out k hlt
        have HLk : Veil _ := ⟨HLS.out k⟩
        have HG : Veil _ := ⟨HLG.out k⟩
        have HLT : Veil _ := ⟨HIN.out k hlt⟩
        have hka : n.ks.length = 0 ∨ k ≤ n.ks.length := by rcases HLK.out with h | h <;> omega
        have HAk : Veil _ := ⟨HA.out k hka (by rcases HLK.out with h | h <;> omega)⟩
        have hT1 := Nd.ahead_mem hka HOk.out.kt
        have hT2 := n.ahead_len k
        have HTk : Veil (∀ W p c, Els elK W p (n.ahead k) → Calls Tryz.prog 140 #[.slice p (n.ahead k).length c] W fun e w' => e = .returned (.int .i64 (tsz (n.ahead k))) ∧ ∃ n, w' = W.drewN n) := ⟨fun W p c h => HTx.out W p c _ h hT1 hT2⟩
        clear hi hT1 hT2 hka HA HTx HPL HLS HLG HIN HLK HI0
        revert HST; revert HCE; revert HLk; revert HG; revert HLT; revert HAk; revert HTk; revert HI1
        generalize cutSt 1 G (k + 1) = st'
        generalize cutSt 1 G k = st
        generalize G k = g
        generalize L (k + 1) = lk'
        generalize hlk : L k = lk
        generalize tsz (n.ahead k) = ts
        generalize n.ahead k = T
        generalize part k = pk at *
        obtain ⟨pl, fw⟩ := st
        clear hlk
        dsimp only
        intro HI1 HTk HAk HLT HG HLk HCE HST
        gi_wp2
        refine ⟨KeepsFrom.refl _ _, fun A2 hbk hsz => ?_⟩
        have HI2 : Veil _ := ⟨HI1.out.booked hbk (by have := HZ.out; omega)⟩
        clear hbk hsz HI1
        have c7 := HI2.out.c7.cell
        by_cases hkl : n.ps.length + n.ds.length < k + 1
        · gi_wp2
          all_goals exact ⟨KeepsFrom.refl _ _, rfl, fw, lk, by rw [HCE.out hkl]; exact HI2.out⟩
        · replace hkl : k + 1 ≤ n.ps.length + n.ds.length := by omega
          clear HCE
          gi_wp2
          refine region_new_in [.is (.int .i64 sz), .is (.int .i64 ((1 + sz : Nat) : Int)), .is (.int .i64 lk), .is (.int .i64 ((1 + sz - lk : Nat) : Int)), .is (.agg #[.slice a.pp n.ps.length a.cp, .slice a.pk n.ks.length a.ck, .slice a.pd n.ds.length a.cd]), .is (.int .i64 k), .gen (fun v W => ∃ p c, v = .slice p T.length c ∧ Els elK W p T) (fun v W W' hb ⟨p, c, h1, h2⟩ => ⟨p, c, h1, h2.below hb⟩), .is (.int .i64 ts), .is (.int .i64 ((1 + sz - lk - ts : Nat) : Int))]
            [[], [(0, 37)], [], [(1, 38), (2, 39)], [], [], [(4, 41), (5, 42)], [(6, 43)], [(3, 40), (7, 44)]]
            [[], [0], [], [1, 2], [], [], [4, 5], [6], [3, 7]]
            [(0, 37), (1, 38), (2, 39), (3, 40), (4, 41), (5, 42), (6, 43), (7, 44), (8, 45)] rfl (by kernel_rfl) rfl ⟨?_, ?_, ?_, ?_, ?_, ?_, ?_, ?_, ?_, trivial⟩ ?_
          · intro vals W hB _
            have c5 := cell_row6 (HI2.out.below hB).c5
            dsimp only [putsL, slotOf]
            go_wp2
            exact ⟨rfl, Below.refl _ _, rfl⟩
          · intro vals W hB ⟨h0, _⟩
            have h0 : vals 0 = _ := h0
            have hsz := HSB.out
            dsimp only [putsL, slotOf]
            rw [h0]
            go_wp2
            exact ⟨rfl, Below.refl _ _, by go_num⟩
          · intro vals W hB _
            have c8 := cell_row6 (HI2.out.below hB).c8
            dsimp only [putsL, slotOf]
            go_wp2
            exact ⟨rfl, Below.refl _ _, rfl⟩
          · intro vals W hB ⟨h1, h2, _⟩
            have h1 : vals 1 = _ := h1
            have h2 : vals 2 = _ := h2
            have hsz := HSB.out; have hlk := HLT.out; have he : Veil (((1 + sz : Nat) : Int) - lk = ((1 + sz - lk : Nat) : Int)) := ⟨by omega⟩; have he' : Veil (1 + (sz : Int) - lk = ((1 + sz - lk : Nat) : Int)) := ⟨by omega⟩
            dsimp only [putsL, slotOf]
            rw [h1, h2]
            go_wp2
            exact ⟨rfl, Below.refl _ _, by first | exact congrArg (Value.int IntKind.i64) he.out | exact congrArg (Value.int IntKind.i64) he'.out⟩
          · intro vals W hB _
            obtain ⟨a0, a1, a2⟩ := (HI2.out.below hB).y.cells
            dsimp only [putsL, slotOf]
            go_wp2
            exact ⟨rfl, Below.refl _ _, rfl⟩
          · intro vals W hB _
            dsimp only [putsL, slotOf]
            go_wp2
            exact ⟨rfl, Below.refl _ _, rfl⟩
          · intro vals W hB ⟨h4, h5, _⟩
            have h4 : vals 4 = _ := h4
            have h5 : vals 5 = _ := h5
            dsimp only [putsL, slotOf]
            rw [h4, h5]
            go_wp2_with ((go_at_call 128; refine (HAk.out _ (HI2.out.below hB).x.s).mono ?_; rintro e w4 ⟨p4, c4, rfl, hel, -, hb4⟩))
            exact ⟨rfl, hb4, ⟨p4, c4, rfl, hel⟩⟩
          · intro vals W hB ⟨⟨pu6, cu6, h6, hz6⟩, _⟩
            have h6 : vals 6 = _ := h6
            dsimp only [putsL, slotOf]
            rw [h6]
            go_wp2_with ((go_at_call 140; refine (HTk.out _ _ _ hz6).mono ?_; rintro e w4 ⟨rfl, hd⟩; have hb4 := below_drewN6 hd))
            exact ⟨rfl, hb4, rfl⟩
          · intro vals W hB ⟨h3, h7, _⟩
            have h3 : vals 3 = _ := h3
            have h7 : vals 7 = _ := h7
            have hsz := HSB.out; have hlk := HLT.out; have he : Veil (((1 + sz - lk : Nat) : Int) - ts = ((1 + sz - lk - ts : Nat) : Int)) := ⟨by omega⟩
            dsimp only [putsL, slotOf]
            rw [h3, h7]
            go_wp2
            exact ⟨rfl, Below.refl _ _, congrArg (Value.int IntKind.i64) he.out⟩
          rintro vals W hB ⟨q0, q1, q2, q3, q4, q5, ⟨pu6, cu6, q6, hz6⟩, q7, q8, -⟩
          have h0 : vals 0 = _ := q0
          have h1 : vals 1 = _ := q1
          have h2 : vals 2 = _ := q2
          have h3 : vals 3 = _ := q3
          have h4 : vals 4 = _ := q4
          have h5 : vals 5 = _ := q5
          have h6 : vals 6 = _ := q6
          have h7 : vals 7 = _ := q7
          have h8 : vals 8 = _ := q8
          dsimp only [putsL]
          rw [h0, h1, h2, h3, h4, h5, h6, h7, h8]
          clear h0 q0 h1 q1 h2 q2 h3 q3 h4 q4 h5 q5 h6 q6 h7 q7 h8 q8
          simp only [List.length_cons, List.length_nil, Nat.reduceAdd, List.drop_succ_cons, List.drop_zero, List.setIfInBounds_toArray, List.set_cons_succ, List.set_cons_zero]
          have HI3 : Veil _ := ⟨HI2.out.below hB⟩
          have HB2 : Veil _ := ⟨hB⟩
          clear hB HI2 c7
          have x3 := HI3.out.c3.cell
          have x4 := HI3.out.c4.cell
          have x6 := HI3.out.c6.cell
          have x8 := HI3.out.c8.cell
          have y3 := HI3.out.c3.fro
          have hkn : k ≤ 300000 := by omega
          obtain ⟨rk, hrk⟩ : ∃ rk, 1 + sz - lk - ts = rk := ⟨_, rfl⟩
          rw [hrk] at HG ⊢
          have hrb : rk ≤ 500000000001 := by have := HSB.out; omega
          have hlb : lk ≤ 500000000000 := by have := HSB.out; have := HLT.out; omega
          clear hrk
          by_cases hmx : lk < rk
          · have hg : rk = g := by rw [HG.out]; omega
            clear HG
            subst hg
            by_cases hk1 : 1 ≤ k
            · by_cases hpl : pl = 0
              · have HP : Veil _ := ⟨hpl⟩
                have hp1 : ((pl : Int) == 0) = true := by rw [beq_iff_eq]; omega
                clear hpl
                obtain ⟨hbest, hTu, hd4, hd8⟩ := HI3.out.best HH.out k rk ((lk : Int) + pk)
                have z4 := hd4.cell
                have y4 := hd4.fro
                have z8 := hd8.cell
                have y8 := hd8.fro
                obtain ⟨U1, hU1⟩ : ∃ U1, W.setCell ⟨B3, 0, none⟩ (.int .i64 k) = U1 := ⟨_, rfl⟩
                rw [hU1] at hbest hTu z4 y4 z8 y8
                obtain ⟨U2, hU2⟩ : ∃ U2, U1.setCell ⟨B4, 0, none⟩ (.int .i64 rk) = U2 := ⟨_, rfl⟩
                rw [hU2] at hbest hTu z8 y8
                obtain ⟨U3, hU3⟩ : ∃ U3, U2.setCell ⟨B8, 0, none⟩ (.int .i64 ((lk : Int) + pk)) = U3 := ⟨_, rfl⟩
                rw [hU3] at hbest hTu
                have HBe : Veil _ := ⟨hbest⟩
                have HTu : Veil _ := ⟨hTu⟩
                clear hbest hTu hd4 hd8
                go_wp2
                refine only_normal ?_
                gi_wp2
                refine ⟨keepsFrom_turned6 ((Turned.new (F := fun k => k = B3 ∨ k = B4 ∨ k = B8) HB2.out).then HTu.out (fun k _ h => h)) (fun j hj => .inl (by have := HZ.out; have := HBe.out.o; omega)), ?_⟩
                try refine ⟨.inr (by omega), ?_⟩
                rw [HST.out, if_pos ⟨hk1, .inl HP.out⟩, HLk.out, Int.natCast_add]
                exact HBe.out
              · have hp1 : ((pl : Int) == 0) = false := by rw [beq_eq_false_iff_ne]; omega
                by_cases hgf : rk < fw
                · obtain ⟨hbest, hTu, hd4, hd8⟩ := HI3.out.best HH.out k rk ((lk : Int) + pk)
                  have z4 := hd4.cell
                  have y4 := hd4.fro
                  have z8 := hd8.cell
                  have y8 := hd8.fro
                  obtain ⟨U1, hU1⟩ : ∃ U1, W.setCell ⟨B3, 0, none⟩ (.int .i64 k) = U1 := ⟨_, rfl⟩
                  rw [hU1] at hbest hTu z4 y4 z8 y8
                  obtain ⟨U2, hU2⟩ : ∃ U2, U1.setCell ⟨B4, 0, none⟩ (.int .i64 rk) = U2 := ⟨_, rfl⟩
                  rw [hU2] at hbest hTu z8 y8
                  obtain ⟨U3, hU3⟩ : ∃ U3, U2.setCell ⟨B8, 0, none⟩ (.int .i64 ((lk : Int) + pk)) = U3 := ⟨_, rfl⟩
                  rw [hU3] at hbest hTu
                  have HBe : Veil _ := ⟨hbest⟩
                  have HTu : Veil _ := ⟨hTu⟩
                  clear hbest hTu hd4 hd8
                  go_wp2
                  refine only_normal ?_
                  gi_wp2
                  refine ⟨keepsFrom_turned6 ((Turned.new (F := fun k => k = B3 ∨ k = B4 ∨ k = B8) HB2.out).then HTu.out (fun k _ h => h)) (fun j hj => .inl (by have := HZ.out; have := HBe.out.o; omega)), ?_⟩
                  try refine ⟨.inr (by omega), ?_⟩
                  rw [HST.out, if_pos ⟨hk1, .inr hgf⟩, HLk.out, Int.natCast_add]
                  exact HBe.out
                · replace hgf : fw ≤ rk := by omega
                  obtain ⟨hbest, hTu⟩ := HI3.out.more HH.out ((lk : Int) + pk)
                  have y8 := HI3.out.c8.fro
                  have HBe : Veil _ := ⟨hbest⟩
                  have HTu : Veil _ := ⟨hTu⟩
                  clear hbest hTu
                  go_wp2
                  refine only_normal ?_
                  gi_wp2
                  refine ⟨keepsFrom_turned6 ((Turned.new (F := fun k => k = B3 ∨ k = B4 ∨ k = B8) HB2.out).then HTu.out (fun k _ h => h)) (fun j hj => .inl (by have := HZ.out; have := HBe.out.o; omega)), ?_⟩
                  try refine ⟨.inr (by omega), ?_⟩
                  rw [HST.out, if_neg (fun h => by rcases h.2 with h | h <;> omega), HLk.out, Int.natCast_add]
                  exact HBe.out
            · replace hk1 : k < 1 := by omega
              by_cases hpl : pl = 0
              · have hp1 : ((pl : Int) == 0) = true := by rw [beq_iff_eq]; omega
                clear hpl
                obtain ⟨hbest, hTu⟩ := HI3.out.more HH.out ((lk : Int) + pk)
                have y8 := HI3.out.c8.fro
                have HBe : Veil _ := ⟨hbest⟩
                have HTu : Veil _ := ⟨hTu⟩
                clear hbest hTu
                go_wp2
                refine only_normal ?_
                gi_wp2
                refine ⟨keepsFrom_turned6 ((Turned.new (F := fun k => k = B3 ∨ k = B4 ∨ k = B8) HB2.out).then HTu.out (fun k _ h => h)) (fun j hj => .inl (by have := HZ.out; have := HBe.out.o; omega)), ?_⟩
                try refine ⟨.inr (by omega), ?_⟩
                rw [HST.out, if_neg (fun h => by omega), HLk.out, Int.natCast_add]
                exact HBe.out
              · have hp1 : ((pl : Int) == 0) = false := by rw [beq_eq_false_iff_ne]; omega
                by_cases hgf : rk < fw
                · obtain ⟨hbest, hTu⟩ := HI3.out.more HH.out ((lk : Int) + pk)
                  have y8 := HI3.out.c8.fro
                  have HBe : Veil _ := ⟨hbest⟩
                  have HTu : Veil _ := ⟨hTu⟩
                  clear hbest hTu
                  go_wp2
                  refine only_normal ?_
                  gi_wp2
                  refine ⟨keepsFrom_turned6 ((Turned.new (F := fun k => k = B3 ∨ k = B4 ∨ k = B8) HB2.out).then HTu.out (fun k _ h => h)) (fun j hj => .inl (by have := HZ.out; have := HBe.out.o; omega)), ?_⟩
                  try refine ⟨.inr (by omega), ?_⟩
                  rw [HST.out, if_neg (fun h => by omega), HLk.out, Int.natCast_add]
                  exact HBe.out
                · replace hgf : fw ≤ rk := by omega
                  obtain ⟨hbest, hTu⟩ := HI3.out.more HH.out ((lk : Int) + pk)
                  have y8 := HI3.out.c8.fro
                  have HBe : Veil _ := ⟨hbest⟩
                  have HTu : Veil _ := ⟨hTu⟩
                  clear hbest hTu
                  go_wp2
                  refine only_normal ?_
                  gi_wp2
                  refine ⟨keepsFrom_turned6 ((Turned.new (F := fun k => k = B3 ∨ k = B4 ∨ k = B8) HB2.out).then HTu.out (fun k _ h => h)) (fun j hj => .inl (by have := HZ.out; have := HBe.out.o; omega)), ?_⟩
                  try refine ⟨.inr (by omega), ?_⟩
                  rw [HST.out, if_neg (fun h => by omega), HLk.out, Int.natCast_add]
                  exact HBe.out
          · have hg : lk = g := by rw [HG.out]; omega
            clear HG
            subst hg
            replace hmx : rk ≤ lk := by omega
            by_cases hk1 : 1 ≤ k
            · by_cases hpl : pl = 0
              · have HP : Veil _ := ⟨hpl⟩
                have hp1 : ((pl : Int) == 0) = true := by rw [beq_iff_eq]; omega
                clear hpl
                obtain ⟨hbest, hTu, hd4, hd8⟩ := HI3.out.best HH.out k lk ((lk : Int) + pk)
                have z4 := hd4.cell
                have y4 := hd4.fro
                have z8 := hd8.cell
                have y8 := hd8.fro
                obtain ⟨U1, hU1⟩ : ∃ U1, W.setCell ⟨B3, 0, none⟩ (.int .i64 k) = U1 := ⟨_, rfl⟩
                rw [hU1] at hbest hTu z4 y4 z8 y8
                obtain ⟨U2, hU2⟩ : ∃ U2, U1.setCell ⟨B4, 0, none⟩ (.int .i64 lk) = U2 := ⟨_, rfl⟩
                rw [hU2] at hbest hTu z8 y8
                obtain ⟨U3, hU3⟩ : ∃ U3, U2.setCell ⟨B8, 0, none⟩ (.int .i64 ((lk : Int) + pk)) = U3 := ⟨_, rfl⟩
                rw [hU3] at hbest hTu
                have HBe : Veil _ := ⟨hbest⟩
                have HTu : Veil _ := ⟨hTu⟩
                clear hbest hTu hd4 hd8
                go_wp2
                refine only_normal ?_
                gi_wp2
                refine ⟨keepsFrom_turned6 ((Turned.new (F := fun k => k = B3 ∨ k = B4 ∨ k = B8) HB2.out).then HTu.out (fun k _ h => h)) (fun j hj => .inl (by have := HZ.out; have := HBe.out.o; omega)), ?_⟩
                try refine ⟨.inr (by omega), ?_⟩
                rw [HST.out, if_pos ⟨hk1, .inl HP.out⟩, HLk.out, Int.natCast_add]
                exact HBe.out
              · have hp1 : ((pl : Int) == 0) = false := by rw [beq_eq_false_iff_ne]; omega
                by_cases hgf : lk < fw
                · obtain ⟨hbest, hTu, hd4, hd8⟩ := HI3.out.best HH.out k lk ((lk : Int) + pk)
                  have z4 := hd4.cell
                  have y4 := hd4.fro
                  have z8 := hd8.cell
                  have y8 := hd8.fro
                  obtain ⟨U1, hU1⟩ : ∃ U1, W.setCell ⟨B3, 0, none⟩ (.int .i64 k) = U1 := ⟨_, rfl⟩
                  rw [hU1] at hbest hTu z4 y4 z8 y8
                  obtain ⟨U2, hU2⟩ : ∃ U2, U1.setCell ⟨B4, 0, none⟩ (.int .i64 lk) = U2 := ⟨_, rfl⟩
                  rw [hU2] at hbest hTu z8 y8
                  obtain ⟨U3, hU3⟩ : ∃ U3, U2.setCell ⟨B8, 0, none⟩ (.int .i64 ((lk : Int) + pk)) = U3 := ⟨_, rfl⟩
                  rw [hU3] at hbest hTu
                  have HBe : Veil _ := ⟨hbest⟩
                  have HTu : Veil _ := ⟨hTu⟩
                  clear hbest hTu hd4 hd8
                  go_wp2
                  refine only_normal ?_
                  gi_wp2
                  refine ⟨keepsFrom_turned6 ((Turned.new (F := fun k => k = B3 ∨ k = B4 ∨ k = B8) HB2.out).then HTu.out (fun k _ h => h)) (fun j hj => .inl (by have := HZ.out; have := HBe.out.o; omega)), ?_⟩
                  try refine ⟨.inr (by omega), ?_⟩
                  rw [HST.out, if_pos ⟨hk1, .inr hgf⟩, HLk.out, Int.natCast_add]
                  exact HBe.out
                · replace hgf : fw ≤ lk := by omega
                  obtain ⟨hbest, hTu⟩ := HI3.out.more HH.out ((lk : Int) + pk)
                  have y8 := HI3.out.c8.fro
                  have HBe : Veil _ := ⟨hbest⟩
                  have HTu : Veil _ := ⟨hTu⟩
                  clear hbest hTu
                  go_wp2
                  refine only_normal ?_
                  gi_wp2
                  refine ⟨keepsFrom_turned6 ((Turned.new (F := fun k => k = B3 ∨ k = B4 ∨ k = B8) HB2.out).then HTu.out (fun k _ h => h)) (fun j hj => .inl (by have := HZ.out; have := HBe.out.o; omega)), ?_⟩
                  try refine ⟨.inr (by omega), ?_⟩
                  rw [HST.out, if_neg (fun h => by rcases h.2 with h | h <;> omega), HLk.out, Int.natCast_add]
                  exact HBe.out
            · replace hk1 : k < 1 := by omega
              by_cases hpl : pl = 0
              · have hp1 : ((pl : Int) == 0) = true := by rw [beq_iff_eq]; omega
                clear hpl
                obtain ⟨hbest, hTu⟩ := HI3.out.more HH.out ((lk : Int) + pk)
                have y8 := HI3.out.c8.fro
                have HBe : Veil _ := ⟨hbest⟩
                have HTu : Veil _ := ⟨hTu⟩
                clear hbest hTu
                go_wp2
                refine only_normal ?_
                gi_wp2
                refine ⟨keepsFrom_turned6 ((Turned.new (F := fun k => k = B3 ∨ k = B4 ∨ k = B8) HB2.out).then HTu.out (fun k _ h => h)) (fun j hj => .inl (by have := HZ.out; have := HBe.out.o; omega)), ?_⟩
                try refine ⟨.inr (by omega), ?_⟩
                rw [HST.out, if_neg (fun h => by omega), HLk.out, Int.natCast_add]
                exact HBe.out
              · have hp1 : ((pl : Int) == 0) = false := by rw [beq_eq_false_iff_ne]; omega
                by_cases hgf : lk < fw
                · obtain ⟨hbest, hTu⟩ := HI3.out.more HH.out ((lk : Int) + pk)
                  have y8 := HI3.out.c8.fro
                  have HBe : Veil _ := ⟨hbest⟩
                  have HTu : Veil _ := ⟨hTu⟩
                  clear hbest hTu
                  go_wp2
                  refine only_normal ?_
                  gi_wp2
                  refine ⟨keepsFrom_turned6 ((Turned.new (F := fun k => k = B3 ∨ k = B4 ∨ k = B8) HB2.out).then HTu.out (fun k _ h => h)) (fun j hj => .inl (by have := HZ.out; have := HBe.out.o; omega)), ?_⟩
                  try refine ⟨.inr (by omega), ?_⟩
                  rw [HST.out, if_neg (fun h => by omega), HLk.out, Int.natCast_add]
                  exact HBe.out
                · replace hgf : fw ≤ lk := by omega
                  obtain ⟨hbest, hTu⟩ := HI3.out.more HH.out ((lk : Int) + pk)
                  have y8 := HI3.out.c8.fro
                  have HBe : Veil _ := ⟨hbest⟩
                  have HTu : Veil _ := ⟨hTu⟩
                  clear hbest hTu
                  go_wp2
                  refine only_normal ?_
                  gi_wp2
                  refine ⟨keepsFrom_turned6 ((Turned.new (F := fun k => k = B3 ∨ k = B4 ∨ k = B8) HB2.out).then HTu.out (fun k _ h => h)) (fun j hj => .inl (by have := HZ.out; have := HBe.out.o; omega)), ?_⟩
                  try refine ⟨.inr (by omega), ?_⟩
                  rw [HST.out, if_neg (fun h => by omega), HLk.out, Int.natCast_add]
                  exact HBe.out
      case hend =>
        rintro Dd A hDd ⟨fw, lf, h1⟩ hdd
        have HI : Veil _ := ⟨h1⟩
        have HD : Veil _ := ⟨hdd⟩
        have c3 := h1.c3.cell
        clear h1 hdd
        go_wp2
        try rw [Exit.noGoto_ret]
        refine leaves_mark (D := Dd) (B := w.heap.size) HD.out (by have := HZ.out; omega) ?_
        intro w' hb _
        refine leaves_none (results_int6a rfl rfl) ⟨rfl, ?_⟩
        exact (hb.turned HI.out.t (Nat.le_refl _)).toBelow (Nat.le_refl _) (fun _ _ h => h.elim)
    · obtain rfl : ls = 2 := by rw [HLE.out, if_neg hd]
      replace hd : 0 < n.ds.length := by omega
      go_wp2
      go_step3
      go_wp2_with (go_at_call 78; refine (HSz.out _ HB.out.s).mono ?_; rintro e w3 ⟨rfl, hb⟩; replace HB : Veil _ := ⟨HB.out.below hb⟩; have HW3 : Veil (w.heap.size < w3.heap.size) := ⟨lt_of_heap HB.out.b⟩; obtain ⟨w4, w5, w6, w7, w8, w9, hw4, hw5, hw6, hw7, hw8, hw9, ⟨c6, f6⟩, ⟨c7, f7⟩, ⟨c8, f8⟩, HTI⟩ := three_int w3 0 0 sz; replace HB : Veil _ := ⟨HB.out.below HTI.out.2.2.2.1⟩; have c9 := HTI.out.2.2.1.cell; clear hb a0 a1 a2; obtain ⟨w10, w11, w12, w13, hw10, hw11, hw12, hw13, ⟨c10, f10⟩, c11, HTM⟩ := more_int2 w9 1 2 ((n.ps.length : Int) + n.ds.length - 2) 1; obtain ⟨a0, a1, a2⟩ := (HB.out.below HTM.out.2.2.2.2.1.1).cells; obtain ⟨d0, d1, d2⟩ := (HB.out.below HTM.out.2.2.2.2.1.2).cells; obtain ⟨e0, e1, e2⟩ := (HB.out.below HTM.out.2.2.2.1).cells)
      go_step3
      go_wp2_with (go_at_call 109; refine (HPa.out _ (HB.out.s.below HTM.out.2.2.2.1)).mono ?_; rintro e w14 ⟨Bx, rfl, hrd, hb14⟩)
      obtain ⟨B3, e3'⟩ : ∃ B3, w3.heap.size = B3 := ⟨_, rfl⟩
      obtain ⟨B4, e4'⟩ : ∃ B4, w4.heap.size = B4 := ⟨_, rfl⟩
      obtain ⟨B5, e5'⟩ : ∃ B5, w5.heap.size = B5 := ⟨_, rfl⟩
      obtain ⟨B6, e6'⟩ : ∃ B6, w9.heap.size = B6 := ⟨_, rfl⟩
      obtain ⟨B7, e7'⟩ : ∃ B7, w11.heap.size = B7 := ⟨_, rfl⟩
      obtain ⟨B8, e8'⟩ : ∃ B8, w12.heap.size = B8 := ⟨_, rfl⟩
      have HI0 : Veil (SpI w B3 B4 B5 B6 B7 B8 Bx n a sz 2 ((n.ps.length : Int) + n.ds.length - 2) 0 0 1 w14) := ⟨by
        rw [← e3', ← e4', ← e5', ← e6', ← e7', ← e8']
        have hT := HTI.out
        have hM := HTM.out
        have hb13 := hM.2.2.2.1
        have hX := (HB.out.below hb13).below hb14
        have h3 := HW3.out
        have h9 := lt_of_heap hT.2.2.1
        exact ⟨⟨hX.b, hX.s⟩, (hT.1.below hb13).below hb14, (hT.2.1.below hb13).below hb14, (hT.2.2.1.below hb13).below hb14, hM.1.below hb14, hM.2.1.below hb14, hM.2.2.1.below hb14, hrd, Turned.new hX.x, by omega⟩⟩
      rw [e3', e4', e5', e6', e7', e8']
      clear e3' e4' e5' e6' e7' e8' hw4 hw5 hw6 hw7 hw8 hw9 hw10 hw11 hw12 hw13 c6 f6 c7 f7 c8 f8 c9 c10 f10 c11 d0 d1 d2 a0 a1 a2 e0 e1 e2 HTI HTM HB hrd hb14 HW3 hW1 HSz HPa
      have HZ : Veil (w.heap.size < w14.heap.size ∧ B8 < w14.heap.size) := ⟨by have := lt_of_heap HI0.out.y.b; have := lt_of_heap HI0.out.c8; omega⟩
      refine wp_range_break (gf := 139) (lb := #[.pointer (some ⟨Bx, 0, none⟩)]) rfl (enters_of Tryz.func139 (by kernel_rfl) rfl)
        (HSq.out Bx) (fun k => rfl)
        (fun k A => (k = 0 ∨ k + 2 ≤ n.ps.length + n.ds.length + 1) ∧ SpI w B3 B4 B5 B6 B7 B8 Bx n a sz 2 ((n.ps.length : Int) + n.ds.length - 2) ((cutSt 2 G k).1 : Nat) ((cutSt 2 G k).2 : Nat) (L k : Nat) A)
        (fun A => ∃ fw lf, SpI w B3 B4 B5 B6 B7 B8 Bx n a sz 2 ((n.ps.length : Int) + n.ds.length - 2) CA fw lf A) ?hI ?hE ?hF ?h0 ?hN ?hround ?hend
      case hI => rintro k A A' ⟨h0, h1⟩ hb; exact ⟨h0, h1.booked hb (by have := HZ.out; omega)⟩
      case hE => rintro A A' ⟨fw, lf, h1⟩ hb; exact ⟨fw, lf, h1.booked hb (by have := HZ.out; omega)⟩
      case hF => rintro k A ⟨_, h⟩; exact h.x
      case h0 => exact ⟨.inl rfl, by rw [HL0.out]; exact HI0.out⟩
      case hN =>
        rintro A ⟨h1, h2⟩
        obtain rfl : CA = (cutSt 2 G (n.ps.length + n.ds.length)).1 := by rw [HCA.out]; congr 2 <;> omega
        exact ⟨_, _, h2⟩
      case hround =>
        rintro l m k A hl2 hlt ⟨hkE, hi⟩
        simp only [List.zip_cons_cons, List.zip_nil_right, List.foldl_cons, List.foldl_nil, List.setIfInBounds_toArray, List.set_cons_succ, List.set_cons_zero]
        have HI1 : Veil _ := ⟨hi⟩
        have HST : Veil (cutSt 2 G (k + 1) = if 2 ≤ k ∧ ((cutSt 2 G k).1 = 0 ∨ G k < (cutSt 2 G k).2) then (k, G k) else cutSt 2 G k) := ⟨rfl⟩
        have HCE : Veil (n.ps.length + n.ds.length < k + 2 → CA = (cutSt 2 G k).1) := ⟨fun h => by rw [HCA.out]; congr 2 <;> omega⟩
        have hpk := HPL.out k hlt
        have HLk : Veil _ := ⟨HLS.out k⟩
        have HG : Veil _ := ⟨HLG.out k⟩
        have HLT : Veil _ := ⟨HIN.out k hlt⟩
        have hka : n.ks.length = 0 ∨ k ≤ n.ks.length := by rcases HLK.out with h | h <;> omega
        have HAk : Veil _ := ⟨HA.out k hka (by rcases HLK.out with h | h <;> omega)⟩
        have hT1 := Nd.ahead_mem hka HOk.out.kt
        have hT2 := n.ahead_len k
        have HTk : Veil (∀ W p c, Els elK W p (n.ahead k) → Calls Tryz.prog 140 #[.slice p (n.ahead k).length c] W fun e w' => e = .returned (.int .i64 (tsz (n.ahead k))) ∧ ∃ n, w' = W.drewN n) := ⟨fun W p c h => HTx.out W p c _ h hT1 hT2⟩
        clear hi hT1 hT2 hka HA HTx HPL HLS HLG HIN HLK HI0
        revert HST; revert HCE; revert HLk; revert HG; revert HLT; revert HAk; revert HTk; revert HI1
        generalize cutSt 2 G (k + 1) = st'
        generalize cutSt 2 G k = st
        generalize G k = g
        generalize L (k + 1) = lk'
        generalize hlk : L k = lk
        generalize tsz (n.ahead k) = ts
        generalize n.ahead k = T
        generalize part k = pk at *
        obtain ⟨pl, fw⟩ := st
        clear hlk
        dsimp only
        intro HI1 HTk HAk HLT HG HLk HCE HST
        gi_wp2
        refine ⟨KeepsFrom.refl _ _, fun A2 hbk hsz => ?_⟩
        have HI2 : Veil _ := ⟨HI1.out.booked hbk (by have := HZ.out; omega)⟩
        clear hbk hsz HI1
        have c7 := HI2.out.c7.cell
        by_cases hkl : n.ps.length + n.ds.length < k + 2
        · gi_wp2
          all_goals exact ⟨KeepsFrom.refl _ _, rfl, fw, lk, by rw [HCE.out hkl]; exact HI2.out⟩
        · replace hkl : k + 2 ≤ n.ps.length + n.ds.length := by omega
          clear HCE
          gi_wp2
          refine region_new_in [.is (.int .i64 sz), .is (.int .i64 ((1 + sz : Nat) : Int)), .is (.int .i64 lk), .is (.int .i64 ((1 + sz - lk : Nat) : Int)), .is (.agg #[.slice a.pp n.ps.length a.cp, .slice a.pk n.ks.length a.ck, .slice a.pd n.ds.length a.cd]), .is (.int .i64 k), .gen (fun v W => ∃ p c, v = .slice p T.length c ∧ Els elK W p T) (fun v W W' hb ⟨p, c, h1, h2⟩ => ⟨p, c, h1, h2.below hb⟩), .is (.int .i64 ts), .is (.int .i64 ((1 + sz - lk - ts : Nat) : Int))]
            [[], [(0, 37)], [], [(1, 38), (2, 39)], [], [], [(4, 41), (5, 42)], [(6, 43)], [(3, 40), (7, 44)]]
            [[], [0], [], [1, 2], [], [], [4, 5], [6], [3, 7]]
            [(0, 37), (1, 38), (2, 39), (3, 40), (4, 41), (5, 42), (6, 43), (7, 44), (8, 45)] rfl (by kernel_rfl) rfl ⟨?_, ?_, ?_, ?_, ?_, ?_, ?_, ?_, ?_, trivial⟩ ?_
          · intro vals W hB _
            have c5 := cell_row6 (HI2.out.below hB).c5
            dsimp only [putsL, slotOf]
            go_wp2
            exact ⟨rfl, Below.refl _ _, rfl⟩
          · intro vals W hB ⟨h0, _⟩
            have h0 : vals 0 = _ := h0
            have hsz := HSB.out
            dsimp only [putsL, slotOf]
            rw [h0]
            go_wp2
            exact ⟨rfl, Below.refl _ _, by go_num⟩
          · intro vals W hB _
            have c8 := cell_row6 (HI2.out.below hB).c8
            dsimp only [putsL, slotOf]
            go_wp2
            exact ⟨rfl, Below.refl _ _, rfl⟩
          · intro vals W hB ⟨h1, h2, _⟩
            have h1 : vals 1 = _ := h1
            have h2 : vals 2 = _ := h2
            have hsz := HSB.out; have hlk := HLT.out; have he : Veil (((1 + sz : Nat) : Int) - lk = ((1 + sz - lk : Nat) : Int)) := ⟨by omega⟩; have he' : Veil (1 + (sz : Int) - lk = ((1 + sz - lk : Nat) : Int)) := ⟨by omega⟩
            dsimp only [putsL, slotOf]
            rw [h1, h2]
            go_wp2
            exact ⟨rfl, Below.refl _ _, by first | exact congrArg (Value.int IntKind.i64) he.out | exact congrArg (Value.int IntKind.i64) he'.out⟩
          · intro vals W hB _
            obtain ⟨a0, a1, a2⟩ := (HI2.out.below hB).y.cells
            dsimp only [putsL, slotOf]
            go_wp2
            exact ⟨rfl, Below.refl _ _, rfl⟩
          · intro vals W hB _
            dsimp only [putsL, slotOf]
            go_wp2
            exact ⟨rfl, Below.refl _ _, rfl⟩
          · intro vals W hB ⟨h4, h5, _⟩
            have h4 : vals 4 = _ := h4
            have h5 : vals 5 = _ := h5
            dsimp only [putsL, slotOf]
            rw [h4, h5]
            go_wp2_with ((go_at_call 128; refine (HAk.out _ (HI2.out.below hB).x.s).mono ?_; rintro e w4 ⟨p4, c4, rfl, hel, -, hb4⟩))
            exact ⟨rfl, hb4, ⟨p4, c4, rfl, hel⟩⟩
          · intro vals W hB ⟨⟨pu6, cu6, h6, hz6⟩, _⟩
            have h6 : vals 6 = _ := h6
            dsimp only [putsL, slotOf]
            rw [h6]
            go_wp2_with ((go_at_call 140; refine (HTk.out _ _ _ hz6).mono ?_; rintro e w4 ⟨rfl, hd⟩; have hb4 := below_drewN6 hd))
            exact ⟨rfl, hb4, rfl⟩
          · intro vals W hB ⟨h3, h7, _⟩
            have h3 : vals 3 = _ := h3
            have h7 : vals 7 = _ := h7
            have hsz := HSB.out; have hlk := HLT.out; have he : Veil (((1 + sz - lk : Nat) : Int) - ts = ((1 + sz - lk - ts : Nat) : Int)) := ⟨by omega⟩
            dsimp only [putsL, slotOf]
            rw [h3, h7]
            go_wp2
            exact ⟨rfl, Below.refl _ _, congrArg (Value.int IntKind.i64) he.out⟩
          rintro vals W hB ⟨q0, q1, q2, q3, q4, q5, ⟨pu6, cu6, q6, hz6⟩, q7, q8, -⟩
          have h0 : vals 0 = _ := q0
          have h1 : vals 1 = _ := q1
          have h2 : vals 2 = _ := q2
          have h3 : vals 3 = _ := q3
          have h4 : vals 4 = _ := q4
          have h5 : vals 5 = _ := q5
          have h6 : vals 6 = _ := q6
          have h7 : vals 7 = _ := q7
          have h8 : vals 8 = _ := q8
          dsimp only [putsL]
          rw [h0, h1, h2, h3, h4, h5, h6, h7, h8]
          clear h0 q0 h1 q1 h2 q2 h3 q3 h4 q4 h5 q5 h6 q6 h7 q7 h8 q8
          simp only [List.length_cons, List.length_nil, Nat.reduceAdd, List.drop_succ_cons, List.drop_zero, List.setIfInBounds_toArray, List.set_cons_succ, List.set_cons_zero]
          have HI3 : Veil _ := ⟨HI2.out.below hB⟩
          have HB2 : Veil _ := ⟨hB⟩
          clear hB HI2 c7
          have x3 := HI3.out.c3.cell
          have x4 := HI3.out.c4.cell
          have x6 := HI3.out.c6.cell
          have x8 := HI3.out.c8.cell
          have y3 := HI3.out.c3.fro
          have hkn : k ≤ 300000 := by omega
          obtain ⟨rk, hrk⟩ : ∃ rk, 1 + sz - lk - ts = rk := ⟨_, rfl⟩
          rw [hrk] at HG ⊢
          have hrb : rk ≤ 500000000001 := by have := HSB.out; omega
          have hlb : lk ≤ 500000000000 := by have := HSB.out; have := HLT.out; omega
          clear hrk
          by_cases hmx : lk < rk
          · have hg : rk = g := by rw [HG.out]; omega
            clear HG
            subst hg
            by_cases hk1 : 2 ≤ k
            · by_cases hpl : pl = 0
              · have HP : Veil _ := ⟨hpl⟩
                have hp1 : ((pl : Int) == 0) = true := by rw [beq_iff_eq]; omega
                clear hpl
                obtain ⟨hbest, hTu, hd4, hd8⟩ := HI3.out.best HH.out k rk ((lk : Int) + pk)
                have z4 := hd4.cell
                have y4 := hd4.fro
                have z8 := hd8.cell
                have y8 := hd8.fro
                obtain ⟨U1, hU1⟩ : ∃ U1, W.setCell ⟨B3, 0, none⟩ (.int .i64 k) = U1 := ⟨_, rfl⟩
                rw [hU1] at hbest hTu z4 y4 z8 y8
                obtain ⟨U2, hU2⟩ : ∃ U2, U1.setCell ⟨B4, 0, none⟩ (.int .i64 rk) = U2 := ⟨_, rfl⟩
                rw [hU2] at hbest hTu z8 y8
                obtain ⟨U3, hU3⟩ : ∃ U3, U2.setCell ⟨B8, 0, none⟩ (.int .i64 ((lk : Int) + pk)) = U3 := ⟨_, rfl⟩
                rw [hU3] at hbest hTu
                have HBe : Veil _ := ⟨hbest⟩
                have HTu : Veil _ := ⟨hTu⟩
                clear hbest hTu hd4 hd8
                go_wp2
                refine only_normal ?_
                gi_wp2
                refine ⟨keepsFrom_turned6 ((Turned.new (F := fun k => k = B3 ∨ k = B4 ∨ k = B8) HB2.out).then HTu.out (fun k _ h => h)) (fun j hj => .inl (by have := HZ.out; have := HBe.out.o; omega)), ?_⟩
                try refine ⟨.inr (by omega), ?_⟩
                rw [HST.out, if_pos ⟨hk1, .inl HP.out⟩, HLk.out, Int.natCast_add]
                exact HBe.out
              · have hp1 : ((pl : Int) == 0) = false := by rw [beq_eq_false_iff_ne]; omega
                by_cases hgf : rk < fw
                · obtain ⟨hbest, hTu, hd4, hd8⟩ := HI3.out.best HH.out k rk ((lk : Int) + pk)
                  have z4 := hd4.cell
                  have y4 := hd4.fro
                  have z8 := hd8.cell
                  have y8 := hd8.fro
                  obtain ⟨U1, hU1⟩ : ∃ U1, W.setCell ⟨B3, 0, none⟩ (.int .i64 k) = U1 := ⟨_, rfl⟩
                  rw [hU1] at hbest hTu z4 y4 z8 y8
                  obtain ⟨U2, hU2⟩ : ∃ U2, U1.setCell ⟨B4, 0, none⟩ (.int .i64 rk) = U2 := ⟨_, rfl⟩
                  rw [hU2] at hbest hTu z8 y8
                  obtain ⟨U3, hU3⟩ : ∃ U3, U2.setCell ⟨B8, 0, none⟩ (.int .i64 ((lk : Int) + pk)) = U3 := ⟨_, rfl⟩
                  rw [hU3] at hbest hTu
                  have HBe : Veil _ := ⟨hbest⟩
                  have HTu : Veil _ := ⟨hTu⟩
                  clear hbest hTu hd4 hd8
                  go_wp2
                  refine only_normal ?_
                  gi_wp2
                  refine ⟨keepsFrom_turned6 ((Turned.new (F := fun k => k = B3 ∨ k = B4 ∨ k = B8) HB2.out).then HTu.out (fun k _ h => h)) (fun j hj => .inl (by have := HZ.out; have := HBe.out.o; omega)), ?_⟩
                  try refine ⟨.inr (by omega), ?_⟩
                  rw [HST.out, if_pos ⟨hk1, .inr hgf⟩, HLk.out, Int.natCast_add]
                  exact HBe.out
                · replace hgf : fw ≤ rk := by omega
                  obtain ⟨hbest, hTu⟩ := HI3.out.more HH.out ((lk : Int) + pk)
                  have y8 := HI3.out.c8.fro
                  have HBe : Veil _ := ⟨hbest⟩
                  have HTu : Veil _ := ⟨hTu⟩
                  clear hbest hTu
                  go_wp2
                  refine only_normal ?_
                  gi_wp2
                  refine ⟨keepsFrom_turned6 ((Turned.new (F := fun k => k = B3 ∨ k = B4 ∨ k = B8) HB2.out).then HTu.out (fun k _ h => h)) (fun j hj => .inl (by have := HZ.out; have := HBe.out.o; omega)), ?_⟩
                  try refine ⟨.inr (by omega), ?_⟩
                  rw [HST.out, if_neg (fun h => by rcases h.2 with h | h <;> omega), HLk.out, Int.natCast_add]
                  exact HBe.out
            · replace hk1 : k < 2 := by omega
              by_cases hpl : pl = 0
              · have hp1 : ((pl : Int) == 0) = true := by rw [beq_iff_eq]; omega
                clear hpl
                obtain ⟨hbest, hTu⟩ := HI3.out.more HH.out ((lk : Int) + pk)
                have y8 := HI3.out.c8.fro
                have HBe : Veil _ := ⟨hbest⟩
                have HTu : Veil _ := ⟨hTu⟩
                clear hbest hTu
                go_wp2
                refine only_normal ?_
                gi_wp2
                refine ⟨keepsFrom_turned6 ((Turned.new (F := fun k => k = B3 ∨ k = B4 ∨ k = B8) HB2.out).then HTu.out (fun k _ h => h)) (fun j hj => .inl (by have := HZ.out; have := HBe.out.o; omega)), ?_⟩
                try refine ⟨.inr (by omega), ?_⟩
                rw [HST.out, if_neg (fun h => by omega), HLk.out, Int.natCast_add]
                exact HBe.out
              · have hp1 : ((pl : Int) == 0) = false := by rw [beq_eq_false_iff_ne]; omega
                by_cases hgf : rk < fw
                · obtain ⟨hbest, hTu⟩ := HI3.out.more HH.out ((lk : Int) + pk)
                  have y8 := HI3.out.c8.fro
                  have HBe : Veil _ := ⟨hbest⟩
                  have HTu : Veil _ := ⟨hTu⟩
                  clear hbest hTu
                  go_wp2
                  refine only_normal ?_
                  gi_wp2
                  refine ⟨keepsFrom_turned6 ((Turned.new (F := fun k => k = B3 ∨ k = B4 ∨ k = B8) HB2.out).then HTu.out (fun k _ h => h)) (fun j hj => .inl (by have := HZ.out; have := HBe.out.o; omega)), ?_⟩
                  try refine ⟨.inr (by omega), ?_⟩
                  rw [HST.out, if_neg (fun h => by omega), HLk.out, Int.natCast_add]
                  exact HBe.out
                · replace hgf : fw ≤ rk := by omega
                  obtain ⟨hbest, hTu⟩ := HI3.out.more HH.out ((lk : Int) + pk)
                  have y8 := HI3.out.c8.fro
                  have HBe : Veil _ := ⟨hbest⟩
                  have HTu : Veil _ := ⟨hTu⟩
                  clear hbest hTu
                  go_wp2
                  refine only_normal ?_
                  gi_wp2
                  refine ⟨keepsFrom_turned6 ((Turned.new (F := fun k => k = B3 ∨ k = B4 ∨ k = B8) HB2.out).then HTu.out (fun k _ h => h)) (fun j hj => .inl (by have := HZ.out; have := HBe.out.o; omega)), ?_⟩
                  try refine ⟨.inr (by omega), ?_⟩
                  rw [HST.out, if_neg (fun h => by omega), HLk.out, Int.natCast_add]
                  exact HBe.out
          · have hg : lk = g := by rw [HG.out]; omega
            clear HG
            subst hg
            replace hmx : rk ≤ lk := by omega
            by_cases hk1 : 2 ≤ k
            · by_cases hpl : pl = 0
              · have HP : Veil _ := ⟨hpl⟩
                have hp1 : ((pl : Int) == 0) = true := by rw [beq_iff_eq]; omega
                clear hpl
                obtain ⟨hbest, hTu, hd4, hd8⟩ := HI3.out.best HH.out k lk ((lk : Int) + pk)
                have z4 := hd4.cell
                have y4 := hd4.fro
                have z8 := hd8.cell
                have y8 := hd8.fro
                obtain ⟨U1, hU1⟩ : ∃ U1, W.setCell ⟨B3, 0, none⟩ (.int .i64 k) = U1 := ⟨_, rfl⟩
                rw [hU1] at hbest hTu z4 y4 z8 y8
                obtain ⟨U2, hU2⟩ : ∃ U2, U1.setCell ⟨B4, 0, none⟩ (.int .i64 lk) = U2 := ⟨_, rfl⟩
                rw [hU2] at hbest hTu z8 y8
                obtain ⟨U3, hU3⟩ : ∃ U3, U2.setCell ⟨B8, 0, none⟩ (.int .i64 ((lk : Int) + pk)) = U3 := ⟨_, rfl⟩
                rw [hU3] at hbest hTu
                have HBe : Veil _ := ⟨hbest⟩
                have HTu : Veil _ := ⟨hTu⟩
                clear hbest hTu hd4 hd8
                go_wp2
                refine only_normal ?_
                gi_wp2
                refine ⟨keepsFrom_turned6 ((Turned.new (F := fun k => k = B3 ∨ k = B4 ∨ k = B8) HB2.out).then HTu.out (fun k _ h => h)) (fun j hj => .inl (by have := HZ.out; have := HBe.out.o; omega)), ?_⟩
                try refine ⟨.inr (by omega), ?_⟩
                rw [HST.out, if_pos ⟨hk1, .inl HP.out⟩, HLk.out, Int.natCast_add]
                exact HBe.out
              · have hp1 : ((pl : Int) == 0) = false := by rw [beq_eq_false_iff_ne]; omega
                by_cases hgf : lk < fw
                · obtain ⟨hbest, hTu, hd4, hd8⟩ := HI3.out.best HH.out k lk ((lk : Int) + pk)
                  have z4 := hd4.cell
                  have y4 := hd4.fro
                  have z8 := hd8.cell
                  have y8 := hd8.fro
                  obtain ⟨U1, hU1⟩ : ∃ U1, W.setCell ⟨B3, 0, none⟩ (.int .i64 k) = U1 := ⟨_, rfl⟩
                  rw [hU1] at hbest hTu z4 y4 z8 y8
                  obtain ⟨U2, hU2⟩ : ∃ U2, U1.setCell ⟨B4, 0, none⟩ (.int .i64 lk) = U2 := ⟨_, rfl⟩
                  rw [hU2] at hbest hTu z8 y8
                  obtain ⟨U3, hU3⟩ : ∃ U3, U2.setCell ⟨B8, 0, none⟩ (.int .i64 ((lk : Int) + pk)) = U3 := ⟨_, rfl⟩
                  rw [hU3] at hbest hTu
                  have HBe : Veil _ := ⟨hbest⟩
                  have HTu : Veil _ := ⟨hTu⟩
                  clear hbest hTu hd4 hd8
                  go_wp2
                  refine only_normal ?_
                  gi_wp2
                  refine ⟨keepsFrom_turned6 ((Turned.new (F := fun k => k = B3 ∨ k = B4 ∨ k = B8) HB2.out).then HTu.out (fun k _ h => h)) (fun j hj => .inl (by have := HZ.out; have := HBe.out.o; omega)), ?_⟩
                  try refine ⟨.inr (by omega), ?_⟩
                  rw [HST.out, if_pos ⟨hk1, .inr hgf⟩, HLk.out, Int.natCast_add]
                  exact HBe.out
                · replace hgf : fw ≤ lk := by omega
                  obtain ⟨hbest, hTu⟩ := HI3.out.more HH.out ((lk : Int) + pk)
                  have y8 := HI3.out.c8.fro
                  have HBe : Veil _ := ⟨hbest⟩
                  have HTu : Veil _ := ⟨hTu⟩
                  clear hbest hTu
                  go_wp2
                  refine only_normal ?_
                  gi_wp2
                  refine ⟨keepsFrom_turned6 ((Turned.new (F := fun k => k = B3 ∨ k = B4 ∨ k = B8) HB2.out).then HTu.out (fun k _ h => h)) (fun j hj => .inl (by have := HZ.out; have := HBe.out.o; omega)), ?_⟩
                  try refine ⟨.inr (by omega), ?_⟩
                  rw [HST.out, if_neg (fun h => by rcases h.2 with h | h <;> omega), HLk.out, Int.natCast_add]
                  exact HBe.out
            · replace hk1 : k < 2 := by omega
              by_cases hpl : pl = 0
              · have hp1 : ((pl : Int) == 0) = true := by rw [beq_iff_eq]; omega
                clear hpl
                obtain ⟨hbest, hTu⟩ := HI3.out.more HH.out ((lk : Int) + pk)
                have y8 := HI3.out.c8.fro
                have HBe : Veil _ := ⟨hbest⟩
                have HTu : Veil _ := ⟨hTu⟩
                clear hbest hTu
                go_wp2
                refine only_normal ?_
                gi_wp2
                refine ⟨keepsFrom_turned6 ((Turned.new (F := fun k => k = B3 ∨ k = B4 ∨ k = B8) HB2.out).then HTu.out (fun k _ h => h)) (fun j hj => .inl (by have := HZ.out; have := HBe.out.o; omega)), ?_⟩
                try refine ⟨.inr (by omega), ?_⟩
                rw [HST.out, if_neg (fun h => by omega), HLk.out, Int.natCast_add]
                exact HBe.out
              · have hp1 : ((pl : Int) == 0) = false := by rw [beq_eq_false_iff_ne]; omega
                by_cases hgf : lk < fw
                · obtain ⟨hbest, hTu⟩ := HI3.out.more HH.out ((lk : Int) + pk)
                  have y8 := HI3.out.c8.fro
                  have HBe : Veil _ := ⟨hbest⟩
                  have HTu : Veil _ := ⟨hTu⟩
                  clear hbest hTu
                  go_wp2
                  refine only_normal ?_
                  gi_wp2
                  refine ⟨keepsFrom_turned6 ((Turned.new (F := fun k => k = B3 ∨ k = B4 ∨ k = B8) HB2.out).then HTu.out (fun k _ h => h)) (fun j hj => .inl (by have := HZ.out; have := HBe.out.o; omega)), ?_⟩
                  try refine ⟨.inr (by omega), ?_⟩
                  rw [HST.out, if_neg (fun h => by omega), HLk.out, Int.natCast_add]
                  exact HBe.out
                · replace hgf : fw ≤ lk := by omega
                  obtain ⟨hbest, hTu⟩ := HI3.out.more HH.out ((lk : Int) + pk)
                  have y8 := HI3.out.c8.fro
                  have HBe : Veil _ := ⟨hbest⟩
                  have HTu : Veil _ := ⟨hTu⟩
                  clear hbest hTu
                  go_wp2
                  refine only_normal ?_
                  gi_wp2
                  refine ⟨keepsFrom_turned6 ((Turned.new (F := fun k => k = B3 ∨ k = B4 ∨ k = B8) HB2.out).then HTu.out (fun k _ h => h)) (fun j hj => .inl (by have := HZ.out; have := HBe.out.o; omega)), ?_⟩
                  try refine ⟨.inr (by omega), ?_⟩
                  rw [HST.out, if_neg (fun h => by omega), HLk.out, Int.natCast_add]
                  exact HBe.out
      case hend =>
        rintro Dd A hDd ⟨fw, lf, h1⟩ hdd
        have HI : Veil _ := ⟨h1⟩
        have HD : Veil _ := ⟨hdd⟩
        have c3 := h1.c3.cell
        clear h1 hdd
        go_wp2
        try rw [Exit.noGoto_ret]
        refine leaves_mark (D := Dd) (B := w.heap.size) HD.out (by have := HZ.out; omega) ?_
        intro w' hb _
        refine leaves_none (results_int6a rfl rfl) ⟨rfl, ?_⟩
        exact (hb.turned HI.out.t (Nat.le_refl _)).toBelow (Nat.le_refl _) (fun _ _ h => h.elim)
  · have hr' : n.right = false := by simpa using hr
    obtain rfl : CA = 0 := by rw [HCA.out, if_neg hr]
    have hz := HZ0.out hr'
    have HS0 : Veil (∀ w, NdAt w n a → Calls Tryz.prog 78 #[n.v a] w fun e w' => e = .returned (.int .i64 0) ∧ Below w.heap.size w w') := ⟨fun w h => by have := HSz.out w h; rw [hz] at this; exact this⟩
    clear HSz HCA HA HTx HPa HZ0 hz hok hf
    unfold Nd.v at *
    go_wp2
    go_step3
    go_wp2_with (go_at_call 78; refine (HS0.out _ HB.out.s).mono ?_; rintro e w3 ⟨rfl, hb⟩; replace HB : Veil _ := ⟨HB.out.below hb⟩; obtain ⟨w4, w5, w6, w7, w8, w9, hw4, hw5, hw6, hw7, hw8, hw9, ⟨c6, f6⟩, ⟨c7, f7⟩, ⟨c8, f8⟩, HTI⟩ := three_int w3 0 0 0; replace HB : Veil _ := ⟨HB.out.below HTI.out.2.2.2.1⟩; have c9 := HTI.out.2.2.1.cell; clear hb a0 a1 a2)
    try rw [Exit.noGoto_ret]
    exact leaves_none (results_int6a rfl rfl) ⟨rfl, HB.out.x⟩
end Go.Proofs.YtokbmimbbeedcaaGreatDoor
