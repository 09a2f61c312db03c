/- The walk of Delete (the document's own). -/
import Derived.Test.YtfpcknkinlegcaaKN6
namespace Go.Proofs.Ytfpcknkinlegcaa
open Go Go.RowKit Sm
attribute [local go_sem] Oper.semAt_some

def others (key : List UInt8) (p : Pr) : Bool := decide (p.k ≠ key)
/-- What Delete answers. -/
def Nd.del (n : Nd) (key : List UInt8) : Nd × Bool × Int := if n.leaf then (⟨n.ps.filter (others key), [], []⟩, decide ((n.ps.filter (others key)).length < n.ps.length), 0) else (Nd.zero, false, 60)
def DelPost (w : World) (t : Nd × Bool × Int) (e : Ending) (w' : World) : Prop := ∃ v1 v2 v3, e = .returned (.tuple #[.agg #[v1, v2, v3], .bool t.2.1, .int .i64 t.2.2]) ∧ NdOwn w' w.heap.size v1 v2 v3 t.1 ∧ Below w.heap.size w w'
theorem del_take (P : List Pr) (key : List UInt8) (k : Nat) (h : k < P.length) : (P.take (k + 1)).filter (others key) = (P.take k).filter (others key) ++ if others key (P.getD k Pr.zero) = true then [P.getD k Pr.zero] else [] := by
  have e : P.take (k + 1) = P.take k ++ [P.getD k Pr.zero] := by
    rw [List.take_add_one]; simp [List.getD, h]
  rw [e, List.filter_append]
  simp [List.filter_cons]

set_option maxRecDepth 20000 in
set_option maxHeartbeats 4000000 in
theorem refdelete_of {w : World} {n : Nd} {a : NdP} (h : NdAt w n a) (hok : Veil n.Ok) (key : List UInt8) :
    Calls Try.prog 24 #[n.v a, .string ⟨key.toArray⟩] w (DelPost w (n.del key)) := by
  have HLf : Veil (∀ w, NdAt w n a → Calls Try.prog 36 #[n.v a] w fun e w' => e = .returned (.bool n.leaf) ∧ Below w.heap.size w w') := ⟨fun w h => leaf_of h hok⟩
  have HD : Veil (n.del key = if n.leaf = true then (⟨n.ps.filter (others key), [], []⟩, decide ((n.ps.filter (others key)).length < n.ps.length), 0) else (Nd.zero, false, 60)) := ⟨rfl⟩
  revert HLf HD
  generalize n.del key = T
  generalize n.leaf = lf
  intro HLf HD
  have HB := Lib.hid (NdBox.new h)
  obtain ⟨W1, hW1⟩ : ∃ W1, w.alloc (.cells #[.slice a.pp n.ps.length a.cp, .slice a.pk n.ks.length a.ck, .slice a.pd n.ds.length a.cd] 26) = W1 := ⟨_, rfl⟩
  rw [hW1] at HB
  obtain ⟨W2, hW2⟩ : ∃ W2, W1.alloc (.cells #[.slice none 0 0, .slice none 0 0, .slice none 0 0] 26) = W2 := ⟨_, rfl⟩
  have hb2 : Below W1.heap.size W1 W2 := by rw [← hW2]; exact below_al (Below.refl _ _) _
  have HB2 := Lib.hid (HB.out.below hb2)
  have hz1 : W1.heap.size = w.heap.size + 1 := by rw [← hW1]; simp
  have HR2 : Veil (W2.heap[w.heap.size + 1]? = some (.cells #[.slice none 0 0, .slice none 0 0, .slice none 0 0] 26 (0, 0))) := ⟨by rw [← hz1, ← hW2]; exact heap_alloc_new _ _⟩
  obtain ⟨a0, a1, a2⟩ := HB2.out.cells
  clear h HB hb2
  unfold Nd.v at *
  obtain ⟨P, K, D⟩ := n
  obtain ⟨pp, cp, pk, ck, pd, cd⟩ := a
  dsimp only at *
  have hP : P.length ≤ 100000 := hok.out.p
  have hpt := hok.out.pt
  go_enter Try.func24, Try.ntmps24
  cases lf
  · obtain rfl : T = (Nd.zero, false, 60) := HD.out
    go_wp2_with (go_at_call 36; refine (HLf.out _ HB2.out.s).mono ?_; rintro e w3 ⟨rfl, hb3⟩; have HB3 : Veil _ := ⟨HB2.out.below hb3⟩; have HR3 : Veil _ := ⟨(hb3.block _ (lt_of_heap HR2.out)).trans HR2.out⟩; obtain ⟨⟨z0, z1, z2⟩, k0, k1, k2⟩ := box3 HR3.out; clear a0 a1 a2 hb3)
    have hT := ((((Turned.refl (· = w.heap.size + 1) w3).setCell (p := ⟨w.heap.size + 1, 0, none⟩) rfl (.slice none 0 0)).setCell (p := ⟨w.heap.size + 1, 1, none⟩) rfl (.slice none 0 0)).setCell (p := ⟨w.heap.size + 1, 2, none⟩) rfl (.slice none 0 0))
    exact bodyPost_ret (results_node3 (g := w.heap.size + 1) (y := .bool false) (z := .int .i64 60) rfl rfl rfl rfl (heap_setCell_at (heap_setCell_at (heap_setCell_at HR3.out 0 _) 1 _) 2 _)) rfl ⟨_, _, _, rfl, NdOwn.zero _ _, HB3.out.x.trans (hT.toBelow HB3.out.x.size (fun j _ h => by omega))⟩
  · go_wp2_with (go_at_call 36; refine (HLf.out _ HB2.out.s).mono ?_; rintro e w3 ⟨rfl, hb3⟩; have HB3 : Veil _ := ⟨HB2.out.below hb3⟩; have HR3 : Veil _ := ⟨(hb3.block _ (lt_of_heap HR2.out)).trans HR2.out⟩; obtain ⟨⟨z0, z1, z2⟩, k0, k1, k2⟩ := box3 HR3.out; clear a0 a1 a2 hb3)
    have HT : Veil _ := ⟨HD.out⟩
    clear HD HLf HR2 HB2 hW1 z0 z1 z2 k0 k1 k2
    obtain ⟨G0, hG0⟩ : ∃ G0, w.heap.size = G0 := ⟨_, rfl⟩
    obtain ⟨G2, hG2⟩ : ∃ G2, w3.heap.size = G2 := ⟨_, rfl⟩
    have HN := Lib.hid (Bld.new w3)
    obtain ⟨W4, hW4⟩ : ∃ W4, w3.alloc (.cells #[.slice none 0 0, .slice none 0 0, .slice none 0 0] 26) = W4 := ⟨_, rfl⟩
    rw [hW4, hG2] at HN
    rw [hW4, hG2, hG0]
    clear hW4
    go_loopw [9] (fun i wr => ∃ k : Nat, k ≤ P.length ∧ i = .int .i64 k ∧ Veil (∃ v1, Bld w3 G2 ⟨(P.take k).filter (others key), [], []⟩ v1 (.slice none 0 0) (.slice none 0 0) wr)) (fun i _ => P.length - (intOf i).toNat)
    case atStart => exact ⟨0, Nat.zero_le _, rfl, ⟨_, HN.out⟩⟩
    case round =>
      obtain ⟨k, hk, rfl, hJ⟩ := hrel
      obtain ⟨v1, hJ1⟩ := hJ.out
      have HJ : Veil _ := ⟨hJ1⟩
      clear hJ hJ1
      have HBX : Veil _ := ⟨HB3.out.below HJ.out.x⟩
      obtain ⟨a0, a1, a2⟩ := HBX.out.cells
      dsimp only at a0 a1 a2
      rw [hG0] at a0 a1 a2
      by_cases hlt : k < P.length
      · obtain ⟨b, o, hpe, hc⟩ := HBX.out.s.pair (by rintro he; dsimp only at he; simp [he] at hlt)
        dsimp only at hpe hc
        subst hpe
        obtain ⟨d1, d2⟩ := hc k hlt
        have hkI : (0 : Int) ≤ k := by omega
        have HTK : Veil _ := ⟨del_take P key k hlt⟩
        clear hc
        revert d1 d2 HTK
        generalize P.getD k Pr.zero = s
        obtain ⟨sk, sv⟩ := s
        dsimp only
        intro d1 d2 HTK
        by_cases hkey : sk = key
        · have HTE : Veil ((P.take (k + 1)).filter (others key) = (P.take k).filter (others key)) := ⟨by rw [HTK.out]; simp [others, hkey]⟩
          clear HTK
          subst hkey
          go_wp2
          refine ⟨⟨k + 1, by omega, by go_num, ⟨v1, by rw [HTE.out]; exact HJ.out⟩⟩, ?_⟩
          simp only [intOf]; omega
        · have HTE : Veil ((P.take (k + 1)).filter (others key) = (P.take k).filter (others key) ++ [⟨sk, sv⟩]) := ⟨by rw [HTK.out]; simp [others, hkey]⟩
          have hkb : (sk == key) = false := by simpa using hkey
          have e0 := HJ.out.cells.1.1
          have HY : Veil (∀ W, Below wr.heap.size wr W → W.cell? ⟨G2, 0, none⟩ = some v1 ∧ W.cell? ⟨G0, 0, none⟩ = some (.slice (some ⟨b, o, none⟩) P.length cp) ∧ W.cell? ⟨b, o + k * 2, none⟩ = some (.string ⟨sk.toArray⟩) ∧ W.cell? ⟨b, o + k * 2 + 1, none⟩ = some (.string ⟨sv.toArray⟩)) := ⟨fun W hb =>
            ⟨(hb.cell (World.block_lt_of_cell? wr _ e0)).trans e0, (hb.cell (World.block_lt_of_cell? wr _ a0)).trans a0, (hb.cell (World.block_lt_of_cell? wr _ d1)).trans d1, (hb.cell (World.block_lt_of_cell? wr _ d2)).trans d2⟩⟩
          clear HTK hkey e0
          go_wp2
          clear a0 a1 a2 d1 d2 hkb
          refine region_new [.is (.pointer (some ⟨G2, 0, none⟩)), .is v1, .is (.pointer (some ⟨G0, 0, none⟩)), .is (.slice (some ⟨b, o, none⟩) P.length cp), .is (.int .i64 k), .is (.pointer (some ⟨b, o + k * 2, none⟩)), .is (.agg #[.string ⟨sk.toArray⟩, .string ⟨sv.toArray⟩]), .row 0 (fun g => .slice (some ⟨g, 0, none⟩) 1 1) #[.string ⟨sk.toArray⟩, .string ⟨sv.toArray⟩] 38]
            [[], [(0, 30)], [], [(2, 32)], [], [(3, 33), (4, 34)], [(5, 35)], [(6, 36)]]
            [[], [0], [], [2], [], [3, 4], [5], [6]]
            [(0, 30), (1, 31), (2, 32), (3, 33), (4, 34), (5, 35), (6, 36), (7, 37)] rfl (by kernel_rfl) ⟨?_, ?_, ?_, ?_, ?_, ?_, ?_, ?_, trivial⟩ ?_
          · intro vals W hB _
            dsimp only [putsL, slotOf]
            go_wp2
            exact ⟨rfl, Below.refl _ _, rfl⟩
          · intro vals W hB ⟨h0, _⟩
            have h0 : vals 0 = _ := h0
            have c1 := (HY.out W hB).1
            dsimp only [putsL, slotOf]
            rw [h0]
            go_wp2
            exact ⟨rfl, Below.refl _ _, rfl⟩
          · intro vals W hB _
            dsimp only [putsL, slotOf]
            go_wp2
            exact ⟨rfl, Below.refl _ _, rfl⟩
          · intro vals W hB ⟨h2, _⟩
            have h2 : vals 2 = _ := h2
            have c1 := (HY.out W hB).2.1
            dsimp only [putsL, slotOf]
            rw [h2]
            go_wp2
            exact ⟨rfl, Below.refl _ _, rfl⟩
          · intro vals W hB _
            dsimp only [putsL, slotOf]
            go_wp2
            exact ⟨rfl, Below.refl _ _, rfl⟩
          · intro vals W hB ⟨h3, h4, _⟩
            have h3 : vals 3 = _ := h3
            have h4 : vals 4 = _ := h4
            dsimp only [putsL, slotOf]
            rw [h3, h4]
            go_wp2
            exact ⟨rfl, Below.refl _ _, rfl⟩
          · intro vals W hB ⟨h5, _⟩
            have h5 : vals 5 = _ := h5
            obtain ⟨c1, c2⟩ := (HY.out W hB).2.2
            dsimp only [putsL, slotOf]
            rw [h5]
            go_wp2
            exact ⟨rfl, Below.refl _ _, rfl⟩
          · intro vals W hB ⟨h6, _⟩
            have h6 : vals 6 = _ := h6
            dsimp only [putsL, slotOf]
            rw [h6]
            go_wp2
            exact ⟨rfl, below_al (Below.refl _ _) _, _, Nat.zero_le _, rfl, heap_alloc_new _ _⟩
          rintro vals W hB ⟨q0, q1, q2, q3, q4, q5, q6, ⟨g7, hw7, q7, hg7⟩, -⟩
          have h0 : vals 0 = _ := q0
          have h1 : vals 1 = _ := q1
          have h2 : vals 2 = _ := q2
          have h3 : vals 3 = _ := q3
          have h4 : vals 4 = _ := q4
          have h5 : vals 5 = _ := q5
          have h6 : vals 6 = _ := q6
          have h7 : vals 7 = _ := q7
          dsimp only [putsL]
          rw [h0, h1, h2, h3, h4, h5, h6, h7]
          clear h0 q0 h1 q1 h2 q2 h3 q3 h4 q4 h5 q5 h6 q6 h7 q7
          simp only [List.length_cons, List.length_nil, Nat.reduceAdd, List.drop_succ_cons, List.drop_zero, List.setIfInBounds_toArray, List.set_cons_succ, List.set_cons_zero]
          have HJ3 : Veil _ := ⟨HJ.out.below hB⟩
          have HG7 : Veil _ := ⟨hg7⟩
          clear hB hg7 hw7
          have hzz : Veil (G2 + 1 ≤ W.heap.size) := ⟨HJ3.out.lt⟩
          have HFL : Veil (((P.take k).filter (others key)).length ≤ k) := ⟨Nat.le_trans (List.length_filter_le _ _) (by simp; omega)⟩
          go_wp2_with (at_builtin; refine wpList_append_el elP rfl (.tmp 31) (.tmp 37) rfl (G2 + 1) v1 _ ⟨sk, sv⟩ rfl HJ3.out.m.p g7 rfl HG7.out (by have := HFL.out; dsimp only; omega) hzz.out ?_; intro v' w5 hown5 hgrow5 hv5; have HOG : Veil _ := ⟨(HJ3.out.grown HJ3.out.own1 hgrow5).1⟩; obtain ⟨p5, c5, e5, -, -⟩ := hown5.fit; generalize hl5 : List.length _ = l5 at e5; subst e5; obtain ⟨⟨y0, y1, y2⟩, g0, g1, g2⟩ := box3 HOG.out; have HV5 : Veil _ := ⟨hv5⟩; clear y1 y2 g1 g2 hv5 hl5)
          refine ⟨⟨k + 1, by omega, by go_num, ⟨_, by rw [HTE.out]; exact HJ3.out.putP hgrow5 hown5 HV5.out⟩⟩, ?_⟩
          simp only [intOf]; omega
      · obtain rfl : k = P.length := by omega
        have HJ3 : Veil (Bld w3 G2 ⟨P.filter (others key), [], []⟩ v1 (.slice none 0 0) (.slice none 0 0) wr) := ⟨by have := HJ.out; rwa [List.take_length] at this⟩
        clear HJ hlt hk HN
        obtain ⟨q1, c1, e1, -, -⟩ := HJ3.out.m.p.fit
        dsimp only at e1
        subst e1
        have HFL : Veil ((P.filter (others key)).length ≤ 100000) := ⟨Nat.le_trans (List.length_filter_le _ _) hP⟩
        go_wp2
        have HZ : Veil (wr.heap[w.heap.size + 1]? = some (.cells #[.slice none 0 0, .slice none 0 0, .slice none 0 0] 26 (0, 0))) := ⟨HJ3.out.block HR3.out⟩
        have HN2 : Veil (G0 + 1 < G2) := ⟨by have := lt_of_heap HR3.out; omega⟩
        have HT2 : Veil (T = (⟨P.filter (others key), [], []⟩, decide ((P.filter (others key)).length < P.length), 0)) := ⟨by rw [HT.out, if_pos trivial]⟩
        have HXX : Veil _ := ⟨HB3.out.x⟩
        clear HT HR3 HB3 HBX a1 a2 hW2 hz1 hpt
        revert HJ3 HFL HT2
        generalize P.filter (others key) = FL
        intro HJ3 HFL HT2
        obtain ⟨⟨y0, y1, y2⟩, -⟩ := HJ3.out.cells
        obtain ⟨W5, hW5⟩ : ∃ W5, wr.drew = W5 := ⟨_, rfl⟩
        have HJ5 : Veil (Bld w3 G2 ⟨FL, [], []⟩ (.slice q1 FL.length c1) (.slice none 0 0) (.slice none 0 0) W5) := ⟨by rw [← hW5]; exact HJ3.out.below (Below.refl _ _).drew⟩
        have HZ5 : Veil (W5.heap[G0 + 1]? = some (.cells #[.slice none 0 0, .slice none 0 0, .slice none 0 0] 26 (0, 0))) := ⟨by rw [← hW5, ← hG0]; exact HZ.out⟩
        have hS : W5.cell? ⟨G2, 0, none⟩ = some (.slice q1 FL.length c1) ∧ W5.cell? ⟨G2, 1, none⟩ = some (.slice none 0 0) ∧ W5.cell? ⟨G2, 2, none⟩ = some (.slice none 0 0) ∧ W5.cell? ⟨G0, 0, none⟩ = some (.slice pp P.length cp) := by rw [← hW5]; exact ⟨y0, y1, y2, a0⟩
        have HSS : Veil _ := ⟨hS⟩
        refine region_plan 9 [(true, 0), (true, 1), (true, 2), (true, 3), (true, 4), (true, 5), (true, 6), (true, 7), (false, 8)] (by kernel_rfl) (by kernel_rfl) (fun w' => w'.cell? ⟨G2, 0, none⟩ = some (.slice q1 FL.length c1) ∧ w'.cell? ⟨G2, 1, none⟩ = some (.slice none 0 0) ∧ w'.cell? ⟨G2, 2, none⟩ = some (.slice none 0 0) ∧ w'.cell? ⟨G0, 0, none⟩ = some (.slice pp P.length cp)) W5 hW5 hS ?_
        clear hW5 hS y0 y1 y2 a0
        simp only [planOps, List.filterMap_cons, List.filterMap_nil, List.getElem?_toArray, List.getElem?_cons_zero, List.getElem?_cons_succ, Option.map_some]
        iterate 8 (refine plan_quiet rfl ?_ ?_ (fun K hK => ?_); rotate_left; (rintro w' ⟨s0, s1, s2, s3⟩; go_simp; rfl); (go_simp; refine hK _ ?_; clear hK K))
        refine plan_change (fun K hK => ?_)
        obtain ⟨⟨z0, z1, z2⟩, k0, k1, k2⟩ := box3 HZ5.out
        go_wp2
        have hT := ((((Turned.refl (· = G0 + 1) W5).setCell (p := ⟨G0 + 1, 0, none⟩) rfl (.slice q1 FL.length c1)).setCell (p := ⟨G0 + 1, 1, none⟩) rfl (.slice none 0 0)).setCell (p := ⟨G0 + 1, 2, none⟩) rfl (.slice none 0 0))
        have HTT : Veil _ := ⟨hT⟩
        obtain ⟨t0, t1, t2, t3⟩ := HSS.out
        refine hK _ _ ⟨hT.cell t0 (by have := HN2.out; simp only; omega), hT.cell t1 (by have := HN2.out; simp only; omega), hT.cell t2 (by have := HN2.out; simp only; omega), hT.cell t3 (by simp only; omega)⟩ ?_
        clear hK K t0 t1 t2 t3 hT
        refine wpPlan_nil ?_
        simp only [List.drop_succ_cons, List.drop_zero]
        go_wp2
        refine only_normal ?_
        go_wp2
        have hX5 : Below w.heap.size w W5 := HXX.out.trans (HJ5.out.x.mono HXX.out.size)
        refine bodyPost_ret (results_node3 (g := G0 + 1) (y := .bool (decide (FL.length < P.length))) (z := .int .i64 0) rfl rfl rfl rfl (heap_setCell_at (heap_setCell_at (heap_setCell_at HZ5.out 0 _) 1 _) 2 _)) rfl ⟨_, _, _, by rw [HT2.out], ?_, hX5.trans (HTT.out.toBelow hX5.size (fun j _ h => by omega))⟩
        rw [HT2.out]
        exact (HJ5.out.m.kept HTT.out (fun j hj e => by have := HN2.out; omega)).less (by have := HN2.out; omega)
end Go.Proofs.Ytfpcknkinlegcaa
