/- The walk of Give. -/
import Derived.Deep.RegionHeld3
import Derived.Test.YtapmppiiphbcpaaKA7
import Derived.Test.YtapmppiiphbcpaaKD8
namespace Go.Proofs.Ytapmppiiphbcpaa
open Go Go.RowKit Sm
attribute [local go_sem] Oper.semAt_some

theorem ins_flat (L : List Sp) (x : Sp) (p q r : Option Addr) (c1 c2 c3 : Nat) : flat [⟨p, c1, (L.drop 0).take (firstAt (ahead x.page) L)⟩, ⟨q, c2, [x]⟩, ⟨r, c3, (L.drop (firstAt (ahead x.page) L)).take (L.length - firstAt (ahead x.page) L)⟩] 3 = insS x L := by
  simp only [flat, List.take_succ_cons, List.take_zero, List.flatMap_cons, List.flatMap_nil, List.append_nil, List.drop_zero]
  rw [List.take_of_length_le (l := L.drop _) (by simp), insS_eq]
theorem give_join_of {w : World} {a : Al} {p : Option Addr} {c : Nat} (h : AlAt w a p c) (x : Sp) : Veil (∀ W g1 g2, g1 = W.heap.size → g2 = W.heap.size + 1 → Below w.heap.size w W → Calls Try.prog 63 #[.slice (some ⟨g2, 0, none⟩) 3 3] ((W.alloc (.cells #[.int .u32 x.page, .int .u64 x.tx] 80)).alloc (.cells #[.slice (cutP p 0 (firstAt (ahead x.page) a.l)) (firstAt (ahead x.page) a.l) (firstAt (ahead x.page) a.l), .slice (some ⟨g1, 0, none⟩) 1 1, .slice (cutP p (firstAt (ahead x.page) a.l) (a.l.length - firstAt (ahead x.page) a.l)) ((a.l.length - firstAt (ahead x.page) a.l : Nat) : Nat) (a.l.length - firstAt (ahead x.page) a.l)] 57)) fun e w' => ∃ G, e = .returned (.slice (some ⟨G, 0, none⟩) (insS x a.l).length (insS x a.l).length) ∧ Veil (w.heap.size ≤ G ∧ w'.heap[G]? = some (.cells (spCells (insS x a.l)).toArray 80 (0, 0))) ∧ Below W.heap.size W w') :=
  ⟨fun W g1 g2 hg1 hg2 hW => by
    subst hg1
    have hk := firstAt_le (ahead x.page) a.l
    have e := ins_flat a.l x (cutP p 0 (firstAt (ahead x.page) a.l)) (some ⟨W.heap.size, 0, none⟩) (cutP p (firstAt (ahead x.page) a.l) (a.l.length - firstAt (ahead x.page) a.l)) (firstAt (ahead x.page) a.l) 1 (a.l.length - firstAt (ahead x.page) a.l)
    have hb1 : Below W.heap.size W (W.alloc (.cells #[.int .u32 x.page, .int .u64 x.tx] 80)) := below_al (Below.refl _ _) _
    have hx : Sps (W.alloc (.cells #[.int .u32 x.page, .int .u64 x.tx] 80)) (some ⟨W.heap.size, 0, none⟩) [x] := Made.sps (B := 0) ⟨W.heap.size, Nat.zero_le _, rfl, heap_alloc_new _ _⟩
    have l1 : ((a.l.drop 0).take (firstAt (ahead x.page) a.l)).length = firstAt (ahead x.page) a.l := by simp; omega
    have l2 : ((a.l.drop (firstAt (ahead x.page) a.l)).take (a.l.length - firstAt (ahead x.page) a.l)).length = a.l.length - firstAt (ahead x.page) a.l := by simp
    have := joined_new (w := W.alloc (.cells #[.int .u32 x.page, .int .u64 x.tx] 80)) [⟨cutP p 0 (firstAt (ahead x.page) a.l), firstAt (ahead x.page) a.l, (a.l.drop 0).take (firstAt (ahead x.page) a.l)⟩, ⟨some ⟨W.heap.size, 0, none⟩, 1, [x]⟩, ⟨cutP p (firstAt (ahead x.page) a.l) (a.l.length - firstAt (ahead x.page) a.l), a.l.length - firstAt (ahead x.page) a.l, (a.l.drop (firstAt (ahead x.page) a.l)).take (a.l.length - firstAt (ahead x.page) a.l)⟩] (fun y hy => by
      rcases List.mem_cons.1 hy with rfl | hy
      · exact ((cutP_sps h.s 0 _ (by omega)).below hW).below hb1
      · rcases List.mem_cons.1 hy with rfl | hy
        · exact hx
        · rw [List.mem_singleton.1 hy]
          exact ((cutP_sps h.s _ _ (by omega)).below hW).below hb1) (by simp) (by
        simp only [List.length_cons, List.length_nil, Nat.zero_add, Nat.reduceAdd]; rw [e, insS_length]; have := h.ok.few; omega) _ (Below.refl _ _) g2 3 #[.slice (cutP p 0 (firstAt (ahead x.page) a.l)) (firstAt (ahead x.page) a.l) (firstAt (ahead x.page) a.l), .slice (some ⟨W.heap.size, 0, none⟩) 1 1, .slice (cutP p (firstAt (ahead x.page) a.l) (a.l.length - firstAt (ahead x.page) a.l)) ((a.l.length - firstAt (ahead x.page) a.l : Nat) : Nat) (a.l.length - firstAt (ahead x.page) a.l)] (by rw [hg2]; simp) rfl (by simp only [List.map_cons, List.map_nil, Ls.v, l1, l2, List.length_cons, List.length_nil])
    simp only [List.length_cons, List.length_nil, Nat.zero_add, Nat.reduceAdd] at this
    rw [e] at this
    refine this.mono ?_
    rintro e' w' ⟨G, he, hG, hb⟩
    exact ⟨G, he, ⟨by have := hG.out.1; have := hb1.size; have := hW.size; omega, hG.out.2⟩, hb1.trans (hb.mono hb1.size)⟩⟩

/-- What Give leaves. -/
def GivePost (w : World) (t : Al × Int) (e : Ending) (w' : World) : Prop := ∃ p' c', e = .returned (.tuple #[t.1.v p' c', .int .i64 t.2]) ∧ AlNew w' w.heap.size t.1 p' c' ∧ Below w.heap.size w w'
theorem results_alloc2 {fn : Func} {p q : Tmp} {tmps : Array Value} {w : World} {g : Nat} {x0 x1 x2 y : Value} (h : fn.results = #[.cell p 59, .tmp q]) (hp : tmps.getD p undef = .pointer (some ⟨g, 0, none⟩)) (hq : tmps.getD q undef = y) (hg : w.heap[g]? = some (.cells #[x0, x1, x2] 59 (0, 0))) :
    (results fn tmps).run Try.prog w = .ok (.tuple #[.agg #[x0, x1, x2], y]) w := by
  have hp' : tmps[p]?.getD undef = .pointer (some ⟨g, 0, none⟩) := by simpa using hp
  have hq' : tmps[q]?.getD undef = y := by simpa using hq
  obtain ⟨⟨c0, c1, c2⟩, -⟩ := pack3 hg
  simp [results, h, go_sem, hp', hq', c0, c1, c2]

set_option maxRecDepth 20000 in
set_option maxHeartbeats 2000000 in
theorem give_any {w : World} {a : Al} {p : Option Addr} {c : Nat} (h : AlAt w a p c) (hfew : a.l.length < 100000) (page tx : Nat) (hpg : page < 4294967296) (htx : tx < 18446744073709551616) :
    Calls Try.prog 33 #[a.v p c, .int .u32 page, .int .u64 tx] w (GivePost w (a.give page tx)) := by
  have HG : Veil (a.give page tx = if a.given page tx = true then (⟨a.high, a.most, insS ⟨page, tx⟩ a.l⟩, 0) else (Al.zero, 50)) := ⟨rfl⟩
  have HJ := give_join_of h ⟨page, tx⟩
  have hk : firstAt (ahead page) a.l ≤ a.l.length := firstAt_le _ _
  have HOK : Veil (Al.Ok ⟨a.high, a.most, insS ⟨page, tx⟩ a.l⟩) := ⟨⟨h.ok.high, h.ok.most, insS_ok ⟨hpg, htx⟩ h.ok.l, by rw [insS_length]; omega⟩⟩
  have HR : Veil (∀ W G, Made W w.heap.size (some ⟨G, 0, none⟩) (insS ⟨page, tx⟩ a.l) → Calls Try.prog 35 #[.agg #[.int .u32 a.high, .int .u32 a.most, .slice (some ⟨G, 0, none⟩) (insS ⟨page, tx⟩ a.l).length (insS ⟨page, tx⟩ a.l).length]] W fun e w' => e = .returned (.bool (a.given page tx)) ∧ Below W.heap.size W w') := ⟨fun W G hM => by
    have := aright_of (a := ⟨a.high, a.most, insS ⟨page, tx⟩ a.l⟩) hM.sps (fun b hb => by obtain ⟨g, -, hp, hg⟩ := hM; rw [hp] at hb; cases hb; exact lt_of_heap hg) (insS ⟨page, tx⟩ a.l).length HOK
    rw [Al.given_right] at this
    exact this⟩
  have HP : Veil (∀ W, Below w.heap.size w W → Calls Try.prog 65 #[.slice p a.l.length c, .int .u32 page] W fun e w' => e = .returned (.int .i64 (firstAt (ahead page) a.l)) ∧ Below W.heap.size W w') :=
    ⟨fun W hW => place_of (h.below hW).s (fun b hb => ((h.below hW).old b hb).1) c page h.ok.few hpg⟩
  have HC1 : Veil (∀ W, Calls Try.prog 64 #[.slice p a.l.length c, .int .i64 0, .int .i64 ((firstAt (ahead page) a.l : Nat) : Int)] W fun e w' => e = .returned (.slice (cutP p 0 (firstAt (ahead page) a.l)) (firstAt (ahead page) a.l) (firstAt (ahead page) a.l)) ∧ W = w') := ⟨fun W => by
    have := acut_any (p := p) a.l.length c 0 (firstAt (ahead page) a.l) (by omega) h.len h.few h.none (fun a ha => (h.old a ha).2) W
    rwa [Nat.zero_add] at this⟩
  have HC2 : Veil (∀ W, Calls Try.prog 64 #[.slice p a.l.length c, .int .i64 ((firstAt (ahead page) a.l : Nat) : Int), .int .i64 a.l.length] W fun e w' => e = .returned (.slice (cutP p (firstAt (ahead page) a.l) (a.l.length - firstAt (ahead page) a.l)) ((a.l.length - firstAt (ahead page) a.l : Nat) : Nat) (a.l.length - firstAt (ahead page) a.l)) ∧ W = w') := ⟨fun W => by
    have := acut_any (p := p) a.l.length c (firstAt (ahead page) a.l) (a.l.length - firstAt (ahead page) a.l) (by omega) h.len h.few h.none (fun a ha => (h.old a ha).2) W
    rwa [show firstAt (ahead page) a.l + (a.l.length - firstAt (ahead page) a.l) = a.l.length by omega] at this⟩
  clear h hfew hpg htx hk
  revert HG HJ HOK HR HP HC1 HC2
  dsimp only
  generalize a.give page tx = T
  generalize insS ⟨page, tx⟩ a.l = M
  generalize a.given page tx = gv
  generalize firstAt (ahead page) a.l = k
  intro HG HJ HOK HR HP HC1 HC2
  obtain ⟨hi, mo, L⟩ := a
  unfold Al.v at *
  dsimp only at *
  revert HJ HC1 HC2
  generalize L.length - k = n2
  generalize cutP p 0 k = p1
  generalize cutP p k n2 = p2
  intro HJ HC1 HC2
  go_enter Try.func33, Try.ntmps33
  go_wp2_with (go_at_call 65; refine (HP.out _ (below_al (below_al (Below.refl _ _) _) _)).mono ?_; rintro e w2 ⟨rfl, hb2⟩; have HX2 : Veil (Below w.heap.size w w2) := ⟨alb_then (below_al (below_al (Below.refl _ _) _) _) hb2⟩; have HB2 : Veil _ := ⟨(hb2.block w.heap.size (by simp only [World.size_alloc]; omega)).trans (heap_alloc2_old _ _ _)⟩; have HCC2 : Veil _ := ⟨(hb2.block (w.heap.size + 1) (by simp)).trans (heap_alloc2_new _ _ _)⟩; clear hb2)
  have HJ2 : Veil (Calls Try.prog 63 #[.slice (some ⟨w2.heap.size + 1, 0, none⟩) 3 3] (((w2.alloc (.cells #[.int .u32 page, .int .u64 tx] 80)).alloc (.cells #[.slice p1 k k, .slice (some ⟨w2.heap.size, 0, none⟩) 1 1, .slice p2 (n2 : Nat) n2] 57)).drew) fun e w' => ∃ G, e = .returned (.slice (some ⟨G, 0, none⟩) M.length M.length) ∧ Veil (w.heap.size ≤ G ∧ w'.heap[G]? = some (.cells (spCells M).toArray 80 (0, 0))) ∧ Below w2.heap.size w2 w') :=
    ⟨(HJ.out w2.drew w2.heap.size (w2.heap.size + 1) rfl rfl HX2.out.drew).mono fun e w' ⟨G, he, hg, hb⟩ => ⟨G, he, hg, (Below.refl _ w2).drew.trans hb⟩⟩
  have hz2 : w.heap.size < w2.heap.size := lt_of_heap HB2.out
  have ST : Veil (∀ W, Below w2.heap.size w2 W → W.cell? ⟨w.heap.size, 2, none⟩ = some (.slice p L.length c)) := ⟨fun W hW => (hW.cell hz2).trans (pack3 HB2.out).1.2.2⟩
  go_region_held3 (fun W => W.cell? ⟨w.heap.size, 2, none⟩ = some (.slice p L.length c) ∧ Below w2.heap.size w2 W) (refine ⟨ST.out _ ?_, ?_⟩ <;> first | assumption | exact (Below.refl _ _).drew | exact (below_al (Below.refl _ _) _).drew | exact (below_al (below_al (Below.refl _ _) _) _).drew) (first
    | (go_at_call 63; refine HJ2.out.mono ?_; rintro e w4 ⟨G, rfl, HGG, hb4⟩)
    | (go_at_call 64; (with_reducible refine (HC2.out _).mono ?_); rintro e w3 ⟨rfl, rfl⟩)
    | (go_at_call 64; (with_reducible refine (HC1.out _).mono ?_); rintro e w3 ⟨rfl, rfl⟩))
  all_goals
    clear HJ HJ2 HC1 HC2 HP ST
    have HX4 : Veil (Below w.heap.size w w4) := ⟨alb_then HX2.out hb4⟩
    have HB4 : Veil _ := ⟨(hb4.block w.heap.size (lt_of_heap HB2.out)).trans HB2.out⟩
    have HC4 : Veil _ := ⟨(hb4.block (w.heap.size + 1) (lt_of_heap HCC2.out)).trans HCC2.out⟩
    obtain ⟨⟨s0, s1, s2⟩, -⟩ := pack3 HB4.out
    clear hb4 hz2 HX2 HB2 HCC2
    obtain ⟨W5, hW5⟩ : ∃ W5, w4.alloc (.cells #[.int .u32 hi, .int .u32 mo, .slice (some ⟨G, 0, none⟩) M.length M.length] 59) = W5 := ⟨_, rfl⟩
    obtain ⟨S4, hS4⟩ : ∃ S4, w4.heap.size = S4 := ⟨_, rfl⟩
    have hb5 : Below w4.heap.size w4 W5 := by rw [← hW5]; exact below_al (Below.refl _ _) _
    have HX5 : Veil (Below w.heap.size w W5) := ⟨alb_then HX4.out hb5⟩
    have HM5 : Veil (w.heap.size ≤ G ∧ W5.heap[G]? = some (.cells (spCells M).toArray 80 (0, 0))) := ⟨HGG.out.1, (hb5.block G (lt_of_heap HGG.out.2)).trans HGG.out.2⟩
    have HS5 : Veil (W5.heap[S4]? = some (.cells #[.int .u32 hi, .int .u32 mo, .slice (some ⟨G, 0, none⟩) M.length M.length] 59 (0, 0))) := ⟨by rw [← hW5, ← hS4]; exact heap_alloc_new _ _⟩
    have HC5 : Veil _ := ⟨(hb5.block (w.heap.size + 1) (lt_of_heap HC4.out)).trans HC4.out⟩
    have HN : Veil (w.heap.size < S4 ∧ w.heap.size + 1 < S4) := ⟨by have h1 := lt_of_heap HB4.out; have h2 := lt_of_heap HC4.out; omega⟩
    have HRR := HR.out W5 G ⟨G, HM5.out.1, rfl, HM5.out.2⟩
    have HRV : Veil _ := ⟨HRR⟩
    obtain ⟨⟨r0, r1, r2⟩, -⟩ := pack3 HS5.out
    clear hb5 HRR HR
    go_wp2_with fail
    go_at_call 35
    refine HRV.out.mono ?_
    rintro e w6 ⟨rfl, hb6⟩
    have HX6 : Veil (Below w.heap.size w w6) := ⟨alb_then HX5.out hb6⟩
    have HM6 : Veil (AlNew w6 w.heap.size ⟨hi, mo, M⟩ (some ⟨G, 0, none⟩) M.length) := ⟨⟨.inr ⟨G, HM5.out.1, rfl, (hb6.block G (lt_of_heap HM5.out.2)).trans HM5.out.2⟩, rfl, HOK.out⟩⟩
    have HG6 : Veil (G ≠ w.heap.size + 1) := ⟨by rintro rfl; have h1 := HM5.out.2; rw [HC5.out] at h1; simp at h1⟩
    have HS6 : Veil _ := ⟨(hb6.block S4 (lt_of_heap HS5.out)).trans HS5.out⟩
    have HC6 : Veil _ := ⟨(hb6.block (w.heap.size + 1) (lt_of_heap HC5.out)).trans HC5.out⟩
    obtain ⟨⟨q0, q1, q2⟩, -⟩ := pack3 HS6.out
    obtain ⟨⟨z0, z1, z2⟩, g0, g1, g2⟩ := pack3 HC6.out
    clear hb6 hW5 hS4 s0 s1 s2 r0 r1 r2
    cases gv
    · have HT : Veil (T = (Al.zero, 50)) := ⟨HG.out⟩
      go_wp2
      have hT := ((((Turned.refl (· = w.heap.size + 1) w6).setCell (p := ⟨w.heap.size + 1, 0, none⟩) rfl (.int .u32 0)).setCell (p := ⟨w.heap.size + 1, 1, none⟩) rfl (.int .u32 0)).setCell (p := ⟨w.heap.size + 1, 2, none⟩) rfl (.slice none 0 0))
      exact bodyPost_ret (results_alloc2 (g := w.heap.size + 1) (y := .int .i64 50) rfl rfl rfl (set3 HC6.out _ _ _)) rfl ⟨none, 0, by rw [HT.out]; rfl, by rw [HT.out]; exact AlNew.zero _ _, HX6.out.trans (hT.toBelow HX6.out.size (fun j _ h => by omega))⟩
    · have HT : Veil (T = (⟨hi, mo, M⟩, 0)) := ⟨HG.out⟩
      go_wp2
      have hT := ((((Turned.refl (· = w.heap.size + 1) w6).setCell (p := ⟨w.heap.size + 1, 0, none⟩) rfl (.int .u32 hi)).setCell (p := ⟨w.heap.size + 1, 1, none⟩) rfl (.int .u32 mo)).setCell (p := ⟨w.heap.size + 1, 2, none⟩) rfl (.slice (some ⟨G, 0, none⟩) M.length M.length))
      refine bodyPost_ret (results_alloc2 (g := w.heap.size + 1) (y := .int .i64 0) rfl rfl rfl (set3 HC6.out _ _ _)) rfl ⟨some ⟨G, 0, none⟩, M.length, by rw [HT.out]; rfl, ?_, HX6.out.trans (hT.toBelow HX6.out.size (fun j _ h => by omega))⟩
      rw [HT.out]
      rcases HM6.out.f with ⟨-, h0⟩ | ⟨g, h1, h2, h3⟩
      · cases h0
      · cases h2
        exact ⟨.inr ⟨G, h1, rfl, hT.heap h3 HG6.out⟩, rfl, HOK.out⟩
end Go.Proofs.Ytapmppiiphbcpaa

/- The walks of Same, same, shown: what the laws hold side by side. -/
namespace Go.Proofs.Ytapmppiiphbcpaa
open Go Go.RowKit Sm
attribute [local go_sem] Oper.semAt_some

set_option maxRecDepth 20000 in
set_option maxHeartbeats 2000000 in
/-- Same, of lists that are. -/
theorem same_list {w : World} {p q : Option Addr} {L : List Sp} (h : Sps w p L) (k : Sps w q L) (c d : Nat) (hl : L.length ≤ 1000000) :
    Calls Try.prog 42 #[.slice p L.length c, .slice q L.length d] w fun e w' => e = .returned (.bool true) ∧ Below w.heap.size w w' := by
  have H := Lib.hid h
  have K := Lib.hid k
  clear h k
  go_enter Try.func42, Try.ntmps42
  go_wp2
  go_loopw [5] (fun i wr => ∃ k : Nat, k ≤ L.length ∧ i = .int .i64 k ∧ Below w.heap.size w wr) (fun i _ => L.length - (intOf i).toNat)
  case atStart => exact ⟨0, Nat.zero_le _, rfl, Below.refl _ _⟩
  case round =>
    obtain ⟨k, hk, rfl, hB⟩ := hrel
    by_cases hlt : k < L.length
    · obtain ⟨b, o, rfl, h1⟩ := H.out (by rintro rfl; simp at hlt)
      obtain ⟨b', o', rfl, h2⟩ := K.out (by rintro rfl; simp at hlt)
      obtain ⟨c1, c2⟩ := h1 k hlt
      obtain ⟨d1, d2⟩ := h2 k hlt
      have e1 := hB.cell (World.block_lt_of_cell? w _ c1) |>.trans c1
      have e2 := hB.cell (World.block_lt_of_cell? w _ c2) |>.trans c2
      have e3 := hB.cell (World.block_lt_of_cell? w _ d1) |>.trans d1
      have e4 := hB.cell (World.block_lt_of_cell? w _ d2) |>.trans d2
      have HB := Lib.hid hB
      clear hB c1 c2 d1 d2 h1 h2
      revert e1 e2 e3 e4
      generalize L.getD k Sp.zero = s
      obtain ⟨pg, tx⟩ := s
      intro e1 e2 e3 e4
      have hi1 : (0 : Int) ≤ k := by omega
      have hi2 : (k : Int) < L.length := by omega
      go_wp2
      go_quiet (fail)
      go_wp2
      refine ⟨⟨k + 1, by omega, by go_num, HB.out.trans ((⟨rfl, rfl, rfl, Nat.le_refl _, fun _ _ => rfl⟩ : Below wr.heap.size wr (wr.drewN nq)).mono HB.out.size)⟩, ?_⟩
      simp only [intOf]; omega
    · obtain rfl : k = L.length := by omega
      have HB := Lib.hid hB
      clear hB
      go_wp2
      go_ret
      exact ⟨rfl, HB.out⟩

set_option maxRecDepth 20000 in
set_option maxHeartbeats 2000000 in
/-- same, of allocs that are. -/
theorem same_allocs {w : World} {a : Al} {p q : Option Addr} {c d : Nat} (h : Sps w p a.l) (k : Sps w q a.l) (hl : a.l.length ≤ 1000000) :
    Calls Try.prog 37 #[a.v p c, a.v q d] w fun e w' => e = .returned (.bool true) ∧ Below w.heap.size w w' := by
  have HS : Veil (∀ W, Below w.heap.size w W → Calls Try.prog 42 #[.slice p a.l.length c, .slice q a.l.length d] W fun e w' => e = .returned (.bool true) ∧ Below W.heap.size W w') := ⟨fun W hW => same_list (h.below hW) (k.below hW) c d hl⟩
  clear h k hl
  obtain ⟨hi, mo, L⟩ := a
  unfold Al.v at *
  dsimp only at *
  go_enter Try.func37, Try.ntmps37
  go_wp2_with (go_at_call 42; refine (HS.out _ (below_al (below_al (Below.refl _ _) _) _)).mono ?_; rintro e w2 ⟨rfl, hb2⟩; have HX2 : Veil (Below w.heap.size w w2) := ⟨alb_then (below_al (below_al (Below.refl _ _) _) _) hb2⟩; obtain ⟨⟨q0, q1, q2⟩, -⟩ := pack3 ((hb2.block w.heap.size (by simp only [World.size_alloc]; omega)).trans (heap_alloc2_old _ _ _)); obtain ⟨⟨r0, r1, r2⟩, -⟩ := pack3 ((hb2.block (w.heap.size + 1) (by simp)).trans (heap_alloc2_new _ _ _)))
  go_ret
  exact ⟨rfl, HX2.out⟩

theorem take_shown1 : (⟨6, 9, [⟨3, 5⟩, ⟨4, 2⟩]⟩ : Al).take 2 = ⟨⟨6, 9, [⟨3, 5⟩]⟩, 4, 0⟩ := rfl
theorem take_shown2 : (⟨6, 9, [⟨3, 5⟩]⟩ : Al).take 2 = ⟨⟨7, 9, [⟨3, 5⟩]⟩, 6, 0⟩ := rfl
theorem take_shown3 : (⟨7, 9, [⟨3, 5⟩]⟩ : Al).take 5 = ⟨⟨7, 9, []⟩, 3, 0⟩ := rfl
theorem give_shown : Al.zero.give 2 1 = (Al.zero, 50) := rfl

set_option maxRecDepth 20000 in
set_option maxHeartbeats 2000000 in
theorem shown5_any (w : World) : Calls Try.prog 29 #[] w fun e w' => e = .returned (.bool true) ∧ Below w.heap.size w w' := by
  have HT1 : Veil (∀ W g, Below w.heap.size w W → W.heap[g]? = some (.cells #[.int .u32 3, .int .u64 5, .int .u32 4, .int .u64 2] 80 (0, 0)) → Calls Try.prog 31 #[.agg #[.int .u32 6, .int .u32 9, .slice (some ⟨g, 0, none⟩) 2 2], .int .u64 2] W fun e w' => ∃ p' c', e = .returned (.tuple #[.agg #[.int .u32 6, .int .u32 9, .slice p' 1 c'], .int .u32 4, .int .i64 0]) ∧ Veil (AlAt w' ⟨6, 9, [⟨3, 5⟩]⟩ p' c') ∧ Below W.heap.size W w') := ⟨fun W g hW hg => by
    have hA : AlAt W ⟨6, 9, [⟨3, 5⟩, ⟨4, 2⟩]⟩ (some ⟨g, 0, none⟩) 2 := ⟨Made.sps (B := 0) ⟨g, Nat.zero_le _, rfl, hg⟩, fun b hb => by cases hb; exact ⟨lt_of_heap hg, rfl⟩, by decide, by decide, (fun e => by cases e), ⟨by decide, by decide, by simp; exact ⟨⟨by decide, by decide⟩, ⟨by decide, by decide⟩⟩, by decide⟩⟩
    refine (take_any hA 2).mono ?_
    rw [take_shown1]
    rintro e w' ⟨p', c', he, hn, hb⟩
    exact ⟨p', c', he, ⟨hn.at'⟩, hb⟩⟩
  have HT2 : Veil (∀ W p c, AlAt W ⟨6, 9, [⟨3, 5⟩]⟩ p c → Calls Try.prog 31 #[.agg #[.int .u32 6, .int .u32 9, .slice p 1 c], .int .u64 2] W fun e w' => ∃ p' c', e = .returned (.tuple #[.agg #[.int .u32 7, .int .u32 9, .slice p' 1 c'], .int .u32 6, .int .i64 0]) ∧ Veil (AlAt w' ⟨7, 9, [⟨3, 5⟩]⟩ p' c') ∧ Below W.heap.size W w') := ⟨fun W p c hA => by
    refine (take_any hA 2).mono ?_
    rw [take_shown2]
    rintro e w' ⟨p', c', he, hn, hb⟩
    exact ⟨p', c', he, ⟨hn.at'⟩, hb⟩⟩
  have HT3 : Veil (∀ W p c, AlAt W ⟨7, 9, [⟨3, 5⟩]⟩ p c → Calls Try.prog 31 #[.agg #[.int .u32 7, .int .u32 9, .slice p 1 c], .int .u64 5] W fun e w' => ∃ p' c', e = .returned (.tuple #[.agg #[.int .u32 7, .int .u32 9, .slice p' 0 c'], .int .u32 3, .int .i64 0]) ∧ Below W.heap.size W w') := ⟨fun W p c hA => by
    refine (take_any hA 5).mono ?_
    rw [take_shown3]
    rintro e w' ⟨p', c', he, hn, hb⟩
    exact ⟨p', c', he, hb⟩⟩
  have HG : Veil (∀ W, Calls Try.prog 33 #[.agg #[.int .u32 0, .int .u32 0, .slice none 0 0], .int .u32 2, .int .u64 1] W fun e w' => ∃ p' c', e = .returned (.tuple #[.agg #[.int .u32 0, .int .u32 0, .slice p' 0 c'], .int .i64 50]) ∧ Below W.heap.size W w') := ⟨fun W => by
    refine (give_any (AlNew.zero W 0).at' (by decide) 2 1 (by decide) (by decide)).mono ?_
    rw [give_shown]
    rintro e w' ⟨p', c', he, hn, hb⟩
    exact ⟨p', c', he, hb⟩⟩
  go_enter Try.func29, Try.ntmps29
  go_wp2_with fail
  go_at_call 31
  refine (HT1.out _ _ (below_al (below_al (Below.refl _ _) _) _) (heap_alloc2_old _ _ _)).mono ?_
  rintro e w2 ⟨p2, c2, rfl, HA2, hb2⟩
  have HX2 : Veil (Below w.heap.size w w2) := ⟨alb_then (below_al (below_al (Below.refl _ _) _) _) hb2⟩
  clear hb2 HT1
  go_wp2_with fail
  go_at_call 31
  refine (HT2.out _ _ _ (HA2.out.below (below_al (Below.refl _ _) _))).mono ?_
  rintro e w3 ⟨p3, c3, rfl, HA3, hb3⟩
  have HX3 : Veil (Below w.heap.size w w3) := ⟨alb_then (below_al HX2.out _) hb3⟩
  clear hb3 HT2
  go_wp2_with fail
  go_at_call 31
  refine (HT3.out _ _ _ (HA3.out.below (below_al (Below.refl _ _) _))).mono ?_
  rintro e w4 ⟨p4, c4, rfl, hb4⟩
  have HX4 : Veil (Below w.heap.size w w4) := ⟨alb_then (below_al HX3.out _) hb4⟩
  clear hb4 HT3
  go_wp2_with fail
  go_at_call 33
  refine (HG.out _).mono ?_
  rintro e w5 ⟨p5, c5, rfl, hb5⟩
  have HX5 : Veil (Below w.heap.size w w5) := ⟨alb_then (below_al HX4.out _) hb5⟩
  clear hb5 HG
  go_wp2_with fail
  go_ret
  exact ⟨rfl, below_al HX5.out _⟩
end Go.Proofs.Ytapmppiiphbcpaa

/- The walk of cut: an alloc of the first forty-one hundred spares, in new memory. -/
namespace Go.Proofs.Ytapmppiiphbcpaa
open Go Go.RowKit Sm
attribute [local go_sem] Oper.semAt_some

/-- A list that a law holds: in a block of its own, with room. -/
def Room (w : World) (B g : Nat) (L : List Sp) : Prop := B ≤ g ∧ ∃ cur : Array Value, w.heap[g]? = some (.cells cur 80 (0, 0)) ∧ cur.toList.take (L.length * 2) = spCells L
theorem Room.sps {w : World} {B g : Nat} {L : List Sp} (h : Room w B g L) : Sps w (some ⟨g, 0, none⟩) L := fun _ => by
  obtain ⟨-, cur, hg, ht⟩ := h
  refine ⟨g, 0, rfl, fun i hi => ?_⟩
  have hg' : w.heap[g]? = some (.cells cur.toList.toArray 80 (0, 0)) := by simpa using hg
  obtain ⟨h1, h2⟩ := spCells_at L i hi
  have e : ∀ j, j < L.length * 2 → cur.toList[j]? = (spCells L)[j]? := fun j hj => by rw [← ht, List.getElem?_take, if_pos hj]
  rw [cell_whole hg', cell_whole hg', Nat.zero_add, e _ (by omega), e _ (by omega)]
  exact ⟨h1, h2⟩
theorem Room.turned {F : Nat → Prop} {w w' : World} {B g : Nat} {L : List Sp} (h : Room w B g L) (ht : Turned F w w') (hF : ¬ F g) : Room w' B g L := by
  obtain ⟨h1, cur, hg, h2⟩ := h
  exact ⟨h1, cur, ht.heap hg hF, h2⟩
theorem Room.below {w w' : World} {B g : Nat} {L : List Sp} (h : Room w B g L) (hb : Below w.heap.size w w') : Room w' B g L := h.turned (Turned.new hb : Turned (fun _ => False) w w') (fun h => h)
theorem Room.lt {w : World} {B g : Nat} {L : List Sp} (h : Room w B g L) : g < w.heap.size := by
  obtain ⟨-, cur, hg, -⟩ := h
  exact lt_of_heap hg
def CutPost (w : World) (a : Al) (e : Ending) (w' : World) : Prop := ∃ g, e = .returned (a.v (some ⟨g, 0, none⟩) 4100) ∧ Room w' w.heap.size g a.l ∧ Below w.heap.size w w'

theorem min_len5 (n k : Nat) (W : World) : (Builtin.min_ #[3, 3] 3 #[.int .i64 (n : Int), .int .i64 (k : Int)]).run Try.prog W = .ok (.int .i64 ((min n k : Nat) : Int)) W := by
  rw [run_min_int2]
  by_cases h : (k : Int) < n
  · rw [if_pos h, show min n k = k by omega]
  · rw [if_neg h, show min n k = n by omega]
theorem Sps.take {w : World} {p : Option Addr} {L : List Sp} (h : Sps w p L) (n : Nat) : Sps w p (L.take n) := fun hne => by
  obtain ⟨b, o, rfl, hr⟩ := h (by rintro rfl; simp at hne)
  refine ⟨b, o, rfl, fun i hi => ?_⟩
  have hi' : i < n ∧ i < L.length := by rw [List.length_take] at hi; omega
  have e : (L.take n).getD i Sp.zero = L.getD i Sp.zero := by simp [List.getD, hi'.1]
  rw [e]
  exact hr i hi'.2
theorem Sps.news {w : World} {p : Option Addr} {L : List Sp} (h : Sps w p L) : ∀ ad, p = some ad → ∀ j u, (spCells L)[j]? = some u → w.cell? (ad.add j) = some u := fun ad hp j v hj => by
  have hjl : j < L.length * 2 := by have := (List.getElem?_eq_some_iff.1 hj).1; rwa [length_spCells] at this
  obtain ⟨b, o, he, hr⟩ := h (by rintro rfl; simp at hjl)
  rw [hp] at he
  cases he
  rw [Addr.add_mid]
  have hi : j / 2 < L.length := by omega
  obtain ⟨r1, r2⟩ := hr (j / 2) hi
  obtain ⟨s1, s2⟩ := spCells_at L (j / 2) hi
  rcases Nat.mod_two_eq_zero_or_one j with hm | hm
  · rw [show j = j / 2 * 2 by omega] at hj ⊢
    rw [s1] at hj; cases hj; exact r1
  · rw [show j = j / 2 * 2 + 1 by omega] at hj ⊢
    rw [s2] at hj; cases hj; exact r2

theorem results_alloc1 {fn : Func} {p : Tmp} {tmps : Array Value} {w : World} {g : Nat} {x0 x1 x2 : Value} (h : fn.results = #[.cell p 59]) (hp : tmps.getD p undef = .pointer (some ⟨g, 0, none⟩)) (hg : w.heap[g]? = some (.cells #[x0, x1, x2] 59 (0, 0))) :
    (results fn tmps).run Try.prog w = .ok (.agg #[x0, x1, x2]) w := by
  have hp' : tmps[p]?.getD undef = .pointer (some ⟨g, 0, none⟩) := by simpa using hp
  obtain ⟨⟨c0, c1, c2⟩, -⟩ := pack3 hg
  simp [results, h, go_sem, hp', c0, c1, c2]

set_option maxRecDepth 20000 in
set_option maxHeartbeats 2000000 in
theorem cut5_any {w : World} {p : Option Addr} {L : List Sp} (hs : Sps w p L) (hi mo c : Nat) (hlc : L.length ≤ c) (hc : c ≤ 9223372036854775807) (hn : p = none → c = 0) (hsp : ∀ a, p = some a → a.spot = none) :
    Calls Try.prog 30 #[.agg #[.int .u32 hi, .int .u32 mo, .slice p L.length c]] w (CutPost w ⟨hi, mo, L.take 4100⟩) := by
  obtain ⟨m, hm⟩ : ∃ m, min L.length 4100 = m := ⟨_, rfl⟩
  have hmin : ∀ W, (Builtin.min_ #[3, 3] 3 #[.int .i64 (L.length : Int), .int .i64 4100]).run Try.prog W = .ok (.int .i64 (m : Int)) W := by rw [← hm]; exact min_len5 L.length 4100
  have hml : m ≤ L.length := by omega
  have hm4 : Veil (m ≤ 4100) := ⟨by omega⟩
  have hlt : Veil ((L.take 4100).length = m) := ⟨by rw [List.length_take, ← hm, Nat.min_comm]⟩
  have HS : Veil _ := ⟨hs.take 4100⟩
  generalize hT : L.take 4100 = T at hlt ⊢
  rw [hT] at HS
  clear hs hm hT
  obtain ⟨i0, hi0, hz0, hz1, hz2⟩ := info_parts info_spare
  have HI : Veil (Try.prog.info? 80 = some i0 ∧ i0.zero = some (.agg #[.int .u32 0, .int .u64 0]) ∧ i0.size = 2 ∧ i0.bytes = 16) := ⟨hi0, hz0, hz1, hz2⟩
  clear hi0 hz0 hz1 hz2
  go_enter Try.func30, Try.ntmps30
  go_wp2
  obtain ⟨W5, hW5⟩ : ∃ W5, ((w.alloc (.cells #[.int .u32 hi, .int .u32 mo, .slice p L.length c] 59)).alloc (.cells #[.int .u32 0, .int .u32 0, .slice none 0 0] 59)).drew = W5 := ⟨_, rfl⟩
  have HX5 : Veil (Below w.heap.size w W5) := ⟨by rw [← hW5]; exact (below_al (below_al (Below.refl _ _) _) _).drew⟩
  have HB5 : Veil (W5.heap[w.heap.size]? = some (.cells #[.int .u32 hi, .int .u32 mo, .slice p L.length c] 59 (0, 0))) := ⟨by rw [← hW5]; exact heap_alloc2_old _ _ _⟩
  have HC5 : Veil (W5.heap[w.heap.size + 1]? = some (.cells #[.int .u32 0, .int .u32 0, .slice none 0 0] 59 (0, 0))) := ⟨by rw [← hW5]; exact heap_alloc2_new _ _ _⟩
  have HCC : Veil (W5.cell? ⟨w.heap.size, 2, none⟩ = some (.slice p L.length c)) := ⟨(pack3 HB5.out).1.2.2⟩
  refine region_plan 8 [(true, 1), (true, 2), (true, 3), (true, 4), (true, 5), (true, 6), (true, 7), (false, 0)] (by kernel_rfl) (by kernel_rfl) (fun w' => w'.cell? ⟨w.heap.size, 2, none⟩ = some (.slice p L.length c)) W5 hW5 HCC.out ?_
  clear hW5
  simp only [planOps, List.filterMap_cons, List.filterMap_nil, List.getElem?_toArray, List.getElem?_cons_zero, List.getElem?_cons_succ, Option.map_some]
  iterate 6 (refine plan_quiet rfl ?_ ?_ (fun K hK => ?_); rotate_left; (rintro w' s0; go_simp; rfl); (go_simp; refine hK _ ?_; clear hK K))
  refine plan_quiet rfl (.slice p m c) (fun w' _ => ?_) (fun K hK => ?_)
  · cases p with
    | none =>
      obtain rfl : c = 0 := hn rfl
      obtain rfl : m = 0 := by omega
      go_simp
    | some a =>
      have hmc : m ≤ c := by omega
      go_simp
  go_simp
  refine hK _ ?_
  clear hK K
  refine plan_change (fun K hK => ?_)
  have hB5lt := lt_of_heap HB5.out
  refine wpList_make_own W5 rfl (.const (.int .i64 0)) (.const (.int .i64 4100)) 57 rfl W5.heap.size 80 i0 _ 2 Try.underlying57 HI.out.1 HI.out.2.1 HI.out.2.2.1 .i64 .i64 4100 4100 rfl rfl rfl (by rw [HI.out.2.2.2]; decide) (by unfold maxLen; decide) (Nat.le_refl _) ?_
  intro w6 hown6 hgrow6
  have hT6 : Turned (fun _ => False) W5 w6 := Turned.grown hgrow6 (fun k hk => by cases hk)
  refine wpList_nil ?_
  refine hK _ _ (hT6.cell HCC.out (fun h => h)) ?_
  clear hK K
  refine wpPlan_nil ?_
  simp only [List.drop_succ_cons, List.drop_zero]
  have HX6 : Veil (Below w.heap.size w w6) := ⟨HX5.out.trans (hT6.toBelow HX5.out.size (fun _ _ h => h.elim))⟩
  have HB6 : Veil _ := ⟨hT6.heap HB5.out (fun h => h)⟩
  have HC6 : Veil _ := ⟨hT6.heap HC5.out (fun h => h)⟩
  have HS6 : Veil _ := ⟨((HS.out.below HX6.out).news)⟩
  have HO6 : Veil _ := ⟨hown6⟩
  have HN5 : Veil (w.heap.size < W5.heap.size ∧ w.heap.size + 1 < W5.heap.size) := ⟨hB5lt, lt_of_heap HC5.out⟩
  clear hown6 hgrow6 hT6 hB5lt hmin
  obtain ⟨G, hG⟩ : ∃ G, W5.heap.size = G := ⟨_, rfl⟩
  rw [hG] at HO6 HN5 ⊢
  clear hG HB5 HC5 HX5 HCC
  go_wp2_with (refine wpList_append_fits_any w6 rfl (.tmp 3) (.tmp 10) 57 rfl G 80 i0 2 Try.underlying57 HI.out.1 HI.out.2.2.1 G 0 4100 [] rfl HO6.out p m c (spCells T) rfl (by rw [length_spCells, hlt.out]) (fun e => ⟨by have := hn e; omega, hn e⟩) HS6.out (oneCell_spCells _) (by have := hm4.out; omega) ?_; intro w7 hown7 hgrow7; have HT7 : Veil (Turned (· = G) w6 w7) := ⟨Turned.grown hgrow7 (fun k hk _ => (Option.some.inj hk).symm)⟩; have HO7 : Veil _ := ⟨hown7⟩; have HB7 : Veil _ := ⟨HT7.out.heap HB6.out (by have := HN5.out; omega)⟩; have HC7 : Veil _ := ⟨HT7.out.heap HC6.out (by have := HN5.out; omega)⟩; obtain ⟨⟨q0, q1, q2⟩, k0, k1, k2⟩ := pack3 HB7.out; clear hown7 hgrow7)
  refine only_normal ?_
  have HX7 : Veil (Below w.heap.size w w7) := ⟨HX6.out.trans (HT7.out.toBelow HX6.out.size (fun j _ e => by have := HN5.out; omega))⟩
  have HR7 : Veil (Room w7 w.heap.size G T) := ⟨by
    refine ⟨by have := HN5.out; omega, ?_⟩
    obtain ⟨-, h2⟩ := HO7.out
    rcases h2 with ⟨h, -⟩ | ⟨g, cap', cur, hv, hg, hh, hn', hcap, hsz, ht⟩
    · cases h
    · simp only [Value.slice.injEq, Option.some.injEq, Addr.mk.injEq] at hv
      obtain ⟨⟨rfl, -⟩, -, rfl⟩ := hv
      refine ⟨cur, hh, ?_⟩
      rw [hlt.out]
      simpa using ht⟩
  obtain ⟨W8, hW8⟩ : ∃ W8, w7.setCell ⟨w.heap.size, 2, none⟩ (.slice (some ⟨G, 0, none⟩) m 4100) = W8 := ⟨_, rfl⟩
  have HT8 : Veil (Turned (· = w.heap.size) w7 W8) := ⟨by rw [← hW8]; exact (Turned.refl (· = w.heap.size) w7).setCell (p := ⟨w.heap.size, 2, none⟩) rfl _⟩
  have HB8 : Veil (W8.heap[w.heap.size]? = some (.cells #[.int .u32 hi, .int .u32 mo, .slice (some ⟨G, 0, none⟩) m 4100] 59 (0, 0))) := ⟨by rw [← hW8]; exact heap_setCell_at HB7.out 2 _⟩
  have HC8 : Veil _ := ⟨HT8.out.heap HC7.out (by omega)⟩
  have HR8 : Veil (Room W8 w.heap.size G T) := ⟨HR7.out.turned HT8.out (by have := HN5.out; omega)⟩
  rw [hW8]
  obtain ⟨⟨z0, z1, z2⟩, -⟩ := pack3 HB8.out
  obtain ⟨⟨y0, y1, y2⟩, g0, g1, g2⟩ := pack3 HC8.out
  clear hW8 q0 q1 q2 k0 k1 k2 HS6 HO6 HO7 HI
  go_wp2
  have hT9 := (((Turned.refl (· = w.heap.size + 1) W8).setCell (p := ⟨w.heap.size + 1, 0, none⟩) rfl (.int .u32 hi)).setCell (p := ⟨w.heap.size + 1, 1, none⟩) rfl (.int .u32 mo)).setCell (p := ⟨w.heap.size + 1, 2, none⟩) rfl (.slice (some ⟨G, 0, none⟩) m 4100)
  refine bodyPost_ret (results_alloc1 (g := w.heap.size + 1) rfl rfl (set3 HC8.out _ _ _)) rfl ⟨G, ?_, ?_, ?_⟩
  · rw [Al.v, hlt.out]
  · exact HR8.out.turned hT9 (by have := HN5.out; omega)
  · exact (HX7.out.trans (HT8.out.toBelow HX7.out.size (fun j _ e => by omega))).trans (hT9.toBelow (Nat.le_trans HX7.out.size HT8.out.size) (fun j _ e => by omega))
end Go.Proofs.Ytapmppiiphbcpaa

/- The law AllocFresh. -/
namespace Go.Proofs.Ytapmppiiphbcpaa
open Go Go.RowKit Sm
attribute [local go_sem] Oper.semAt_some

/-- An alloc as a law is handed it. -/
structure AlIn (w : World) (a : Al) (p : Option Addr) (c : Nat) : Prop where
  s : Sps w p a.l
  len : a.l.length ≤ c
  few : c ≤ 9223372036854775807
  nil : p = none → c = 0
  old : ∀ b, p = some b → b.spot = none
  high : a.high < 4294967296
  most : a.most < 4294967296
  l : ∀ s ∈ a.l, s.Ok
theorem AlIn.below {w w' : World} {a : Al} {p : Option Addr} {c : Nat} (h : AlIn w a p c) (hb : Below w.heap.size w w') : AlIn w' a p c := ⟨h.s.below hb, h.len, h.few, h.nil, h.old, h.high, h.most, h.l⟩
/-- Its first forty-one hundred spares. -/
def Al.cut (a : Al) : Al := ⟨a.high, a.most, a.l.take 4100⟩
theorem AlIn.cut_ok {w : World} {a : Al} {p : Option Addr} {c : Nat} (h : AlIn w a p c) : a.cut.Ok := ⟨h.high, h.most, fun s hs => h.l s (List.mem_of_mem_take hs), by simp only [Al.cut, List.length_take]; omega⟩
theorem cut_few (a : Al) : a.cut.l.length ≤ 4100 := by simp only [Al.cut, List.length_take]; omega
theorem AlIn.cut_any {w : World} {a : Al} {p : Option Addr} {c : Nat} (h : AlIn w a p c) : Calls Try.prog 30 #[a.v p c] w (CutPost w a.cut) := cut5_any h.s a.high a.most c h.len h.few h.nil h.old
theorem Room.at' {w : World} {B g : Nat} {a : Al} (h : Room w B g a.l) (hok : a.Ok) (hf : a.l.length ≤ 4100) : AlAt w a (some ⟨g, 0, none⟩) 4100 :=
  ⟨h.sps, fun b hb => by cases hb; exact ⟨h.lt, rfl⟩, hf, by decide, (fun e => by cases e), hok⟩

/-- Behind the box's being laid anew. -/
theorem box_anew {w w3 : World} {hi mo n c g B0 B : Nat} {p : Option Addr} {T : List Sp} (hX : Below w.heap.size w w3) (h0 : w.heap.size ≤ B0) (hb : w3.heap[B0]? = some (.cells #[.int .u32 hi, .int .u32 mo, .slice p n c] 59 (0, 0))) (hR : Room w3 B g T) (hgB : g ≠ B0) (v : Value) :
    ∃ W, ((w3.setCell ⟨B0, 0, none⟩ (.int .u32 hi)).setCell ⟨B0, 1, none⟩ (.int .u32 mo)).setCell ⟨B0, 2, none⟩ v = W ∧ Below w.heap.size w W ∧ W.heap[B0]? = some (.cells #[.int .u32 hi, .int .u32 mo, v] 59 (0, 0)) ∧ Room W B g T := by
  have hT := ((((Turned.refl (· = B0) w3).setCell (p := ⟨B0, 0, none⟩) rfl (.int .u32 hi)).setCell (p := ⟨B0, 1, none⟩) rfl (.int .u32 mo)).setCell (p := ⟨B0, 2, none⟩) rfl v)
  exact ⟨_, rfl, hX.trans (hT.toBelow hX.size (fun j _ e => by omega)), set3 hb _ _ _, hR.turned hT hgB⟩

set_option maxRecDepth 20000 in
set_option maxHeartbeats 2000000 in
theorem allocFresh_any {w : World} {a : Al} {p : Option Addr} {c : Nat} (h : AlIn w a p c) : Calls Try.prog 11 #[a.v p c] w fun e w' => e = .returned (.bool true) ∧ Below w.heap.size w w' := by
  have HC : Veil (∀ W, Below w.heap.size w W → Calls Try.prog 30 #[a.v p c] W fun e w' => ∃ g, e = .returned (a.cut.v (some ⟨g, 0, none⟩) 4100) ∧ Room w' W.heap.size g a.cut.l ∧ Below W.heap.size W w') := ⟨fun W hW => (h.below hW).cut_any⟩
  have hok := h.cut_ok
  have hf := cut_few a
  have HK : Veil (a.cut.high = a.high ∧ a.cut.most = a.most) := ⟨rfl, rfl⟩
  revert HC hok hf HK
  generalize a.cut = d
  intro HC hok hf HK
  have HOK : Veil _ := ⟨hok⟩
  have HF : Veil _ := ⟨hf⟩
  have HR : Veil (∀ W g B, Room W B g d.l → Calls Try.prog 35 #[d.v (some ⟨g, 0, none⟩) 4100] W fun e w' => e = .returned (.bool d.right) ∧ Below W.heap.size W w') := ⟨fun W g B hR => aright_of hR.sps (fun b hb => by cases hb; exact hR.lt) 4100 HOK⟩
  have HT : Veil (∀ W g B, Room W B g d.l → Calls Try.prog 31 #[d.v (some ⟨g, 0, none⟩) 4100, .int .u64 (0 : Nat)] W (TakePost W (d.take 0))) := ⟨fun W g B hR => take_any (hR.at' HOK.out HF.out) 0⟩
  clear h hok hf
  go_enter Try.func11, Try.ntmps11
  obtain ⟨hi, mo, L⟩ := a
  obtain ⟨hi', mo', T⟩ := d
  obtain ⟨e1, e2⟩ := HK.out
  dsimp only at e1 e2
  subst e1 e2
  unfold Al.v at *
  dsimp only at *
  go_wp2_with (first
    | (go_at_call 30; refine (HC.out _ HX2.out).mono ?_; rintro e w3 ⟨g, rfl, hR3, hb3⟩; have HX3 : Veil (Below w.heap.size w w3) := ⟨alb_then HX2.out hb3⟩; have HB3 : Veil _ := ⟨(hb3.block w.heap.size (lt_of_heap HB2.out)).trans HB2.out⟩; have hz3 := HX2.out.size; have hg3 : w.heap.size < g := (by have := lt_of_heap HB2.out; have := hR3.1; omega); obtain ⟨⟨q0, q1, q2⟩, k0, k1, k2⟩ := pack3 HB3.out; have HR3 : Veil _ := ⟨hR3⟩; clear hb3 hR3 hz3)
    | (go_at_call 29; refine (shown5_any _).mono ?_; rintro e w2 ⟨rfl, hb2⟩; have HX2 : Veil (Below w.heap.size w w2) := ⟨alb_then (below_al (Below.refl _ _) _) hb2⟩; have HB2 : Veil _ := ⟨(hb2.block w.heap.size (by simp)).trans (heap_alloc_new _ _)⟩; obtain ⟨⟨q0, q1, q2⟩, k0, k1, k2⟩ := pack3 HB2.out; clear hb2))
  obtain ⟨W4, hW4, hX4, hB4, hR4⟩ := box_anew HX3.out (Nat.le_refl _) HB3.out HR3.out (Nat.ne_of_gt hg3) (.slice (some ⟨g, 0, none⟩) T.length 4100)
  rw [hW4]
  clear hW4 q0 q1 q2 k0 k1 k2 HX3 HB3 HR3 HB2
  have HX4 : Veil _ := ⟨hX4⟩
  have HB4 : Veil _ := ⟨hB4⟩
  have HR4 : Veil _ := ⟨hR4⟩
  clear hX4 hB4 hR4 HC
  cases hr : (⟨hi', mo', T⟩ : Al).right
  · rw [show (⟨hi', mo', T⟩ : Al).take 0 = ⟨Al.zero, 0, 50⟩ by simp [Al.take, hr]] at HT
    rw [hr] at HR
    clear hr
    refine (HT.out W4 g _ HR4.out).mono ?_
    rintro e w5 ⟨p', c', rfl, hN, hb5⟩
    have HX5 : Veil (Below w.heap.size w w5) := ⟨alb_then HX4.out hb5⟩
    have HB5 : Veil _ := ⟨(hb5.block w.heap.size (lt_of_heap HB4.out)).trans HB4.out⟩
    have HR5 : Veil _ := ⟨HR4.out.below hb5⟩
    obtain ⟨⟨q0, q1, q2⟩, k0, k1, k2⟩ := pack3 HB5.out
    have hz5 : w.heap.size < w5.heap.size := lt_of_heap HB5.out
    have hbx := below_al (Below.refl _ w5) (.cells #[.int .u32 0, .int .u32 0, .slice p' 0 c'] 59)
    have HR6 := HR.out _ g _ (HR5.out.below hbx)
    have HR6' : Veil _ := ⟨HR6⟩
    unfold Al.v
    dsimp only [Al.zero]
    clear HR HT hb5 hN hbx HR6
    go_wp2_with (go_at_call 35; refine HR6'.out.mono ?_; rintro e w6 ⟨rfl, hb6⟩; have HX6 : Veil (Below w.heap.size w w6) := ⟨alb_then (below_al HX5.out _) hb6⟩)
    go_ret
    exact ⟨rfl, HX6.out⟩
  · have hri := (Al.right_iff _).1 hr
    have hno : ¬ firstAt (old 0) T < T.length := by
      rw [firstAt_none]
      · omega
      · intro i hi
        have hm : T.getD i Sp.zero ∈ T := by rw [List.getD, List.getElem?_eq_getElem hi]; exact List.getElem_mem ..
        have := (rising_ge hri.2 _ hm).2.2
        show decide ((T.getD i Sp.zero).tx ≤ 0) = false
        rw [decide_eq_false_iff_not]
        omega
    have HT0 : (⟨hi', mo', T⟩ : Al).take 0 = if hi' = mo' then ⟨⟨hi', mo', T⟩, 0, 51⟩ else ⟨⟨hi' + 1, mo', T⟩, hi', 0⟩ := by simp [Al.take, hr, hno]
    have hm : mo' ≤ 16384 := hri.1.2.2.1
    have hm2 : hi' ≤ mo' := hri.1.2.1
    rw [hr] at HR
    rw [HT0] at HT
    clear hr hri hno HT0
    by_cases hfull : hi' = mo'
    · subst hfull
      rw [if_pos rfl] at HT
      clear hm hm2
      refine (HT.out W4 g _ HR4.out).mono ?_
      rintro e w5 ⟨p', c', rfl, hN, hb5⟩
      have HX5 : Veil (Below w.heap.size w w5) := ⟨alb_then HX4.out hb5⟩
      have HB5 : Veil _ := ⟨(hb5.block w.heap.size (lt_of_heap HB4.out)).trans HB4.out⟩
      have HR5 : Veil _ := ⟨HR4.out.below hb5⟩
      obtain ⟨⟨q0, q1, q2⟩, k0, k1, k2⟩ := pack3 HB5.out
      have hz5 : w.heap.size < w5.heap.size := lt_of_heap HB5.out
      have HNN : Veil _ := ⟨hN⟩
      unfold Al.v
      dsimp only
      obtain ⟨W6, hW6⟩ : ∃ W6, w5.alloc (.cells #[.int .u32 hi', .int .u32 hi', .slice p' T.length c'] 59) = W6 := ⟨_, rfl⟩
      have hbx : Below w5.heap.size w5 W6 := by rw [← hW6]; exact below_al (Below.refl _ w5) _
      have HBX : Veil _ := ⟨hbx⟩
      have HX6 : Veil (Below w.heap.size w W6) := ⟨alb_then HX5.out hbx⟩
      have HB6 : Veil _ := ⟨(hbx.block w.heap.size hz5).trans HB5.out⟩
      have HD6 : Veil (W6.heap[w5.heap.size]? = some (.cells #[.int .u32 hi', .int .u32 hi', .slice p' T.length c'] 59 (0, 0))) := ⟨by rw [← hW6]; exact heap_alloc_new _ _⟩
      have HR6 : Veil _ := ⟨HR.out _ g _ (HR5.out.below hbx)⟩
      obtain ⟨⟨r0, r1, r2⟩, -⟩ := pack3 HB6.out
      clear HR HT hb5 hN hbx
      go_wp2_with fail
      go_at_call 35
      refine HR6.out.mono ?_
      rintro e w7 ⟨rfl, hb7⟩
      have HX7 : Veil (Below w.heap.size w w7) := ⟨alb_then HX6.out hb7⟩
      have HSA : Veil (∀ W, Below w7.heap.size w7 W → Calls Try.prog 37 #[.agg #[.int .u32 hi', .int .u32 hi', .slice (some ⟨g, 0, none⟩) T.length 4100], .agg #[.int .u32 hi', .int .u32 hi', .slice p' T.length c']] W fun e w' => e = .returned (.bool true) ∧ Below W.heap.size W w') := ⟨fun W hW => same_allocs (a := ⟨hi', hi', T⟩) (c := 4100) (d := c') ((((HR5.out.below HBX.out).below hb7).below hW).sps) (((HNN.out.f.sps.below HBX.out).below hb7).below hW) (by have := HF.out; simp only; omega)⟩
      obtain ⟨⟨s0, s1, s2⟩, -⟩ := pack3 ((hb7.block _ (lt_of_heap HB6.out)).trans HB6.out)
      obtain ⟨⟨y0, y1, y2⟩, -⟩ := pack3 ((hb7.block _ (lt_of_heap HD6.out)).trans HD6.out)
      clear hb7
      go_wp2_with fail
      go_at_call 37
      refine (HSA.out _ (Below.refl _ _)).mono ?_
      rintro e w8 ⟨rfl, hb8⟩
      have HX8 : Veil (Below w.heap.size w w8) := ⟨alb_then HX7.out hb8⟩
      go_wp2
      go_ret
      exact ⟨rfl, HX8.out⟩
    · rw [if_neg hfull] at HT
      have hne : ((hi' : Int) == (mo' : Int)) = false := by simpa using fun e => hfull (by omega)
      have hw1 : IntKind.u32.wrap ((hi' : Int) + 1) = (hi' : Int) + 1 := by rw [IntKind.wrap_u32']; omega
      have hcast : (((hi' + 1 : Nat) : Int)) = (hi' : Int) + 1 := by omega
      clear hm hm2 hfull
      refine (HT.out W4 g _ HR4.out).mono ?_
      rintro e w5 ⟨p', c', rfl, hN, hb5⟩
      have HX5 : Veil (Below w.heap.size w w5) := ⟨alb_then HX4.out hb5⟩
      have HB5 : Veil _ := ⟨(hb5.block w.heap.size (lt_of_heap HB4.out)).trans HB4.out⟩
      have HR5 : Veil _ := ⟨HR4.out.below hb5⟩
      obtain ⟨⟨q0, q1, q2⟩, k0, k1, k2⟩ := pack3 HB5.out
      have hz5 : w.heap.size < w5.heap.size := lt_of_heap HB5.out
      have HNN : Veil _ := ⟨hN⟩
      unfold Al.v
      dsimp only
      rw [hcast]
      obtain ⟨W6, hW6⟩ : ∃ W6, w5.alloc (.cells #[.int .u32 ((hi' : Int) + 1), .int .u32 mo', .slice p' T.length c'] 59) = W6 := ⟨_, rfl⟩
      have hbx : Below w5.heap.size w5 W6 := by rw [← hW6]; exact below_al (Below.refl _ w5) _
      have HBX : Veil _ := ⟨hbx⟩
      have HX6 : Veil (Below w.heap.size w W6) := ⟨alb_then HX5.out hbx⟩
      have HB6 : Veil _ := ⟨(hbx.block w.heap.size hz5).trans HB5.out⟩
      have HD6 : Veil (W6.heap[w5.heap.size]? = some (.cells #[.int .u32 ((hi' : Int) + 1), .int .u32 mo', .slice p' T.length c'] 59 (0, 0))) := ⟨by rw [← hW6]; exact heap_alloc_new _ _⟩
      have HR6 : Veil _ := ⟨HR.out _ g _ (HR5.out.below hbx)⟩
      obtain ⟨⟨r0, r1, r2⟩, -⟩ := pack3 HB6.out
      clear HR HT hb5 hN hbx hcast
      go_wp2_with fail
      go_at_call 35
      refine HR6.out.mono ?_
      rintro e w7 ⟨rfl, hb7⟩
      have HX7 : Veil (Below w.heap.size w w7) := ⟨alb_then HX6.out hb7⟩
      have HSA : Veil (∀ W, Below w7.heap.size w7 W → Calls Try.prog 42 #[.slice (some ⟨g, 0, none⟩) T.length 4100, .slice p' T.length c'] W fun e w' => e = .returned (.bool true) ∧ Below W.heap.size W w') := ⟨fun W hW => same_list ((((HR5.out.below HBX.out).below hb7).below hW).sps) (((HNN.out.f.sps.below HBX.out).below hb7).below hW) 4100 c' (by have := HF.out; omega)⟩
      obtain ⟨⟨s0, s1, s2⟩, -⟩ := pack3 ((hb7.block _ (lt_of_heap HB6.out)).trans HB6.out)
      obtain ⟨⟨y0, y1, y2⟩, -⟩ := pack3 ((hb7.block _ (lt_of_heap HD6.out)).trans HD6.out)
      clear hb7
      go_wp2_with fail
      go_at_call 42
      refine (HSA.out _ (Below.refl _ _)).mono ?_
      rintro e w8 ⟨rfl, hb8⟩
      have HX8 : Veil (Below w.heap.size w w8) := ⟨alb_then HX7.out hb8⟩
      go_wp2
      go_ret
      exact ⟨rfl, HX8.out⟩
end Go.Proofs.Ytapmppiiphbcpaa

/- The law AllocGated. -/
namespace Go.Proofs.Ytapmppiiphbcpaa
open Go Go.RowKit Sm
attribute [local go_sem] Oper.semAt_some

/-- Pages of a list that rises are not the same. -/
theorem rising_apart {high : Nat} : ∀ {L : List Sp} {a i j : Nat}, rising high a L = true → i < j → j < L.length → (L.getD i Sp.zero).page < (L.getD j Sp.zero).page
  | [], _, _, _, _, _, h => by simp at h
  | s :: r, a, 0, j + 1, h, _, hj => by
    obtain ⟨_, hr⟩ := (rising_cons _ _ _ _).1 h
    have hj' : j < r.length := by simpa using hj
    have hm : r.getD j Sp.zero ∈ r := by rw [List.getD, List.getElem?_eq_getElem hj']; exact List.getElem_mem ..
    have := (rising_ge hr _ hm).1
    simp only [List.getD_cons_zero, List.getD_cons_succ]
    omega
  | s :: r, a, i + 1, j + 1, h, hij, hj => by
    obtain ⟨_, hr⟩ := (rising_cons _ _ _ _).1 h
    simp only [List.getD_cons_succ]
    exact rising_apart hr (by omega) (by simpa using hj)
theorem getD_mem {L : List Sp} {i : Nat} (h : i < L.length) : L.getD i Sp.zero ∈ L := by rw [List.getD, List.getElem?_eq_getElem h]; exact List.getElem_mem ..
theorem getD_erase (L : List Sp) (k i : Nat) : (L.eraseIdx k).getD i Sp.zero = L.getD (if i < k then i else i + 1) Sp.zero := by
  simp only [List.getD, List.getElem?_eraseIdx]
  split <;> rfl
theorem any_take_succ (f : Sp → Bool) (L : List Sp) (k : Nat) (h : k < L.length) : (L.take (k + 1)).any f = ((L.take k).any f || f (L.getD k Sp.zero)) := by
  rw [List.take_succ_eq_append_getElem h, List.any_append]
  simp [List.getD, h]
/-- What a taken page says of the lists. -/
structure Gate (T : List Sp) (oldest page hi : Nat) (b : Al) : Prop where
  g1 : ∀ i, i < T.length → ¬ ((T.getD i Sp.zero).page = page ∧ oldest < (T.getD i Sp.zero).tx)
  g2 : ∀ i, i < b.l.length → (b.l.getD i Sp.zero).page ≠ page
  g3 : (T.any (old oldest) = true ∧ b.high = hi) ∨ (T.any (old oldest) = false ∧ b.high = hi + 1 ∧ page = hi)
theorem take_gate {d : Al} (oldest : Nat) : ((d.take oldest).err = 0 ∧ Gate d.l oldest (d.take oldest).page d.high (d.take oldest).a) ∨ ((d.take oldest).err ≠ 0 ∧ (d.take oldest).page = 0) := by
  unfold Al.take
  by_cases hr : d.right = true
  · obtain ⟨⟨h1, h2, h3, h4⟩, h5⟩ := (Al.right_iff d).1 hr
    rw [if_pos hr]
    by_cases hf : firstAt (old oldest) d.l < d.l.length
    · rw [if_pos hf]
      refine .inl ⟨rfl, ⟨fun i hi ⟨hp, ho⟩ => ?_, fun i hi hp => ?_, .inl ⟨?_, rfl⟩⟩⟩
      · have ht := firstAt_true _ _ hf
        simp only [old, decide_eq_true_eq] at ht
        rcases Nat.lt_trichotomy i (firstAt (old oldest) d.l) with h | h | h
        · have := rising_apart h5 h hf; simp only at hp; omega
        · rw [h] at ho; omega
        · have := rising_apart h5 h hi; simp only at hp; omega
      · simp only at hi hp
        rw [List.length_eraseIdx, if_pos hf] at hi
        rw [getD_erase] at hp
        split at hp
        · rename_i h; have := rising_apart h5 h hf; omega
        · rename_i h; have := rising_apart h5 (show firstAt (old oldest) d.l < i + 1 by omega) (by omega); omega
      · exact List.any_eq_true.2 ⟨_, getD_mem hf, firstAt_true _ _ hf⟩
    · rw [if_neg hf]
      by_cases hm : d.high = d.most
      · rw [if_pos hm]
        exact .inr ⟨(by simp), rfl⟩
      · rw [if_neg hm]
        have hlt : ∀ i, i < d.l.length → (d.l.getD i Sp.zero).page < d.high := fun i hi => (rising_ge h5 _ (getD_mem hi)).2.1
        refine .inl ⟨rfl, ⟨fun i hi ⟨hp, _⟩ => by have := hlt i hi; simp only at hp; omega, fun i hi hp => by have := hlt i hi; simp only at hp; omega, .inr ⟨?_, rfl, rfl⟩⟩⟩
        have hl : firstAt (old oldest) d.l = d.l.length := by have := firstAt_le (old oldest) d.l; omega
        cases ha : d.l.any (old oldest)
        · rfl
        · obtain ⟨x, hx, ho⟩ := List.any_eq_true.1 ha
          obtain ⟨i, hi, rfl⟩ := List.mem_iff_getElem.1 hx
          have := firstAt_false (old oldest) d.l i (by omega)
          rw [show d.l.getD i Sp.zero = d.l[i] by simp [List.getD, hi], ho] at this
          cases this
  · rw [if_neg hr]
    exact .inr ⟨(by simp), rfl⟩

set_option maxRecDepth 20000 in
set_option maxHeartbeats 2000000 in
theorem allocGated_any {w : World} {a : Al} {p : Option Addr} {c : Nat} (h : AlIn w a p c) (oldest : Nat) : Calls Try.prog 9 #[a.v p c, .int .u64 oldest] w fun e w' => e = .returned (.bool true) ∧ Below w.heap.size w w' := by
  have HC : Veil (∀ W, Below w.heap.size w W → Calls Try.prog 30 #[a.v p c] W fun e w' => ∃ g, e = .returned (a.cut.v (some ⟨g, 0, none⟩) 4100) ∧ Room w' W.heap.size g a.cut.l ∧ Below W.heap.size W w') := ⟨fun W hW => (h.below hW).cut_any⟩
  have hok := h.cut_ok
  have hf := cut_few a
  have HK : Veil (a.cut.high = a.high ∧ a.cut.most = a.most) := ⟨rfl, rfl⟩
  revert HC hok hf HK
  generalize a.cut = d
  intro HC hok hf HK
  have HOK : Veil _ := ⟨hok⟩
  have HF : Veil _ := ⟨hf⟩
  have HT : Veil (∀ W g B, Room W B g d.l → Calls Try.prog 31 #[d.v (some ⟨g, 0, none⟩) 4100, .int .u64 oldest] W (TakePost W (d.take oldest))) := ⟨fun W g B hR => take_any (hR.at' HOK.out HF.out) oldest⟩
  have HGT : Veil _ := ⟨take_gate (d := d) oldest⟩
  have HTO : Veil _ := ⟨Al.take_ok hok oldest⟩
  revert HT HGT HTO
  generalize d.take oldest = t
  obtain ⟨⟨bh, bm, M⟩, pg, er⟩ := t
  intro HT HGT HTO
  clear h hok hf
  obtain ⟨hi, mo, L⟩ := a
  obtain ⟨hi', mo', T⟩ := d
  obtain ⟨e1, e2⟩ := HK.out
  dsimp only at e1 e2
  subst e1 e2
  unfold Al.v at *
  dsimp only at *
  go_enter Try.func9, Try.ntmps9
  go_wp2_with (first
    | (go_at_call 30; refine (HC.out _ HX2.out).mono ?_; rintro e w3 ⟨g, rfl, hR3, hb3⟩; have HX3 : Veil (Below w.heap.size w w3) := ⟨alb_then HX2.out hb3⟩; have HB3 : Veil _ := ⟨(hb3.block w.heap.size (lt_of_heap HB2.out)).trans HB2.out⟩; have hz3 := HX2.out.size; have hg3 : w.heap.size < g := (by have := lt_of_heap HB2.out; have := hR3.1; omega); obtain ⟨⟨q0, q1, q2⟩, k0, k1, k2⟩ := pack3 HB3.out; have HR3 : Veil _ := ⟨hR3⟩; clear hb3 hR3 hz3)
    | (go_at_call 29; refine (shown5_any _).mono ?_; rintro e w2 ⟨rfl, hb2⟩; have HX2 : Veil (Below w.heap.size w w2) := ⟨alb_then (below_al (Below.refl _ _) _) hb2⟩; have HB2 : Veil _ := ⟨(hb2.block w.heap.size (by simp)).trans (heap_alloc_new _ _)⟩; obtain ⟨⟨q0, q1, q2⟩, k0, k1, k2⟩ := pack3 HB2.out; clear hb2))
  obtain ⟨W4, hW4, hX4, hB4, hR4⟩ := box_anew HX3.out (Nat.le_refl _) HB3.out HR3.out (Nat.ne_of_gt hg3) (.slice (some ⟨g, 0, none⟩) T.length 4100)
  rw [hW4]
  clear hW4 q0 q1 q2 k0 k1 k2 HX3 HB3 HR3 HB2
  have HX4 : Veil _ := ⟨hX4⟩
  have HB4 : Veil _ := ⟨hB4⟩
  have HR4 : Veil _ := ⟨hR4⟩
  clear hX4 hB4 hR4 HC
  refine (HT.out W4 g _ HR4.out).mono ?_
  rintro e w5 ⟨p', c', rfl, hN, hb5⟩
  have HX5 : Veil (Below w.heap.size w w5) := ⟨alb_then HX4.out hb5⟩
  have HB5 : Veil _ := ⟨(hb5.block w.heap.size (lt_of_heap HB4.out)).trans HB4.out⟩
  have HR5 : Veil _ := ⟨HR4.out.below hb5⟩
  have hz5 : w.heap.size < w5.heap.size := lt_of_heap HB5.out
  have HNN : Veil _ := ⟨hN⟩
  unfold Al.v
  dsimp only
  obtain ⟨W6, hW6⟩ : ∃ W6, w5.alloc (.cells #[.int .u32 bh, .int .u32 bm, .slice p' M.length c'] 59) = W6 := ⟨_, rfl⟩
  have hbx : Below w5.heap.size w5 W6 := by rw [← hW6]; exact below_al (Below.refl _ w5) _
  have HX6 : Veil (Below w.heap.size w W6) := ⟨alb_then HX5.out hbx⟩
  have HB6 : Veil _ := ⟨(hbx.block w.heap.size hz5).trans HB5.out⟩
  have HD6 : Veil (W6.heap[w5.heap.size]? = some (.cells #[.int .u32 bh, .int .u32 bm, .slice p' M.length c'] 59 (0, 0))) := ⟨by rw [← hW6]; exact heap_alloc_new _ _⟩
  have HR6 : Veil _ := ⟨HR5.out.below hbx⟩
  have HM6 : Veil _ := ⟨hN.f.sps.below hbx⟩
  obtain ⟨⟨q0, q1, q2⟩, -⟩ := pack3 HB6.out
  obtain ⟨⟨y0, y1, y2⟩, -⟩ := pack3 HD6.out
  have HTT : Veil (T.length ≤ 4100 ∧ M.length ≤ 100000) := ⟨HF.out, HTO.out.1.few⟩
  clear HT hb5 hN hbx HNN HR5 HB5 HX5 HX4 HB4 HR4 HF HOK HTO
  rcases HGT.out with ⟨he, hgt⟩ | ⟨he, hpz⟩
  · obtain rfl : er = 0 := he
    have HG : Veil _ := ⟨hgt⟩
    clear HGT hgt
    go_wp2_with fail
    go_loop [9, 10] (fun s i => ∃ k : Nat, k ≤ T.length ∧ i = .int .i64 k ∧ s = .bool ((T.take k).any (old oldest))) (fun _ i => T.length - (intOf i).toNat)
    case atStart => exact ⟨0, Nat.zero_le _, rfl, rfl⟩
    case round =>
      obtain ⟨k, hk, rfl, rfl⟩ := hrel
      have hl1 : T.length ≤ 4100 := HTT.out.1
      by_cases hlt : k < T.length
      · obtain ⟨b, o, he, hc⟩ := HR6.out.sps (by rintro rfl; simp at hlt)
        cases he
        obtain ⟨c1, c2⟩ := hc k hlt
        rw [Nat.zero_add] at c1 c2
        have HA : Veil _ := ⟨HG.out.g1 k hlt⟩
        have HAS : Veil _ := ⟨any_take_succ (old oldest) T k hlt⟩
        clear hc
        revert c1 c2 HA HAS
        generalize T.getD k Sp.zero = s
        obtain ⟨sp, st⟩ := s
        generalize (T.take k).any (old oldest) = sm
        intro c1 c2 HA HAS
        have hl2 : ∀ sm' : Bool, (sm' = (sm || old oldest ⟨sp, st⟩)) → Value.bool sm' = .bool ((T.take (k + 1)).any (old oldest)) := fun sm' h => by rw [HAS.out, h]
        have HL2 : Veil _ := ⟨hl2⟩
        clear hl2
        by_cases ho : oldest < st
        · have ho1 : decide (oldest < st) = true := by simp [ho]
          have ho2 : decide (st ≤ oldest) = false := by simp; omega
          have hpn : ((sp : Int) == (pg : Int)) = false := by simpa using fun e => HA.out ⟨by simp only; omega, ho⟩
          have HO : Veil (old oldest ⟨sp, st⟩ = false) := ⟨ho2⟩
          clear ho
          cases sm
          · go_wp2
            refine ⟨⟨k + 1, by omega, by go_num, HL2.out _ (by rw [HO.out]; rfl)⟩, ?_⟩
            simp only [intOf]; omega
          · go_wp2
            refine ⟨⟨k + 1, by omega, by go_num, HL2.out _ rfl⟩, ?_⟩
            simp only [intOf]; omega
        · have ho1 : decide (oldest < st) = false := by simp [ho]
          have ho2 : decide (st ≤ oldest) = true := by simp; omega
          have HO : Veil (old oldest ⟨sp, st⟩ = true) := ⟨ho2⟩
          clear ho
          by_cases hpn' : sp = pg
          · have hpn : ((sp : Int) == (pg : Int)) = true := by simp [hpn']
            clear hpn'
            cases sm
            · go_wp2
              refine ⟨⟨k + 1, by omega, by go_num, HL2.out _ (by rw [HO.out]; rfl)⟩, ?_⟩
              simp only [intOf]; omega
            · go_wp2
              refine ⟨⟨k + 1, by omega, by go_num, HL2.out _ rfl⟩, ?_⟩
              simp only [intOf]; omega
          · have hpn : ((sp : Int) == (pg : Int)) = false := by simpa using fun e => hpn' (by omega)
            clear hpn'
            cases sm
            · go_wp2
              refine ⟨⟨k + 1, by omega, by go_num, HL2.out _ (by rw [HO.out]; rfl)⟩, ?_⟩
              simp only [intOf]; omega
            · go_wp2
              refine ⟨⟨k + 1, by omega, by go_num, HL2.out _ rfl⟩, ?_⟩
              simp only [intOf]; omega
      · obtain rfl : k = T.length := by omega
        rw [List.take_length]
        have HG3 : Veil _ := ⟨HG.out.g3⟩
        revert HG3
        generalize T.any (old oldest) = sm
        intro HG3
        have hl2 : M.length ≤ 100000 := HTT.out.2
        go_wp2
        go_loop [11] (fun i => ∃ k : Nat, k ≤ M.length ∧ i = .int .i64 k) (fun i => M.length - (intOf i).toNat)
        case atStart => exact ⟨0, Nat.zero_le _, rfl⟩
        case round =>
          obtain ⟨k, hk, rfl⟩ := hrel
          by_cases hlt : k < M.length
          · obtain ⟨b, o, rfl, hc⟩ := HM6.out (by rintro rfl; simp at hlt)
            obtain ⟨c1, c2⟩ := hc k hlt
            have HA : Veil _ := ⟨HG.out.g2 k hlt⟩
            clear hc
            revert c1 c2 HA
            generalize M.getD k Sp.zero = s
            obtain ⟨sp, st⟩ := s
            intro c1 c2 HA
            have hpn : ((sp : Int) == (pg : Int)) = false := by simpa using fun e => HA.out (by simp only; omega)
            go_wp2
            refine ⟨⟨k + 1, by omega, by go_num⟩, ?_⟩
            simp only [intOf]; omega
          · obtain rfl : k = M.length := by omega
            clear hl2
            rcases HG3.out with ⟨rfl, e1⟩ | ⟨rfl, e1, e2⟩
            · have h1 : ((bh : Int) == (hi' : Int)) = true := by simp; omega
              clear e1
              go_wp2
              go_ret
              exact ⟨rfl, HX6.out⟩
            · have h1 : ((bh : Int) == (hi' : Int)) = false := by simp; omega
              have h2 : ((pg : Int) == (hi' : Int)) = true := by simp; omega
              clear e1 e2
              go_wp2
              go_ret
              exact ⟨rfl, HX6.out⟩
  · obtain rfl : pg = 0 := hpz
    have hne : (er == 0) = false := by simpa using he
    clear HGT he
    go_wp2
    go_ret
    exact ⟨rfl, HX6.out⟩
end Go.Proofs.Ytapmppiiphbcpaa

/- The law AllocGiven. -/
namespace Go.Proofs.Ytapmppiiphbcpaa
open Go Go.RowKit Sm
attribute [local go_sem] Oper.semAt_some

def isS (x s : Sp) : Bool := decide (s.page = x.page) && decide (s.tx = x.tx)
theorem count_none (x : Sp) : ∀ L : List Sp, (∀ s ∈ L, s.page ≠ x.page) → L.countP (isS x) = 0 := fun L h => by
  rw [List.countP_eq_zero]
  intro s hs
  simp [isS, h s hs]
theorem count_ins (x : Sp) : ∀ L : List Sp, (insS x L).countP (isS x) = L.countP (isS x) + 1
  | [] => by simp [insS, isS]
  | s :: r => by
    have hx : isS x x = true := by simp [isS]
    unfold insS
    split
    · rw [List.countP_cons, hx, if_pos rfl]
    · rw [List.countP_cons, List.countP_cons, count_ins x r]
      omega
theorem count_take_succ (f : Sp → Bool) (L : List Sp) (k : Nat) (h : k < L.length) : (L.take (k + 1)).countP f = (L.take k).countP f + if f (L.getD k Sp.zero) = true then 1 else 0 := by
  rw [List.take_succ_eq_append_getElem h, List.countP_append]
  simp [List.getD, h, List.countP_cons]
theorem count_le_take (f : Sp → Bool) (L : List Sp) (k : Nat) : (L.take k).countP f ≤ k := Nat.le_trans List.countP_le_length (List.length_take_le _ _)

set_option maxRecDepth 20000 in
set_option maxHeartbeats 2000000 in
theorem allocGiven_any {w : World} {a : Al} {p : Option Addr} {c : Nat} (h : AlIn w a p c) (page tx : Nat) (hpg : page < 4294967296) (htx : tx < 18446744073709551616) : Calls Try.prog 12 #[a.v p c, .int .u32 page, .int .u64 tx] w fun e w' => e = .returned (.bool true) ∧ Below w.heap.size w w' := by
  have HC : Veil (∀ W, Below w.heap.size w W → Calls Try.prog 30 #[a.v p c] W fun e w' => ∃ g, e = .returned (a.cut.v (some ⟨g, 0, none⟩) 4100) ∧ Room w' W.heap.size g a.cut.l ∧ Below W.heap.size W w') := ⟨fun W hW => (h.below hW).cut_any⟩
  have hok := h.cut_ok
  have hf := cut_few a
  have HK : Veil (a.cut.high = a.high ∧ a.cut.most = a.most) := ⟨rfl, rfl⟩
  revert HC hok hf HK
  generalize a.cut = d
  intro HC hok hf HK
  have HOK : Veil _ := ⟨hok⟩
  have HF : Veil _ := ⟨hf⟩
  have HT : Veil (∀ W g B, Room W B g d.l → Calls Try.prog 33 #[d.v (some ⟨g, 0, none⟩) 4100, .int .u32 page, .int .u64 tx] W (GivePost W (d.give page tx))) := ⟨fun W g B hR => give_any (hR.at' HOK.out HF.out) (by have := HF.out; omega) page tx hpg htx⟩
  clear h
  by_cases hgv : d.given page tx = true
  · have hgi := (Al.given_iff _ _ _).1 hgv
    rw [show d.give page tx = (⟨d.high, d.most, insS ⟨page, tx⟩ d.l⟩, 0) by simp [Al.give, hgv]] at HT
    have HRV : Veil (Al.right ⟨d.high, d.most, insS ⟨page, tx⟩ d.l⟩ = true) := ⟨by rw [Al.given_right]; exact hgv⟩
    have HMO : Veil (Al.Ok ⟨d.high, d.most, insS ⟨page, tx⟩ d.l⟩) := ⟨⟨hok.high, hok.most, insS_ok ⟨hpg, htx⟩ hok.l, by rw [insS_length]; omega⟩⟩
    have HML : Veil ((insS ⟨page, tx⟩ d.l).length = d.l.length + 1) := ⟨insS_length _ _⟩
    have HCO : Veil ((insS ⟨page, tx⟩ d.l).countP (isS ⟨page, tx⟩) = 1) := ⟨by rw [count_ins, count_none _ _ hgi.2.2]⟩
    clear hgv hgi hok hf hpg htx
    revert HT HRV HMO HML HCO
    generalize insS ⟨page, tx⟩ d.l = M
    intro HT HRV HMO HML HCO
    obtain ⟨hi, mo, L⟩ := a
    obtain ⟨hi', mo', T⟩ := d
    obtain ⟨e1, e2⟩ := HK.out
    dsimp only at e1 e2
    subst e1 e2
    unfold Al.v at *
    dsimp only at *
    go_enter Try.func12, Try.ntmps12
    go_wp2_with (first
      | (go_at_call 30; refine (HC.out _ HX2.out).mono ?_; rintro e w3 ⟨g, rfl, hR3, hb3⟩; have HX3 : Veil (Below w.heap.size w w3) := ⟨alb_then HX2.out hb3⟩; have HB3 : Veil _ := ⟨(hb3.block w.heap.size (lt_of_heap HB2.out)).trans HB2.out⟩; have hz3 := HX2.out.size; have hg3 : w.heap.size < g := (by have := lt_of_heap HB2.out; have := hR3.1; omega); obtain ⟨⟨q0, q1, q2⟩, k0, k1, k2⟩ := pack3 HB3.out; have HR3 : Veil _ := ⟨hR3⟩; clear hb3 hR3 hz3)
      | (go_at_call 29; refine (shown5_any _).mono ?_; rintro e w2 ⟨rfl, hb2⟩; have HX2 : Veil (Below w.heap.size w w2) := ⟨alb_then (below_al (Below.refl _ _) _) hb2⟩; have HB2 : Veil _ := ⟨(hb2.block w.heap.size (by simp)).trans (heap_alloc_new _ _)⟩; obtain ⟨⟨q0, q1, q2⟩, k0, k1, k2⟩ := pack3 HB2.out; clear hb2))
    obtain ⟨W4, hW4, hX4, hB4, hR4⟩ := box_anew HX3.out (Nat.le_refl _) HB3.out HR3.out (Nat.ne_of_gt hg3) (.slice (some ⟨g, 0, none⟩) T.length 4100)
    rw [hW4]
    clear hW4 q0 q1 q2 k0 k1 k2 HX3 HB3 HR3 HB2
    have HX4 : Veil _ := ⟨hX4⟩
    have HB4 : Veil _ := ⟨hB4⟩
    have HR4 : Veil _ := ⟨hR4⟩
    clear hX4 hB4 hR4 HC
    refine (HT.out W4 g _ HR4.out).mono ?_
    rintro e w5 ⟨p', c', rfl, hN, hb5⟩
    have HX5 : Veil (Below w.heap.size w w5) := ⟨alb_then HX4.out hb5⟩
    have HB5 : Veil _ := ⟨(hb5.block w.heap.size (lt_of_heap HB4.out)).trans HB4.out⟩
    have hz5 : w.heap.size < w5.heap.size := lt_of_heap HB5.out
    have hAt := hN.at'
    unfold Al.v
    dsimp only
    obtain ⟨W6, hW6⟩ : ∃ W6, w5.alloc (.cells #[.int .u32 hi', .int .u32 mo', .slice p' M.length c'] 59) = W6 := ⟨_, rfl⟩
    have hbx : Below w5.heap.size w5 W6 := by rw [← hW6]; exact below_al (Below.refl _ w5) _
    have HX6 : Veil (Below w.heap.size w W6) := ⟨alb_then HX5.out hbx⟩
    have HB6 : Veil _ := ⟨(hbx.block w.heap.size hz5).trans HB5.out⟩
    have HD6 : Veil (W6.heap[w5.heap.size]? = some (.cells #[.int .u32 hi', .int .u32 mo', .slice p' M.length c'] 59 (0, 0))) := ⟨by rw [← hW6]; exact heap_alloc_new _ _⟩
    have HM6 : Veil _ := ⟨hN.f.sps.below hbx⟩
    have HR : Veil (Calls Try.prog 35 #[.agg #[.int .u32 hi', .int .u32 mo', .slice p' M.length c']] W6 fun e w' => e = .returned (.bool true) ∧ Below W6.heap.size W6 w') := ⟨by
      have := aright_of (hAt.below hbx).s (fun b hb => ((hAt.below hbx).old b hb).1) c' HMO
      rw [HRV.out] at this
      exact this⟩
    obtain ⟨⟨q0, q1, q2⟩, -⟩ := pack3 HB6.out
    obtain ⟨⟨y0, y1, y2⟩, -⟩ := pack3 HD6.out
    have hl1 : M.length ≤ 4101 := by have := HF.out; have := HML.out; omega
    clear HT hb5 hN hbx HB5 HX5 HX4 HB4 HR4 hAt HMO HRV HOK
    go_wp2_with fail
    go_loop [10, 11] (fun s i => ∃ k : Nat, k ≤ M.length ∧ i = .int .i64 k ∧ s = .int .i64 ((M.take k).countP (isS ⟨page, tx⟩) : Nat)) (fun _ i => M.length - (intOf i).toNat)
    case atStart => exact ⟨0, Nat.zero_le _, rfl, rfl⟩
    case round =>
      obtain ⟨k, hk, rfl, rfl⟩ := hrel
      by_cases hlt : k < M.length
      · obtain ⟨b, o, rfl, hc⟩ := HM6.out (by rintro rfl; simp at hlt)
        obtain ⟨c1, c2⟩ := hc k hlt
        have HAS : Veil _ := ⟨count_take_succ (isS ⟨page, tx⟩) M k hlt⟩
        have hle := count_le_take (isS ⟨page, tx⟩) M k
        clear hc
        revert c1 c2 HAS hle
        generalize M.getD k Sp.zero = s
        obtain ⟨sp, st⟩ := s
        generalize (M.take k).countP (isS ⟨page, tx⟩) = n
        intro c1 c2 HAS hle
        have HE : Veil (isS ⟨page, tx⟩ ⟨sp, st⟩ = (decide (sp = page) && decide (st = tx))) := ⟨rfl⟩
        by_cases e1 : sp = page
        · have f1 : ((sp : Int) == (page : Int)) = true := by simp [e1]
          by_cases e2 : st = tx
          · have f2 : ((st : Int) == (tx : Int)) = true := by simp [e2]
            have HI : Veil ((M.take (k + 1)).countP (isS ⟨page, tx⟩) = n + 1) := ⟨by rw [HAS.out, HE.out]; simp [e1, e2]⟩
            clear e1 e2
            go_wp2
            refine ⟨⟨k + 1, by omega, by go_num, by rw [HI.out]; go_num⟩, ?_⟩
            simp only [intOf]; omega
          · have f2 : ((st : Int) == (tx : Int)) = false := by simpa using fun e => e2 (by omega)
            have HI : Veil ((M.take (k + 1)).countP (isS ⟨page, tx⟩) = n) := ⟨by rw [HAS.out, HE.out]; simp [e1, e2]⟩
            clear e1 e2
            go_wp2
            refine ⟨⟨k + 1, by omega, by go_num, by rw [HI.out]⟩, ?_⟩
            simp only [intOf]; omega
        · have f1 : ((sp : Int) == (page : Int)) = false := by simpa using fun e => e1 (by omega)
          have HI : Veil ((M.take (k + 1)).countP (isS ⟨page, tx⟩) = n) := ⟨by rw [HAS.out, HE.out]; simp [e1]⟩
          clear e1
          go_wp2
          refine ⟨⟨k + 1, by omega, by go_num, by rw [HI.out]⟩, ?_⟩
          simp only [intOf]; omega
      · obtain rfl : k = M.length := by omega
        rw [List.take_length, HCO.out]
        have hlT : T.length ≤ 4100 := HF.out
        have hlen : ((M.length : Int) == (T.length : Int) + 1) = true := by have := HML.out; simp; omega
        clear hl1
        go_wp2_with fail
        go_at_call 35
        refine HR.out.mono ?_
        rintro e w7 ⟨rfl, hb7⟩
        have HX7 : Veil (Below w.heap.size w w7) := ⟨alb_then HX6.out hb7⟩
        obtain ⟨⟨s0, s1, s2⟩, -⟩ := pack3 ((hb7.block _ (lt_of_heap HB6.out)).trans HB6.out)
        obtain ⟨⟨z0, z1, z2⟩, -⟩ := pack3 ((hb7.block _ (lt_of_heap HD6.out)).trans HD6.out)
        clear hb7
        go_wp2
        go_ret
        exact ⟨rfl, HX7.out⟩
  · rw [show d.give page tx = (Al.zero, 50) by simp [Al.give, hgv]] at HT
    clear hgv hok hf hpg htx HOK
    obtain ⟨hi, mo, L⟩ := a
    obtain ⟨hi', mo', T⟩ := d
    obtain ⟨e1, e2⟩ := HK.out
    dsimp only at e1 e2
    subst e1 e2
    unfold Al.v at *
    dsimp only at *
    go_enter Try.func12, Try.ntmps12
    go_wp2_with (first
      | (go_at_call 30; refine (HC.out _ HX2.out).mono ?_; rintro e w3 ⟨g, rfl, hR3, hb3⟩; have HX3 : Veil (Below w.heap.size w w3) := ⟨alb_then HX2.out hb3⟩; have HB3 : Veil _ := ⟨(hb3.block w.heap.size (lt_of_heap HB2.out)).trans HB2.out⟩; have hz3 := HX2.out.size; have hg3 : w.heap.size < g := (by have := lt_of_heap HB2.out; have := hR3.1; omega); obtain ⟨⟨q0, q1, q2⟩, k0, k1, k2⟩ := pack3 HB3.out; have HR3 : Veil _ := ⟨hR3⟩; clear hb3 hR3 hz3)
      | (go_at_call 29; refine (shown5_any _).mono ?_; rintro e w2 ⟨rfl, hb2⟩; have HX2 : Veil (Below w.heap.size w w2) := ⟨alb_then (below_al (Below.refl _ _) _) hb2⟩; have HB2 : Veil _ := ⟨(hb2.block w.heap.size (by simp)).trans (heap_alloc_new _ _)⟩; obtain ⟨⟨q0, q1, q2⟩, k0, k1, k2⟩ := pack3 HB2.out; clear hb2))
    obtain ⟨W4, hW4, hX4, hB4, hR4⟩ := box_anew HX3.out (Nat.le_refl _) HB3.out HR3.out (Nat.ne_of_gt hg3) (.slice (some ⟨g, 0, none⟩) T.length 4100)
    rw [hW4]
    clear hW4 q0 q1 q2 k0 k1 k2 HX3 HB3 HR3 HB2
    have HX4 : Veil _ := ⟨hX4⟩
    have HB4 : Veil _ := ⟨hB4⟩
    have HR4 : Veil _ := ⟨hR4⟩
    clear hX4 hB4 hR4 HC
    refine (HT.out W4 g _ HR4.out).mono ?_
    rintro e w5 ⟨p', c', rfl, hN, hb5⟩
    have HX5 : Veil (Below w.heap.size w w5) := ⟨alb_then HX4.out hb5⟩
    unfold Al.v
    dsimp only [Al.zero]
    clear HT hb5 hN
    go_wp2
    go_ret
    exact ⟨rfl, below_al HX5.out _⟩
end Go.Proofs.Ytapmppiiphbcpaa

/- The law AllocOwn. -/
namespace Go.Proofs.Ytapmppiiphbcpaa
open Go Go.RowKit Sm
attribute [local go_sem] Oper.semAt_some

/-- Where an answered list lies, as it is written into. -/
def Writ (w : World) (B : Nat) (p : Option Addr) (n : Nat) : Prop := n = 0 ∨ ∃ g cur, B ≤ g ∧ p = some ⟨g, 0, none⟩ ∧ w.heap[g]? = some (.cells (List.toArray cur) 80 (0, 0)) ∧ List.length cur = n * 2
theorem Fresh.writ {w : World} {B : Nat} {p : Option Addr} {L : List Sp} (h : Fresh w B p L) : Writ w B p L.length := by
  rcases h with ⟨rfl, -⟩ | ⟨g, h1, h2, h3⟩
  · exact .inl rfl
  · exact .inr ⟨g, _, h1, h2, h3, length_spCells L⟩
/-- Only what p holds has turned. -/
def inP (p : Option Addr) : Nat → Prop := fun j => ∃ a, p = some a ∧ a.block = j
theorem Writ.at' {w : World} {B n : Nat} {p : Option Addr} (h : Writ w B p n) {i : Nat} (hi : i < n) : ∃ g x, p = some ⟨g, 0, none⟩ ∧ B ≤ g ∧ w.cell? ⟨g, i * 2, none⟩ = some x ∧ w.frozen? ⟨g, i * 2, none⟩ = false ∧ ∀ v, Writ (w.setCell ⟨g, i * 2, none⟩ v) B p n ∧ Turned (inP p) w (w.setCell ⟨g, i * 2, none⟩ v) := by
  rcases h with h0 | ⟨g, cur, h1, h2, h3, h4⟩
  · omega
  · have hc : i * 2 < cur.length := by omega
    refine ⟨g, cur[i * 2], h2, h1, by rw [cell_whole h3]; simp [hc], frozen_whole h3 _, fun v => ⟨.inr ⟨g, cur.set (i * 2) v, h1, h2, ?_, by simp [h4]⟩, (Turned.refl _ w).setCell (p := ⟨g, i * 2, none⟩) ⟨_, h2, rfl⟩ v⟩⟩
    have := heap_setCell_at h3 (i * 2) v
    simpa using this

theorem big_4100 : 4100 ≤ 9223372036854775807 := by omega
theorem Room.cut_any {W : World} {B g : Nat} {d : Al} (hR : Room W B g d.l) (hf : d.l.length ≤ 4100) : Calls Try.prog 30 #[d.v (some ⟨g, 0, none⟩) 4100] W fun e w' => ∃ g', e = .returned (d.v (some ⟨g', 0, none⟩) 4100) ∧ Room w' W.heap.size g' d.l ∧ Below W.heap.size W w' := by
  have h := cut5_any hR.sps d.high d.most 4100 hf big_4100 (fun e => by cases e) (fun a ha => by cases ha; rfl)
  obtain ⟨hi, mo, L⟩ := d
  dsimp only at *
  rw [List.take_of_length_le hf] at h
  exact h

set_option maxRecDepth 20000 in
set_option maxHeartbeats 2000000 in
theorem allocOwn_any {w : World} {a : Al} {p : Option Addr} {c : Nat} (h : AlIn w a p c) (oldest page tx : Nat) (hpg : page < 4294967296) (htx : tx < 18446744073709551616) : Calls Try.prog 10 #[a.v p c, .int .u64 oldest, .int .u32 page, .int .u64 tx] w fun e w' => e = .returned (.bool true) ∧ Below w.heap.size w w' := by
  have HC : Veil (∀ W, Below w.heap.size w W → Calls Try.prog 30 #[a.v p c] W fun e w' => ∃ g, e = .returned (a.cut.v (some ⟨g, 0, none⟩) 4100) ∧ Room w' W.heap.size g a.cut.l ∧ Below W.heap.size W w') := ⟨fun W hW => (h.below hW).cut_any⟩
  have hok := h.cut_ok
  have hf := cut_few a
  have HK : Veil (a.cut.high = a.high ∧ a.cut.most = a.most) := ⟨rfl, rfl⟩
  revert HC hok hf HK
  generalize a.cut = d
  intro HC hok hf HK
  have HOK : Veil _ := ⟨hok⟩
  have HF : Veil _ := ⟨hf⟩
  have HCC : Veil (∀ W g B, Room W B g d.l → Calls Try.prog 30 #[d.v (some ⟨g, 0, none⟩) 4100] W fun e w' => ∃ g', e = .returned (d.v (some ⟨g', 0, none⟩) 4100) ∧ Room w' W.heap.size g' d.l ∧ Below W.heap.size W w') := ⟨fun W g B hR => hR.cut_any HF.out⟩
  have HT : Veil (∀ W g B, Room W B g d.l → Calls Try.prog 31 #[d.v (some ⟨g, 0, none⟩) 4100, .int .u64 oldest] W (TakePost W (d.take oldest))) := ⟨fun W g B hR => take_any (hR.at' HOK.out HF.out) oldest⟩
  have HV : Veil (∀ W g B, Room W B g d.l → Calls Try.prog 33 #[d.v (some ⟨g, 0, none⟩) 4100, .int .u32 page, .int .u64 tx] W (GivePost W (d.give page tx))) := ⟨fun W g B hR => give_any (hR.at' HOK.out HF.out) (by have := HF.out; omega) page tx hpg htx⟩
  have HTO : Veil ((d.take oldest).a.l.length ≤ 100000 ∧ (d.give page tx).1.l.length ≤ 100000) := ⟨(Al.take_ok hok oldest).1.few, (Al.give_ok hok hpg htx).few⟩
  have HSM : Veil (∀ W g g' B B', Room W B g d.l → Room W B' g' d.l → Calls Try.prog 37 #[d.v (some ⟨g, 0, none⟩) 4100, d.v (some ⟨g', 0, none⟩) 4100] W fun e w' => e = .returned (.bool true) ∧ Below W.heap.size W w') := ⟨fun W g g' B B' h1 h2 => same_allocs h1.sps h2.sps (by have := HF.out; omega)⟩
  clear h hok hf hpg htx
  revert HT HV HTO
  generalize d.take oldest = t
  generalize d.give page tx = u
  obtain ⟨⟨bh, bm, M⟩, pg, er⟩ := t
  obtain ⟨⟨ch, cm, N⟩, er2⟩ := u
  intro HT HV HTO
  obtain ⟨hi, mo, L⟩ := a
  obtain ⟨hi', mo', T⟩ := d
  obtain ⟨e1, e2⟩ := HK.out
  dsimp only at e1 e2
  subst e1 e2
  unfold Al.v at *
  dsimp only at *
  go_enter Try.func10, Try.ntmps10
  go_wp2_with (first
    | (go_at_call 30; (with_reducible refine (HC.out _ HX2.out).mono ?_); rintro e w3 ⟨g, rfl, hR3, hb3⟩; have HX3 : Veil (Below w.heap.size w w3) := ⟨alb_then HX2.out hb3⟩; have HB3 : Veil _ := ⟨(hb3.block w.heap.size (lt_of_heap HB2.out)).trans HB2.out⟩; have hz3 := HX2.out.size; have hg3 : w.heap.size < g := (by have := lt_of_heap HB2.out; have := hR3.1; omega); obtain ⟨⟨q0, q1, q2⟩, k0, k1, k2⟩ := pack3 HB3.out; have HR3 : Veil _ := ⟨hR3⟩; clear hb3 hR3 hz3)
    | (go_at_call 29; refine (shown5_any _).mono ?_; rintro e w2 ⟨rfl, hb2⟩; have HX2 : Veil (Below w.heap.size w w2) := ⟨alb_then (below_al (Below.refl _ _) _) hb2⟩; have HB2 : Veil _ := ⟨(hb2.block w.heap.size (by simp)).trans (heap_alloc_new _ _)⟩; obtain ⟨⟨q0, q1, q2⟩, k0, k1, k2⟩ := pack3 HB2.out; clear hb2))
  obtain ⟨W4, hW4, hX4, hB4, hR4⟩ := box_anew HX3.out (Nat.le_refl _) HB3.out HR3.out (Nat.ne_of_gt hg3) (.slice (some ⟨g, 0, none⟩) T.length 4100)
  rw [hW4]
  clear hW4 q0 q1 q2 k0 k1 k2 HX3 HB3 HR3 HB2
  have HX4 : Veil _ := ⟨hX4⟩
  have HB4 : Veil _ := ⟨hB4⟩
  have HR4 : Veil _ := ⟨hR4⟩
  clear hX4 hB4 hR4 HC
  refine (HCC.out W4 g _ HR4.out).mono ?_
  rintro e w5 ⟨g', rfl, hR5', hb5⟩
  have HX5 : Veil (Below w.heap.size w w5) := ⟨alb_then HX4.out hb5⟩
  have HB5 : Veil _ := ⟨(hb5.block w.heap.size (lt_of_heap HB4.out)).trans HB4.out⟩
  have HR5 : Veil _ := ⟨HR4.out.below hb5⟩
  obtain ⟨W6, hW6⟩ : ∃ W6, w5.alloc (.cells #[.int .u32 hi', .int .u32 mo', .slice (some ⟨g', 0, none⟩) T.length 4100] 59) = W6 := ⟨_, rfl⟩
  obtain ⟨S5, hS5⟩ : ∃ S5, w5.heap.size = S5 := ⟨_, rfl⟩
  have hbx : Below w5.heap.size w5 W6 := by rw [← hW6]; exact below_al (Below.refl _ w5) _
  have HX6 : Veil (Below w.heap.size w W6) := ⟨alb_then HX5.out hbx⟩
  have HB6 : Veil _ := ⟨(hbx.block w.heap.size (lt_of_heap HB5.out)).trans HB5.out⟩
  have HD6 : Veil (W6.heap[S5]? = some (.cells #[.int .u32 hi', .int .u32 mo', .slice (some ⟨g', 0, none⟩) T.length 4100] 59 (0, 0))) := ⟨by rw [← hW6, ← hS5]; exact heap_alloc_new _ _⟩
  have HR6 : Veil _ := ⟨HR5.out.below hbx⟩
  have HR6' : Veil _ := ⟨hR5'.below hbx⟩
  obtain ⟨⟨q0, q1, q2⟩, -⟩ := pack3 HB6.out
  clear hb5 hbx HB5 HX5 HX4 HB4 HR4 hR5' HR5 HCC
  go_wp2_with fail
  clear hW6 hS5 q0 q1 q2
  refine (HT.out W6 g _ HR6.out).mono ?_
  rintro e w7 ⟨p', c', rfl, hN, hb7⟩
  have HX7 : Veil (Below w.heap.size w w7) := ⟨alb_then HX6.out hb7⟩
  have HB7 : Veil _ := ⟨(hb7.block w.heap.size (lt_of_heap HB6.out)).trans HB6.out⟩
  have HD7 : Veil _ := ⟨(hb7.block S5 (lt_of_heap HD6.out)).trans HD6.out⟩
  have HR7 : Veil _ := ⟨HR6.out.below hb7⟩
  have HR7' : Veil _ := ⟨HR6'.out.below hb7⟩
  unfold Al.v
  dsimp only
  obtain ⟨W8, hW8⟩ : ∃ W8, w7.alloc (.cells #[.int .u32 bh, .int .u32 bm, .slice p' M.length c'] 59) = W8 := ⟨_, rfl⟩
  obtain ⟨S7, hS7⟩ : ∃ S7, w7.heap.size = S7 := ⟨_, rfl⟩
  have hbx : Below w7.heap.size w7 W8 := by rw [← hW8]; exact below_al (Below.refl _ w7) _
  have HX8 : Veil (Below w.heap.size w W8) := ⟨alb_then HX7.out hbx⟩
  have HB8 : Veil _ := ⟨(hbx.block w.heap.size (lt_of_heap HB7.out)).trans HB7.out⟩
  have HD8 : Veil _ := ⟨(hbx.block S5 (lt_of_heap HD7.out)).trans HD7.out⟩
  have HE8 : Veil (W8.heap[S7]? = some (.cells #[.int .u32 bh, .int .u32 bm, .slice p' M.length c'] 59 (0, 0))) := ⟨by rw [← hW8, ← hS7]; exact heap_alloc_new _ _⟩
  have HR8 : Veil _ := ⟨HR7.out.below hbx⟩
  have HR8' : Veil _ := ⟨HR7'.out.below hbx⟩
  have HP8 : Veil (Writ W8 W6.heap.size p' M.length) := ⟨(hN.f.below hbx).writ⟩
  have HQ8 : Veil (w.heap.size < W6.heap.size ∧ S5 < W6.heap.size ∧ g < W6.heap.size ∧ g' < W6.heap.size ∧ ∀ j, inP p' j → W6.heap.size ≤ j ∧ j < S7) := ⟨⟨lt_of_heap HB6.out, lt_of_heap HD6.out, HR6.out.lt, HR6'.out.lt, by
    rintro j ⟨b, hb, rfl⟩
    rcases hN.f with ⟨-, h0⟩ | ⟨b', hb', h0, hg⟩
    · rw [h0] at hb; cases hb
    · rw [h0] at hb; cases hb; exact ⟨hb', by rw [← hS7]; exact lt_of_heap hg⟩⟩⟩
  clear hb7 hbx hN HB7 HD7 HR7 HR7' HX7 HT
  have hl1 : M.length ≤ 100000 := HTO.out.1
  obtain ⟨⟨q0, q1, q2⟩, -⟩ := pack3 HE8.out
  go_wp2_with fail
  clear q0 q1 q2 hW8 hS7
  go_loopw [14] (fun i wr => ∃ k : Nat, k ≤ M.length ∧ i = .int .i64 k ∧ Veil (Writ wr W6.heap.size p' M.length ∧ Turned (inP p') W8 wr)) (fun i _ => M.length - (intOf i).toNat)
  case atStart => exact ⟨0, Nat.zero_le _, rfl, ⟨HP8.out, Turned.refl _ _⟩⟩
  case round =>
    obtain ⟨k, hk, rfl, hJ⟩ := hrel
    have HE9 : Veil _ := ⟨hJ.out.2.heap HE8.out (fun h => by have := HQ8.out.2.2.2.2 _ h; omega)⟩
    obtain ⟨⟨q0, q1, q2⟩, -⟩ := pack3 HE9.out
    by_cases hlt : k < M.length
    · obtain ⟨G, x, rfl, hG, hc, hf, hset⟩ := hJ.out.1.at' hlt
      have HSE : Veil _ := ⟨hset⟩
      have HG : Veil (W6.heap.size ≤ G) := ⟨hG⟩
      clear hset hG
      go_wp2
      refine ⟨⟨k + 1, by omega, by go_num, ⟨(HSE.out _).1, hJ.out.2.trans (HSE.out _).2⟩⟩, ?_⟩
      simp only [intOf]; omega
    · obtain rfl : k = M.length := by omega
      have HT9 : Veil _ := ⟨hJ.out.2⟩
      clear hJ HP8
      obtain ⟨w9, rfl⟩ : ∃ w9 : World, w9 = wr := ⟨_, rfl⟩
      have HX9 : Veil (Below w.heap.size w w9) := ⟨HX8.out.trans (HT9.out.toBelow HX8.out.size (fun j _ h => by have := HQ8.out.2.2.2.2 _ h; have := HQ8.out.1; omega))⟩
      have HB9 : Veil _ := ⟨HT9.out.heap HB8.out (fun h => by have := HQ8.out.2.2.2.2 _ h; have := HQ8.out.1; omega)⟩
      have HD9 : Veil _ := ⟨HT9.out.heap HD8.out (fun h => by have := HQ8.out.2.2.2.2 _ h; have := HQ8.out.2.1; omega)⟩
      have HR9 : Veil _ := ⟨HR8.out.turned HT9.out (fun h => by have := HQ8.out.2.2.2.2 _ h; have := HQ8.out.2.2.1; omega)⟩
      have HR9' : Veil _ := ⟨HR8'.out.turned HT9.out (fun h => by have := HQ8.out.2.2.2.2 _ h; have := HQ8.out.2.2.2.1; omega)⟩
      obtain ⟨⟨r0, r1, r2⟩, -⟩ := pack3 HB9.out
      clear HE9 HE8
      go_wp2_with fail
      go_at_call 33
      refine (HV.out w9 g _ HR9.out).mono ?_
      rintro e x1 ⟨p2, c2, rfl, hN, hb1⟩
      have HX1 : Veil (Below w.heap.size w x1) := ⟨alb_then HX9.out hb1⟩
      have HB1 : Veil _ := ⟨(hb1.block w.heap.size (lt_of_heap HB9.out)).trans HB9.out⟩
      have HD1 : Veil _ := ⟨(hb1.block S5 (lt_of_heap HD9.out)).trans HD9.out⟩
      have HR1 : Veil _ := ⟨HR9.out.below hb1⟩
      have HR1' : Veil _ := ⟨HR9'.out.below hb1⟩
      unfold Al.v
      dsimp only
      obtain ⟨X2, hX2⟩ : ∃ X2, x1.alloc (.cells #[.int .u32 ch, .int .u32 cm, .slice p2 N.length c2] 59) = X2 := ⟨_, rfl⟩
      obtain ⟨S9, hS9⟩ : ∃ S9, x1.heap.size = S9 := ⟨_, rfl⟩
      have hbx : Below x1.heap.size x1 X2 := by rw [← hX2]; exact below_al (Below.refl _ x1) _
      have HX2 : Veil (Below w.heap.size w X2) := ⟨alb_then HX1.out hbx⟩
      have HB2 : Veil _ := ⟨(hbx.block w.heap.size (lt_of_heap HB1.out)).trans HB1.out⟩
      have HD2 : Veil _ := ⟨(hbx.block S5 (lt_of_heap HD1.out)).trans HD1.out⟩
      have HE2 : Veil (X2.heap[S9]? = some (.cells #[.int .u32 ch, .int .u32 cm, .slice p2 N.length c2] 59 (0, 0))) := ⟨by rw [← hX2, ← hS9]; exact heap_alloc_new _ _⟩
      have HR2 : Veil _ := ⟨HR1.out.below hbx⟩
      have HR2' : Veil _ := ⟨HR1'.out.below hbx⟩
      have HP2 : Veil (Writ X2 w9.heap.size p2 N.length) := ⟨(hN.f.below hbx).writ⟩
      have HQ2 : Veil (w.heap.size < w9.heap.size ∧ S5 < w9.heap.size ∧ g < w9.heap.size ∧ g' < w9.heap.size ∧ ∀ j, inP p2 j → w9.heap.size ≤ j ∧ j < S9) := ⟨⟨lt_of_heap HB9.out, lt_of_heap HD9.out, HR9.out.lt, HR9'.out.lt, by
        rintro j ⟨b, hb, rfl⟩
        rcases hN.f with ⟨-, h0⟩ | ⟨b', hb', h0, hg⟩
        · rw [h0] at hb; cases hb
        · rw [h0] at hb; cases hb; exact ⟨hb', by rw [← hS9]; exact lt_of_heap hg⟩⟩⟩
      clear hb1 hbx hN HB1 HD1 HR1 HR1' HX1 HV r0 r1 r2 q0 q1 q2
      have hl2 : N.length ≤ 100000 := HTO.out.2
      obtain ⟨⟨q0, q1, q2⟩, -⟩ := pack3 HE2.out
      go_wp2_with fail
      clear q0 q1 q2 hX2 hS9 hl1
      go_loopw [17] (fun i wr => ∃ k : Nat, k ≤ N.length ∧ i = .int .i64 k ∧ Veil (Writ wr w9.heap.size p2 N.length ∧ Turned (inP p2) X2 wr)) (fun i _ => N.length - (intOf i).toNat)
      case atStart => exact ⟨0, Nat.zero_le _, rfl, ⟨HP2.out, Turned.refl _ _⟩⟩
      case round =>
        obtain ⟨k, hk, rfl, hJ⟩ := hrel
        have HE3 : Veil _ := ⟨hJ.out.2.heap HE2.out (fun h => by have := HQ2.out.2.2.2.2 _ h; omega)⟩
        obtain ⟨⟨q0, q1, q2⟩, -⟩ := pack3 HE3.out
        by_cases hlt : k < N.length
        · obtain ⟨G, x, rfl, hG, hc, hf, hset⟩ := hJ.out.1.at' hlt
          have HSE : Veil _ := ⟨hset⟩
          have HG : Veil (w9.heap.size ≤ G) := ⟨hG⟩
          clear hset hG
          go_wp2
          refine ⟨⟨k + 1, by omega, by go_num, ⟨(HSE.out _).1, hJ.out.2.trans (HSE.out _).2⟩⟩, ?_⟩
          simp only [intOf]; omega
        · obtain rfl : k = N.length := by omega
          have HT3 : Veil _ := ⟨hJ.out.2⟩
          clear hJ HP2
          have HX3 : Veil (Below w.heap.size w wr) := ⟨HX2.out.trans (HT3.out.toBelow HX2.out.size (fun j _ h => by have := HQ2.out.2.2.2.2 _ h; have := HQ2.out.1; omega))⟩
          have HB3 : Veil _ := ⟨HT3.out.heap HB2.out (fun h => by have := HQ2.out.2.2.2.2 _ h; have := HQ2.out.1; omega)⟩
          have HD3 : Veil _ := ⟨HT3.out.heap HD2.out (fun h => by have := HQ2.out.2.2.2.2 _ h; have := HQ2.out.2.1; omega)⟩
          have HR3 : Veil _ := ⟨HR2.out.turned HT3.out (fun h => by have := HQ2.out.2.2.2.2 _ h; have := HQ2.out.2.2.1; omega)⟩
          have HR3' : Veil _ := ⟨HR2'.out.turned HT3.out (fun h => by have := HQ2.out.2.2.2.2 _ h; have := HQ2.out.2.2.2.1; omega)⟩
          obtain ⟨⟨r0, r1, r2⟩, -⟩ := pack3 HB3.out
          obtain ⟨⟨s0, s1, s2⟩, -⟩ := pack3 HD3.out
          have HS3 : Veil _ := ⟨HSM.out _ _ _ _ _ HR3.out HR3'.out⟩
          clear HE3 HE2 hl2
          go_wp2_with fail
          go_at_call 37
          refine HS3.out.mono ?_
          rintro e x4 ⟨rfl, hb4⟩
          have HX4 : Veil (Below w.heap.size w x4) := ⟨alb_then HX3.out hb4⟩
          clear hb4
          go_wp2
          go_ret
          exact ⟨rfl, HX4.out⟩
end Go.Proofs.Ytapmppiiphbcpaa

/- The walk of the document's own Right of an alloc. -/
namespace Go.Proofs.Ytapmppiiphbcpaa
open Go Go.RowKit Sm
attribute [local go_sem] Oper.semAt_some

/-- The least page that may come next. -/
def leastOf (L : List Sp) : Nat → Nat
  | 0 => 2
  | j + 1 => (L.getD j Sp.zero).page + 1
theorem blw_nq {w w1 : World} (n : Nat) (h : Below w.heap.size w w1) : Below w.heap.size w (w1.drewN n) := ⟨h.os, h.tape, h.output, h.size, h.block⟩

set_option maxRecDepth 20000 in
set_option maxHeartbeats 2000000 in
theorem refright_of {w : World} {p : Option Addr} {a : Al} (h : Sps w p a.l) (c : Nat) (hok : Veil a.Ok) :
    Calls Try.prog 36 #[a.v p c] w fun e w' => e = .returned (.bool a.right) ∧ Below w.heap.size w w' := by
  have HRI : Veil _ := ⟨a.right_iff⟩
  obtain ⟨r, hr⟩ : ∃ r, a.right = r := ⟨_, rfl⟩
  rw [hr] at HRI ⊢
  clear hr
  obtain ⟨hi, mo, L⟩ := a
  unfold Al.v
  dsimp only at *
  have HH := Lib.hid h
  have hl : L.length ≤ 100000 := hok.out.few
  clear h
  by_cases h3' : mo < 2
  · obtain rfl : r = false := by cases r with | false => rfl | true => have := (HRI.out.1 rfl).1; omega
    go_enter Try.func36, Try.ntmps36
    go_wp2
    go_ret
    exact ⟨rfl, below_al (Below.refl _ _) _⟩
  by_cases h3 : 16384 < mo
  · obtain rfl : r = false := by cases r with | false => rfl | true => have := (HRI.out.1 rfl).1; omega
    go_enter Try.func36, Try.ntmps36
    go_wp2
    go_ret
    exact ⟨rfl, below_al (Below.refl _ _) _⟩
  by_cases h1 : hi < 2
  · obtain rfl : r = false := by cases r with | false => rfl | true => have := (HRI.out.1 rfl).1; omega
    go_enter Try.func36, Try.ntmps36
    go_wp2
    go_ret
    exact ⟨rfl, below_al (Below.refl _ _) _⟩
  by_cases h2 : mo < hi
  · obtain rfl : r = false := by cases r with | false => rfl | true => have := (HRI.out.1 rfl).1; omega
    go_enter Try.func36, Try.ntmps36
    go_wp2
    go_ret
    exact ⟨rfl, below_al (Below.refl _ _) _⟩
  by_cases h4 : 4096 < L.length
  · obtain rfl : r = false := by cases r with | false => rfl | true => have := (HRI.out.1 rfl).1; omega
    go_enter Try.func36, Try.ntmps36
    go_wp2
    go_ret
    exact ⟨rfl, below_al (Below.refl _ _) _⟩
  have HS : Veil (2 ≤ hi ∧ hi ≤ mo ∧ mo ≤ 16384 ∧ L.length ≤ 4096) := ⟨by omega⟩
  go_enter Try.func36, Try.ntmps36
  go_wp2
  clear h3' h3 h1 h2 h4
  obtain ⟨W1, hW1⟩ : ∃ W1, w.alloc (.cells #[.int .u32 hi, .int .u32 mo, .slice p L.length c] 59) = W1 := ⟨_, rfl⟩
  have HB1 : Veil (W1.heap[w.heap.size]? = some (.cells #[.int .u32 hi, .int .u32 mo, .slice p L.length c] 59 (0, 0))) := ⟨by rw [← hW1]; exact heap_alloc_new _ _⟩
  have HX1 : Veil (Below w.heap.size w W1) := ⟨by rw [← hW1]; exact below_al (Below.refl _ _) _⟩
  have HS1 : Veil _ := ⟨HH.out.below HX1.out⟩
  rw [hW1]
  clear hW1 HH
  go_loopw [3, 4] (fun i _ wr => ∃ k : Nat, k ≤ L.length ∧ i = .int .i64 k ∧ Veil (Below W1.heap.size W1 wr ∧ rising hi 2 L = rising hi (leastOf L k) (L.drop k) ∧ 2 ≤ leastOf L k)) (fun i _ _ => L.length - (intOf i).toNat)
  case atStart => exact ⟨0, Nat.zero_le _, rfl, ⟨Below.refl _ _, rfl, Nat.le_refl _⟩⟩
  case round =>
    obtain ⟨k, hk, rfl, hJ⟩ := hrel
    have HB2 : Veil _ := ⟨(hJ.out.1.block w.heap.size (lt_of_heap HB1.out)).trans HB1.out⟩
    obtain ⟨⟨a0, a1, a2⟩, -⟩ := pack3 HB2.out
    have hzz : w.heap.size < wr.heap.size := lt_of_heap HB2.out
    by_cases hlt : k < L.length
    · have HS2 : Veil _ := ⟨HS1.out.below hJ.out.1⟩
      obtain ⟨b, o, rfl, hc⟩ := HS2.out (by rintro rfl; simp at hlt)
      obtain ⟨c1, c2⟩ := hc k hlt
      have HR : Veil _ := ⟨by have := hJ.out.2.1; rw [drop_at hlt] at this; exact this⟩
      have HBL : Veil _ := ⟨hJ.out.1⟩
      have H2L : Veil _ := ⟨hJ.out.2.2⟩
      have hl1 : Veil (leastOf L (k + 1) = (L.getD k Sp.zero).page + 1) := ⟨rfl⟩
      have hbb : b < wr.heap.size := World.block_lt_of_cell? wr _ c1
      clear hJ
      revert c1 c2 HR hl1
      generalize L.getD k Sp.zero = s
      obtain ⟨sp, st⟩ := s
      intro c1 c2 HR hl1
      have stop : Veil (¬ (leastOf L k ≤ sp ∧ sp < hi ∧ 1 ≤ st) → r = false) := ⟨fun hn => by
        cases r with
        | false => rfl
        | true =>
          have := (HRI.out.1 rfl).2
          rw [HR.out] at this
          exact absurd ((rising_cons _ _ _ _).1 this).1 hn⟩
      have hkI : (0 : Int) ≤ k := by omega
      obtain ⟨W2, hW2⟩ : ∃ W2, wr.alloc (.cells #[.int .u32 sp, .int .u64 st] 80) = W2 := ⟨_, rfl⟩
      obtain ⟨S2, hS2⟩ : ∃ S2, wr.heap.size = S2 := ⟨_, rfl⟩
      have hb2 : Below wr.heap.size wr W2 := by rw [← hW2]; exact below_al (Below.refl _ _) _
      have HX2 : Veil (Below w.heap.size w W2) := ⟨alb_then (alb_then HX1.out HBL.out) hb2⟩
      have HBL2 : Veil (Below W1.heap.size W1 W2) := ⟨alb_then HBL.out hb2⟩
      obtain ⟨⟨s0, s1⟩, -⟩ := pack2 (show W2.heap[S2]? = some (.cells #[.int .u32 sp, .int .u64 st] 80 (0, 0)) by rw [← hW2, ← hS2]; exact heap_alloc_new _ _)
      obtain ⟨⟨b0, b1, b2⟩, -⟩ := pack3 ((hb2.block _ (lt_of_heap HB2.out)).trans HB2.out)
      have hbc : ∀ i, i < L.length → W2.cell? ⟨b, o + i * 2, none⟩ = some (.int .u32 (L.getD i Sp.zero).page) := fun i hi => (hb2.cell hbb).trans (hc i hi).1
      have HBC : Veil _ := ⟨hbc⟩
      clear hbc hb2 hbb hc
      by_cases g1 : sp < 2
      · obtain rfl : r = false := stop.out (by have := H2L.out; omega)
        have G1 : decide ((sp : Int) < 2) = true := by simp; omega
        clear g1
        go_wp2
        go_quiet (fail)
        go_wp2
        go_ret
        exact ⟨rfl, blw_nq _ HX2.out⟩
      have G1 : decide ((sp : Int) < 2) = false := by simp; omega
      by_cases g2 : hi ≤ sp
      · obtain rfl : r = false := stop.out (by omega)
        have G2 : decide (hi ≤ sp) = true := by simp [g2]
        clear g1 g2
        go_wp2
        go_quiet (fail)
        go_wp2
        go_ret
        exact ⟨rfl, blw_nq _ HX2.out⟩
      have G2 : decide (hi ≤ sp) = false := by simp [g2]
      by_cases g3 : st < 1
      · obtain rfl : r = false := stop.out (by omega)
        have G3 : decide ((st : Int) < 1) = true := by simp; omega
        clear g1 g2 g3
        go_wp2
        go_quiet (fail)
        go_wp2
        go_ret
        exact ⟨rfl, blw_nq _ HX2.out⟩
      have G3 : decide ((st : Int) < 1) = false := by simp; omega
      have HRR : Veil (leastOf L k ≤ sp → rising hi 2 L = rising hi (sp + 1) (L.drop (k + 1))) := ⟨fun e1 => by
        rw [HR.out]
        simp only [rising]
        have e2 : sp < hi := by omega
        have e3 : 1 ≤ st := by omega
        simp [e1, e2, e3]⟩
      have HG : Veil (¬ sp < 2) := ⟨g1⟩
      cases k with
      | zero =>
        have hrr := HRR.out (by have := H2L.out; show 2 ≤ sp; omega)
        have HRV : Veil _ := ⟨hrr⟩
        clear g1 g2 g3 hrr
        simp only [Nat.zero_mul, Nat.add_zero] at c1 c2
        go_wp2
        go_quiet (fail)
        go_wp2
        refine ⟨⟨1, by omega, rfl, ⟨blw_nq _ HBL2.out, by rw [hl1.out]; exact HRV.out, by have h1 : leastOf L 1 = sp + 1 := hl1.out; have h2 := HG.out; omega⟩⟩, ?_⟩
        simp only [intOf]; omega
      | succ j =>
        have d1 := HBC.out j (by omega)
        have hle : Veil (leastOf L (j + 1) = (L.getD j Sp.zero).page + 1) := ⟨rfl⟩
        revert d1 hle
        generalize (L.getD j Sp.zero).page = pv
        intro d1 hle
        have ej : ((j + 1 : Nat) : Int) - 1 = (j : Int) := by omega
        have ej2 : IntKind.i64.wrap (((j + 1 : Nat) : Int) - 1) = (j : Int) := by rw [IntKind.wrap_i64]; omega
        have ej3 : decide ((0 : Int) < ((j + 1 : Nat) : Int)) = true := by rw [decide_eq_true_eq]; omega
        have hj0 : (0 : Int) ≤ j := by omega
        have hj1 : (j : Int) < L.length := by omega
        by_cases g4 : sp ≤ pv
        · obtain rfl : r = false := stop.out (by have := hle.out; omega)
          have G4 : decide (sp ≤ pv) = true := by simp [g4]
          clear g1 g2 g3 g4
          go_wp2
          go_quiet (fail)
          go_wp2
          go_ret
          exact ⟨rfl, blw_nq _ HX2.out⟩
        · have G4 : decide (sp ≤ pv) = false := by simp [g4]
          have HRV : Veil _ := ⟨HRR.out (by have := hle.out; omega)⟩
          clear g1 g2 g3 g4
          go_wp2
          go_quiet (fail)
          go_wp2
          refine ⟨⟨j + 1 + 1, by omega, by go_num, ⟨blw_nq _ HBL2.out, by rw [hl1.out]; exact HRV.out, by have h1 := hl1.out; have h2 := HG.out; omega⟩⟩, ?_⟩
          simp only [intOf]; omega
    · obtain rfl : k = L.length := by omega
      obtain rfl : r = true := HRI.out.2 ⟨HS.out, by rw [hJ.out.2.1, List.drop_length]; rfl⟩
      have HX2 : Veil (Below w.heap.size w wr) := ⟨alb_then HX1.out hJ.out.1⟩
      clear hJ
      go_wp2
      go_ret
      exact ⟨rfl, HX2.out⟩
end Go.Proofs.Ytapmppiiphbcpaa

/- The walk of the document's own Take. -/
namespace Go.Proofs.Ytapmppiiphbcpaa
open Go Go.RowKit Sm
attribute [local go_sem] Oper.semAt_some

/-- Spares that the call itself has made, as it goes on appending to them. -/
def OwnS (w : World) (base : Nat) (v : Value) (L : List Sp) : Prop := w.ownsRow base 80 2 v L.length (spCells L)
theorem OwnS.form {w : World} {base : Nat} {v : Value} {L : List Sp} (h : OwnS w base v L) : ∃ p c, v = .slice p L.length c ∧ Sps w p L := by
  obtain ⟨h1, h2⟩ := h
  rcases h2 with ⟨rfl, h0⟩ | ⟨g, cap, cur, rfl, hg, hh, hn, hc, hs, ht⟩
  · obtain rfl : L = [] := List.eq_nil_of_length_eq_zero h0
    exact ⟨none, 0, rfl, Sps.nil _ _⟩
  · exact ⟨_, _, rfl, Room.sps (B := base) ⟨hg, cur, hh, ht⟩⟩
theorem OwnS.kept {w w' : World} {base : Nat} {v : Value} {L : List Sp} {F : Nat → Prop} (h : OwnS w base v L) (ht : Turned F w w') (hp : ∀ k, v.ownBlock = some k → ¬ F k) : OwnS w' base v L := ht.ownsRow h hp
theorem OwnS.lt {w : World} {base : Nat} {v : Value} {L : List Sp} (h : OwnS w base v L) {j : Nat} (hj : v.ownBlock = some j) : base ≤ j ∧ j < w.heap.size := World.ownsRow.lt h j hj
theorem wpList_append_sp {w : World} {ops : Array Oper} {rest : List Oper} {o : Oper} {a : Act} {Q : Exit → Act → World → Prop} (hgd : o.guard = none) (s x : Operand)
    (ho : o.op = .call { callee := .builtin .append, args := #[s, x], argTypes := #[57, 57] })
    (base : Nat) (v : Value) (L : List Sp) (c : Sp) (hs : a.eval s = v) (hown : OwnS w base v L) (g : Nat) (hx : a.eval x = .slice (some ⟨g, 0, none⟩) 1 1) (hc : w.heap[g]? = some (.cells #[.int .u32 c.page, .int .u64 c.tx] 80 (0, 0))) (hL : L.length ≤ 1000000) (hbase : base ≤ w.heap.size)
    (h : ∀ v' w', OwnS w' base v' (L ++ [c]) → w.grownBy w' v.ownBlock → wpList Try.prog ops Q rest (a.put o.dst v') w') : wpList Try.prog ops Q (o :: rest) a w := by
  obtain ⟨i0, hi0, hz0, hz1, hz2⟩ := info_parts info_spare
  refine wpList_append_lies _ hgd s x 57 ho base 80 i0 _ 2 16 Try.underlying57 hi0 hz0 hz1 hz2 rfl (by decide) v L.length (spCells L) hs hown ⟨g, 0, none⟩ 1 1 [.int .u32 c.page, .int .u64 c.tx] hx rfl ?_ ?_ (Nat.le_refl _) (by unfold maxLen; omega) (by omega) hbase _ rfl ?_
  · exact news_whole hc
  · intro u hu
    simp only [List.mem_cons, List.not_mem_nil, or_false] at hu
    rcases hu with rfl | rfl <;> rfl
  · intro g' cap w' h1 h2 h3 h4
    refine h _ w' ?_ h2
    unfold OwnS
    simpa [spCells_append, spCells, Sp.cells] using h1

/-- Behind one append: what was there ahead of the call stands. -/
theorem own_grown {w wr w' : World} {B : Nat} {v : Value} {L : List Sp} {o : Obj} (hB : Below B w wr) (hw : B ≤ w.heap.size) (hown : OwnS wr B v L) (hg : (wr.alloc o).grownBy w' v.ownBlock) : Below B w w' := by
  have ht : Turned (fun j => v.ownBlock = some j) (wr.alloc o) w' := Turned.grown hg (fun j hj _ => hj)
  have ht2 : Turned (fun j => v.ownBlock = some j) wr w' := ((Turned.refl _ wr).alloc o).trans ht
  exact hB.trans (ht2.toBelow (Nat.le_trans hw hB.size) (fun k hk e => (hown.lt e).1))

/-- The spares but the first that is told. -/
def lessAt (f : Sp → Bool) (T : List Sp) (k : Nat) : List Sp := if firstAt f T < k then (T.take k).eraseIdx (firstAt f T) else T.take k
theorem lessAt_eq (f : Sp → Bool) (T : List Sp) (k : Nat) (h : k < T.length) (hk : k = firstAt f T) : lessAt f T (k + 1) = lessAt f T k := by
  unfold lessAt
  rw [if_pos (by omega), if_neg (by omega), ← hk, List.take_succ_eq_append_getElem h, List.eraseIdx_append_of_length_le (by simp; omega)]
  simp [Nat.min_eq_left (Nat.le_of_lt h)]
theorem lessAt_ne (f : Sp → Bool) (T : List Sp) (k : Nat) (h : k < T.length) (hk : k ≠ firstAt f T) : lessAt f T (k + 1) = lessAt f T k ++ [T.getD k Sp.zero] := by
  unfold lessAt
  have e : T.take (k + 1) = T.take k ++ [T.getD k Sp.zero] := by rw [List.take_succ_eq_append_getElem h]; simp [List.getD, h]
  by_cases hlt : firstAt f T < k
  · rw [if_pos (by omega), if_pos hlt, e, List.eraseIdx_append_of_lt_length (by simp; omega)]
  · rw [if_neg (by omega), if_neg hlt, e]
theorem lessAt_len (f : Sp → Bool) (T : List Sp) (k : Nat) : (lessAt f T k).length ≤ T.length := by
  unfold lessAt
  split
  · rw [List.length_eraseIdx]; split <;> simp <;> omega
  · simp; omega
theorem lessAt_all (f : Sp → Bool) (T : List Sp) : lessAt f T T.length = if firstAt f T < T.length then T.eraseIdx (firstAt f T) else T := by
  unfold lessAt
  rw [List.take_length]

/-- What the document's Take leaves. -/
def RTakePost (w : World) (t : Tk) (e : Ending) (w' : World) : Prop := ∃ p' c', e = .returned (.tuple #[t.a.v p' c', .int .u32 t.page, .int .i64 t.err]) ∧ Sps w' p' t.a.l ∧ Below w.heap.size w w'
theorem ref_right_at {w : World} {a : Al} {p : Option Addr} {c : Nat} (h : AlAt w a p c) : Veil (∀ W, Below w.heap.size w W → Calls Try.prog 36 #[a.v p c] W fun e w' => e = .returned (.bool a.right) ∧ Below W.heap.size W w') :=
  ⟨fun _ hW => refright_of (h.below hW).s c ⟨h.ok⟩⟩

set_option maxRecDepth 20000 in
set_option maxHeartbeats 2000000 in
theorem reftake_bad {w : World} {a : Al} {p : Option Addr} {c : Nat} (h : AlAt w a p c) (oldest : Nat) (hr : a.right = false) :
    Calls Try.prog 32 #[a.v p c, .int .u64 oldest] w (RTakePost w (a.take oldest)) := by
  have e : a.take oldest = ⟨Al.zero, 0, 50⟩ := by simp [Al.take, hr]
  rw [e]
  have HR := ref_right_at h
  rw [hr] at HR
  clear e hr h
  obtain ⟨hi, mo, L⟩ := a
  unfold Al.v at *
  dsimp only at *
  go_enter Try.func32, Try.ntmps32
  go_wp2_with (go_at_call 36; refine (HR.out _ (below_al (below_al (Below.refl _ _) _) _)).mono ?_; rintro e w2 ⟨rfl, hb2⟩; obtain ⟨⟨z0, z1, z2⟩, g0, g1, g2⟩ := pack3 ((hb2.block (w.heap.size + 1) (by simp)).trans (heap_alloc2_new _ _ _)))
  have hT : Turned (fun _ => False) w (((w2.setCell ⟨w.heap.size + 1, 0, none⟩ (.int .u32 0)).setCell ⟨w.heap.size + 1, 1, none⟩ (.int .u32 0)).setCell ⟨w.heap.size + 1, 2, none⟩ (.slice none 0 0)) :=
    (((((Turned.refl (fun _ => False) w).alloc _).alloc _).trans (Turned.new hb2)).setNew (p := ⟨w.heap.size + 1, 0, none⟩) (by simp) _ |>.setNew (p := ⟨w.heap.size + 1, 1, none⟩) (by simp) _ |>.setNew (p := ⟨w.heap.size + 1, 2, none⟩) (by simp) _)
  refine bodyPost_ret (results_alloc3 (g := w.heap.size + 1) (y := .int .u32 0) (z := .int .i64 50) rfl rfl rfl rfl (set3 ((hb2.block (w.heap.size + 1) (by simp)).trans (heap_alloc2_new _ _ _)) _ _ _)) rfl ⟨none, 0, rfl, Sps.nil _ _, hT.toBelow (Nat.le_refl _) (fun _ _ h => h.elim)⟩

theorem ref_end {w wr w5 : World} {p' : Option Addr} {M : List Sp} {B n c' : Nat} (hX : Below w.heap.size w wr) (hT : Turned (fun j => j = w.heap.size ∨ j = w.heap.size + 1) wr w5) (hS : Sps wr p' M) (hO : ∀ j, (Value.slice p' n c').ownBlock = some j → B ≤ j) (hB : w.heap.size < B ∧ w.heap.size + 1 < B) : Sps w5 p' M ∧ Below w.heap.size w w5 := by
  refine ⟨hS.turned hT (fun a ha h => ?_), hX.trans (hT.toBelow hX.size (fun j _ h => by omega))⟩
  have := hO a.block (by rw [ha]; rfl)
  omega
/-- Between two rounds: the page that was found, what is left. -/
def pgAt (f : Sp → Bool) (T : List Sp) (k : Nat) : Nat := if firstAt f T < k then (T.getD (firstAt f T) Sp.zero).page else 0

set_option maxRecDepth 20000 in
set_option maxHeartbeats 2000000 in
theorem reftake_right {w : World} {a : Al} {p : Option Addr} {c : Nat} (h : AlAt w a p c) (oldest : Nat) (hr : a.right = true) :
    Calls Try.prog 32 #[a.v p c, .int .u64 oldest] w (RTakePost w (a.take oldest)) := by
  have HT : Veil (a.take oldest = if firstAt (old oldest) a.l < a.l.length then ⟨⟨a.high, a.most, a.l.eraseIdx (firstAt (old oldest) a.l)⟩, (a.l.getD (firstAt (old oldest) a.l) Sp.zero).page, 0⟩
     else if a.high = a.most then ⟨a, 0, 51⟩ else ⟨⟨a.high + 1, a.most, a.l⟩, a.high, 0⟩) := ⟨by simp [Al.take, hr]⟩
  have hri := (Al.right_iff a).1 hr
  have HG : Veil (∀ i, i < a.l.length → 2 ≤ (a.l.getD i Sp.zero).page ∧ (a.l.getD i Sp.zero).page < 4294967296) := ⟨fun i hi => ⟨(rising_ge hri.2 _ (getD_mem hi)).1, (h.ok.l _ (getD_mem hi)).page⟩⟩
  have HM : Veil (a.most ≤ 16384 ∧ a.high ≤ a.most ∧ 2 ≤ a.high) := ⟨hri.1.2.2.1, hri.1.2.1, hri.1.1⟩
  have HR := ref_right_at h
  rw [hr] at HR
  have HS := Lib.hid h.s
  have hl : a.l.length ≤ 100000 := h.ok.few
  revert HT
  generalize a.take oldest = T
  intro HT
  clear hr hri h
  obtain ⟨hi, mo, L⟩ := a
  unfold Al.v at *
  dsimp only at *
  go_enter Try.func32, Try.ntmps32
  go_wp2_with (go_at_call 36; refine (HR.out _ (below_al (below_al (Below.refl _ _) _) _)).mono ?_; rintro e w2 ⟨rfl, hb2⟩; have HX2 : Veil (Below w.heap.size w w2) := ⟨alb_then (below_al (below_al (Below.refl _ _) _) _) hb2⟩; have HB2 : Veil _ := ⟨(hb2.block w.heap.size (by simp only [World.size_alloc]; omega)).trans (heap_alloc2_old _ _ _)⟩; have HC2 : Veil _ := ⟨(hb2.block (w.heap.size + 1) (by simp)).trans (heap_alloc2_new _ _ _)⟩; obtain ⟨⟨q0, q1, q2⟩, -⟩ := pack3 HB2.out; clear hb2)
  clear HR q0 q1 q2
  have HS2 : Veil _ := ⟨HS.out.below HX2.out⟩
  have HN2 : Veil (w.heap.size < w2.heap.size ∧ w.heap.size + 1 < w2.heap.size) := ⟨lt_of_heap HB2.out, lt_of_heap HC2.out⟩
  go_loopw [8, 9, 10] (fun s pv i wr => ∃ k : Nat, k ≤ L.length ∧ i = .int .i64 k ∧ pv = .int .u32 (pgAt (old oldest) L k) ∧ Veil (OwnS wr w2.heap.size s (lessAt (old oldest) L k) ∧ Below w2.heap.size w2 wr)) (fun _ _ i _ => L.length - (intOf i).toNat)
  case atStart => exact ⟨0, Nat.zero_le _, rfl, rfl, ⟨World.ownsRow_nil _ _ _ _, Below.refl _ _⟩⟩
  case round =>
    obtain ⟨k, hk, rfl, rfl, hJ⟩ := hrel
    have HB3 : Veil _ := ⟨(hJ.out.2.block w.heap.size (lt_of_heap HB2.out)).trans HB2.out⟩
    obtain ⟨⟨a0, a1, a2⟩, -⟩ := pack3 HB3.out
    by_cases hlt : k < L.length
    · have HS3 : Veil _ := ⟨HS2.out.below hJ.out.2⟩
      obtain ⟨b, o, rfl, hc⟩ := HS3.out (by rintro rfl; simp at hlt)
      obtain ⟨c1, c2⟩ := hc k hlt
      have HG2 : Veil _ := ⟨HG.out k hlt⟩
      have hlen : (lessAt (old oldest) L k).length ≤ 100000 := Nat.le_trans (lessAt_len _ _ _) hl
      have HLN : Veil _ := ⟨hlen⟩
      clear hc hlen
      rcases Nat.lt_trichotomy k (firstAt (old oldest) L) with hkk | hkk | hkk
      · have HF : Veil _ := ⟨firstAt_false (old oldest) L k hkk⟩
        have HLE : Veil _ := ⟨lessAt_ne (old oldest) L k hlt (by omega)⟩
        have hp0 : pgAt (old oldest) L k = 0 := by unfold pgAt; rw [if_neg (by omega)]
        have HP1 : Veil (pgAt (old oldest) L (k + 1) = 0) := ⟨by unfold pgAt; rw [if_neg (by omega)]⟩
        rw [hp0]
        clear hkk hp0
        revert c1 c2 HF HLE HG2
        generalize L.getD k Sp.zero = s
        obtain ⟨sp, st⟩ := s
        intro c1 c2 HG2 HF HLE
        have ho : decide (st ≤ oldest) = false := HF.out
        go_wp2_with (refine wpList_append_sp rfl (.tmp 41) (.tmp 47) rfl w2.heap.size _ (lessAt (old oldest) L k) ⟨sp, st⟩ rfl (hJ.out.1.kept ((Turned.refl (fun _ => False) wr).alloc _) (fun _ _ h => h)) wr.heap.size rfl (heap_alloc_new _ _) (by have := HLN.out; omega) (by have := hJ.out.2.size; simp; omega) ?_; intro v' w5 hown5 hgrow5)
        refine ⟨⟨k + 1, by omega, by go_num, by rw [HP1.out]; rfl, ⟨by rw [HLE.out]; exact hown5, own_grown hJ.out.2 (Nat.le_refl _) hJ.out.1 hgrow5⟩⟩, ?_⟩
        simp only [intOf]; omega
      · have HF : Veil _ := ⟨firstAt_true (old oldest) L (by omega)⟩
        have HLE : Veil _ := ⟨lessAt_eq (old oldest) L k hlt hkk⟩
        have hp0 : pgAt (old oldest) L k = 0 := by unfold pgAt; rw [if_neg (by omega)]
        have HP1 : Veil (pgAt (old oldest) L (k + 1) = (L.getD k Sp.zero).page) := ⟨by unfold pgAt; rw [if_pos (by omega), ← hkk]⟩
        rw [← hkk] at HF
        rw [hp0]
        clear hkk hp0
        revert c1 c2 HF HLE HG2 HP1
        generalize L.getD k Sp.zero = s
        obtain ⟨sp, st⟩ := s
        intro c1 c2 HG2 HF HLE HP1
        have ho : decide (st ≤ oldest) = true := HF.out
        go_wp2
        refine ⟨⟨k + 1, by omega, by go_num, by rw [HP1.out], ⟨by rw [HLE.out]; exact hJ.out.1, hJ.out.2⟩⟩, ?_⟩
        simp only [intOf]; omega
      · have HLE : Veil _ := ⟨lessAt_ne (old oldest) L k hlt (by omega)⟩
        have hp0 : pgAt (old oldest) L k = (L.getD (firstAt (old oldest) L) Sp.zero).page := by unfold pgAt; rw [if_pos hkk]
        have HP1 : Veil (pgAt (old oldest) L (k + 1) = (L.getD (firstAt (old oldest) L) Sp.zero).page) := ⟨by unfold pgAt; rw [if_pos (by omega)]⟩
        have hp2 : 2 ≤ (L.getD (firstAt (old oldest) L) Sp.zero).page := (HG.out _ (by omega)).1
        rw [hp0]
        clear hkk hp0
        revert c1 c2 HLE HG2 HP1 hp2
        generalize L.getD k Sp.zero = s
        generalize (L.getD (firstAt (old oldest) L) Sp.zero).page = pv
        obtain ⟨sp, st⟩ := s
        intro c1 c2 HG2 HLE HP1 hp2
        have ho : ((pv : Int) == 0) = false := by simp; omega
        clear hp2
        go_wp2_with (refine wpList_append_sp rfl (.tmp 41) (.tmp 47) rfl w2.heap.size _ (lessAt (old oldest) L k) ⟨sp, st⟩ rfl (hJ.out.1.kept ((Turned.refl (fun _ => False) wr).alloc _) (fun _ _ h => h)) wr.heap.size rfl (heap_alloc_new _ _) (by have := HLN.out; omega) (by have := hJ.out.2.size; simp; omega) ?_; intro v' w5 hown5 hgrow5)
        refine ⟨⟨k + 1, by omega, by go_num, by rw [HP1.out], ⟨by rw [HLE.out]; exact hown5, own_grown hJ.out.2 (Nat.le_refl _) hJ.out.1 hgrow5⟩⟩, ?_⟩
        simp only [intOf]; omega
    · obtain rfl : k = L.length := by omega
      have HX3 : Veil (Below w.heap.size w wr) := ⟨alb_then HX2.out hJ.out.2⟩
      have HC3 : Veil _ := ⟨(hJ.out.2.block (w.heap.size + 1) (lt_of_heap HC2.out)).trans HC2.out⟩
      obtain ⟨p', c', rfl, hS⟩ := hJ.out.1.form
      have HOB : Veil (∀ j, (Value.slice p' (lessAt (old oldest) L L.length).length c').ownBlock = some j → w2.heap.size ≤ j) := ⟨fun j hj => (hJ.out.1.lt hj).1⟩
      have HSM : Veil _ := ⟨hS⟩
      have HLA : Veil _ := ⟨lessAt_all (old oldest) L⟩
      obtain ⟨⟨z0, z1, z2⟩, g0, g1, g2⟩ := pack3 HC3.out
      obtain ⟨-, k0, k1, k2⟩ := pack3 HB3.out
      clear hJ hS
      by_cases hf : firstAt (old oldest) L < L.length
      · have hp0 : pgAt (old oldest) L L.length = (L.getD (firstAt (old oldest) L) Sp.zero).page := by unfold pgAt; rw [if_pos hf]
        have hp2 := (HG.out _ hf).1
        have hHT := HT.out
        rw [if_pos hf] at hHT
        have hHL := HLA.out
        rw [if_pos hf] at hHL
        rw [hHL] at HSM HOB ⊢
        rw [hp0]
        have HTT : Veil _ := ⟨hHT⟩
        clear hp0 hHT hHL HT HLA hf
        revert hp2 HSM HOB HTT
        generalize (L.getD (firstAt (old oldest) L) Sp.zero).page = pv
        generalize L.eraseIdx (firstAt (old oldest) L) = M
        intro HOB HSM hp2 HTT
        go_wp2
        have e := ref_end HX3.out (turn_one (.slice p' M.length c') (.int .u32 hi) (.int .u32 mo) (.slice p' M.length c')) HSM.out HOB.out HN2.out
        refine bodyPost_ret (results_alloc3 (g := w.heap.size + 1) (y := .int .u32 pv) (z := .int .i64 0) rfl rfl rfl rfl (set3 (set_ne HC3.out (by omega) _ _) _ _ _)) rfl ⟨p', c', ?_, ?_, e.2⟩
        · rw [HTT.out]; rfl
        · rw [HTT.out]; exact e.1
      · have hp0 : pgAt (old oldest) L L.length = 0 := by unfold pgAt; rw [if_neg hf]
        have hHT := HT.out
        rw [if_neg hf] at hHT
        have hHL := HLA.out
        rw [if_neg hf] at hHL
        rw [hHL] at HSM HOB ⊢
        rw [hp0]
        clear hp0 hHL HT HLA hf
        by_cases hfull : hi = mo
        · subst hfull
          rw [if_pos rfl] at hHT
          have HTT : Veil _ := ⟨hHT⟩
          clear hHT
          go_wp2
          have e := ref_end HX3.out (turn_one (.slice p' L.length c') (.int .u32 hi) (.int .u32 hi) (.slice p' L.length c')) HSM.out HOB.out HN2.out
          refine bodyPost_ret (results_alloc3 (g := w.heap.size + 1) (y := .int .u32 0) (z := .int .i64 51) rfl rfl rfl rfl (set3 (set_ne HC3.out (by omega) _ _) _ _ _)) rfl ⟨p', c', ?_, ?_, e.2⟩
          · rw [HTT.out]; rfl
          · rw [HTT.out]; exact e.1
        · rw [if_neg hfull] at hHT
          have HTT : Veil _ := ⟨hHT⟩
          have hne : ((hi : Int) == (mo : Int)) = false := by simpa using fun e => hfull (by omega)
          have hw1 : IntKind.u32.wrap ((hi : Int) + 1) = (hi : Int) + 1 := by have := HM.out; rw [IntKind.wrap_u32']; omega
          clear hHT hfull
          go_wp2
          obtain ⟨W6, hW6⟩ : ∃ W6, ((wr.setCell ⟨w.heap.size, 2, none⟩ (.slice p' L.length c')).setCell ⟨w.heap.size, 0, none⟩ (.int .u32 ((hi : Int) + 1))).drew = W6 := ⟨_, rfl⟩
          have HT6 : Veil (Turned (· = w.heap.size) wr W6) := ⟨by rw [← hW6]; exact (((Turned.refl (· = w.heap.size) wr).setCell (p := ⟨w.heap.size, 2, none⟩) rfl _).setCell (p := ⟨w.heap.size, 0, none⟩) rfl _).drew⟩
          have HB6 : Veil (W6.heap[w.heap.size]? = some (.cells #[.int .u32 ((hi : Int) + 1), .int .u32 mo, .slice p' L.length c'] 59 (0, 0))) := ⟨by rw [← hW6]; exact heap_setCell_at (heap_setCell_at HB3.out 2 _) 0 _⟩
          have HC6 : Veil _ := ⟨HT6.out.heap HC3.out (by omega)⟩
          have HSS : Veil (W6.cell? ⟨w.heap.size, 0, none⟩ = some (.int .u32 ((hi : Int) + 1)) ∧ W6.cell? ⟨w.heap.size, 1, none⟩ = some (.int .u32 mo) ∧ W6.cell? ⟨w.heap.size, 2, none⟩ = some (.slice p' L.length c')) := ⟨(pack3 HB6.out).1⟩
          have hsub : IntKind.u32.wrap ((hi : Int) + 1 - 1) = (hi : Int) := by have := HM.out; rw [IntKind.wrap_u32']; omega
          have hsub2 : IntKind.u32.wrap (hi : Int) = (hi : Int) := by have := HM.out; rw [IntKind.wrap_u32']; omega
          refine region_plan 5 [(true, 0), (true, 1), (true, 2), (true, 3), (false, 4)] (by kernel_rfl) (by kernel_rfl) (fun w' => w'.cell? ⟨w.heap.size, 0, none⟩ = some (.int .u32 ((hi : Int) + 1)) ∧ w'.cell? ⟨w.heap.size, 1, none⟩ = some (.int .u32 mo) ∧ w'.cell? ⟨w.heap.size, 2, none⟩ = some (.slice p' L.length c')) W6 hW6 HSS.out ?_
          clear hW6 z0 z1 z2 g0 g1 g2 k0 k1 k2 a0 a1 a2
          obtain ⟨⟨z0, z1, z2⟩, g0, g1, g2⟩ := pack3 HC6.out
          simp only [planOps, List.filterMap_cons, List.filterMap_nil, List.getElem?_toArray, List.getElem?_cons_zero, List.getElem?_cons_succ, Option.map_some]
          iterate 4 (refine plan_quiet rfl ?_ ?_ (fun K hK => ?_); rotate_left; (rintro w' ⟨s0, s1, s2⟩; go_simp; rfl); (go_simp; refine hK _ ?_; clear hK K))
          refine plan_change (fun K hK => ?_)
          go_wp2
          refine hK _ _ ⟨?_, ?_, ?_⟩ ?_
          · go_simp; exact HSS.out.1
          · go_simp; exact HSS.out.2.1
          · go_simp; exact HSS.out.2.2
          clear hK K
          refine wpPlan_nil ?_
          simp only [List.drop_succ_cons, List.drop_zero]
          go_wp2
          refine only_normal ?_
          go_wp2
          have hT : Turned (fun j => j = w.heap.size ∨ j = w.heap.size + 1) wr (((W6.setCell ⟨w.heap.size + 1, 0, none⟩ (.int .u32 ((hi : Int) + 1))).setCell ⟨w.heap.size + 1, 1, none⟩ (.int .u32 mo)).setCell ⟨w.heap.size + 1, 2, none⟩ (.slice p' L.length c')) :=
            (((HT6.out.wider (fun _ _ h => .inl h)).setCell (p := ⟨w.heap.size + 1, 0, none⟩) (.inr rfl) _).setCell (p := ⟨w.heap.size + 1, 1, none⟩) (.inr rfl) _).setCell (p := ⟨w.heap.size + 1, 2, none⟩) (.inr rfl) _
          have e := ref_end HX3.out hT HSM.out HOB.out HN2.out
          refine bodyPost_ret (results_alloc3 (g := w.heap.size + 1) (y := .int .u32 hi) (z := .int .i64 0) rfl rfl rfl rfl (set3 HC6.out _ _ _)) rfl ⟨p', c', ?_, ?_, e.2⟩
          · rw [HTT.out]; rfl
          · rw [HTT.out]; exact e.1
theorem reftake_any {w : World} {a : Al} {p : Option Addr} {c : Nat} (h : AlAt w a p c) (oldest : Nat) :
    Calls Try.prog 32 #[a.v p c, .int .u64 oldest] w (RTakePost w (a.take oldest)) := by
  cases hr : a.right
  · exact reftake_bad h oldest hr
  · exact reftake_right h oldest hr
end Go.Proofs.Ytapmppiiphbcpaa

/- The walk of the document's own Give. -/
namespace Go.Proofs.Ytapmppiiphbcpaa
open Go Go.RowKit Sm
attribute [local go_sem] Oper.semAt_some

theorem firstAt_take (f : Sp → Bool) : ∀ (T : List Sp) (k : Nat), firstAt f T < k → firstAt f (T.take k) = firstAt f T
  | [], k, h => by simp [firstAt]
  | s :: r, 0, h => by omega
  | s :: r, k + 1, h => by
    unfold firstAt at h
    rw [List.take_succ_cons]
    show (if f s then 0 else firstAt f (r.take k) + 1) = if f s then 0 else firstAt f r + 1
    by_cases hf : f s = true
    · rw [if_pos hf, if_pos hf]
    · rw [if_neg hf] at h ⊢
      rw [if_neg hf, firstAt_take f r k (by omega)]
/-- The spares, one more in its place. -/
def insAt (x : Sp) (T : List Sp) (k : Nat) : List Sp := if firstAt (ahead x.page) T < k then insS x (T.take k) else T.take k
theorem take_next (T : List Sp) (k : Nat) (h : k < T.length) : T.take (k + 1) = T.take k ++ [T.getD k Sp.zero] := by rw [List.take_succ_eq_append_getElem h]; simp [List.getD, h]
theorem insAt_lt (x : Sp) (T : List Sp) (k : Nat) (h : k < T.length) (hk : k < firstAt (ahead x.page) T) : insAt x T (k + 1) = insAt x T k ++ [T.getD k Sp.zero] := by
  unfold insAt
  rw [if_neg (by omega), if_neg (by omega), take_next T k h]
theorem insAt_eq (x : Sp) (T : List Sp) (k : Nat) (h : k < T.length) (hk : k = firstAt (ahead x.page) T) : insAt x T (k + 1) = (insAt x T k ++ [x]) ++ [T.getD k Sp.zero] := by
  unfold insAt
  rw [if_pos (by omega), if_neg (by omega), insS_eq, firstAt_take _ _ _ (by omega), ← hk, take_next T k h]
  have hl : (T.take k).length = k := by simp; omega
  rw [List.take_append_of_le_length (by omega), List.take_of_length_le (by omega), List.drop_append_of_le_length (by omega), List.drop_of_length_le (by omega)]
  simp
theorem insAt_gt (x : Sp) (T : List Sp) (k : Nat) (h : k < T.length) (hk : firstAt (ahead x.page) T < k) : insAt x T (k + 1) = insAt x T k ++ [T.getD k Sp.zero] := by
  unfold insAt
  rw [if_pos (by omega), if_pos hk, insS_eq, insS_eq, firstAt_take _ _ _ (by omega), firstAt_take _ _ _ hk, take_next T k h]
  have hl : (T.take k).length = k := by simp; omega
  rw [List.take_append_of_le_length (by omega), List.drop_append_of_le_length (by omega)]
  simp
theorem insAt_all (x : Sp) (T : List Sp) : (firstAt (ahead x.page) T < T.length → insAt x T T.length = insS x T) ∧ (firstAt (ahead x.page) T = T.length → insAt x T T.length = T ∧ T ++ [x] = insS x T) := by
  unfold insAt
  refine ⟨fun h => ?_, fun h => ⟨?_, ?_⟩⟩
  · rw [if_pos h, List.take_length]
  · rw [if_neg (by omega), List.take_length]
  · rw [insS_eq, h, List.take_length, List.drop_length]; simp
theorem insAt_len (x : Sp) (T : List Sp) (k : Nat) : (insAt x T k).length ≤ T.length + 1 := by
  unfold insAt
  split
  · rw [insS_length]; simp; omega
  · simp; omega

/-- What the document's Give leaves. -/
def RGivePost (w : World) (t : Al × Int) (e : Ending) (w' : World) : Prop := ∃ p' c', e = .returned (.tuple #[t.1.v p' c', .int .i64 t.2]) ∧ Sps w' p' t.1.l ∧ Below w.heap.size w w'

set_option maxRecDepth 20000 in
set_option maxHeartbeats 2000000 in
theorem refgive_bad {w : World} {a : Al} {p : Option Addr} {c : Nat} (h : AlAt w a p c) (page tx : Nat) (hr : ¬ (a.right = true ∧ 2 ≤ page ∧ page < a.high ∧ 1 ≤ tx ∧ a.l.length < 4096)) :
    Calls Try.prog 34 #[a.v p c, .int .u32 page, .int .u64 tx] w (RGivePost w (Al.zero, 50)) := by
  have HR := ref_right_at h
  have hl : a.l.length ≤ 100000 := h.ok.few
  revert HR hr
  generalize a.right = r
  intro hr HR
  clear h
  obtain ⟨hi, mo, L⟩ := a
  unfold Al.v at *
  dsimp only at *
  have fin : Veil (∀ w2 : World, Below ((w.alloc (.cells #[.int .u32 hi, .int .u32 mo, .slice p L.length c] 59)).alloc (.cells #[.int .u32 0, .int .u32 0, .slice none 0 0] 59)).heap.size ((w.alloc (.cells #[.int .u32 hi, .int .u32 mo, .slice p L.length c] 59)).alloc (.cells #[.int .u32 0, .int .u32 0, .slice none 0 0] 59)) w2 →
      (((w2.setCell ⟨w.heap.size + 1, 0, none⟩ (.int .u32 0)).setCell ⟨w.heap.size + 1, 1, none⟩ (.int .u32 0)).setCell ⟨w.heap.size + 1, 2, none⟩ (.slice none 0 0)).heap[w.heap.size + 1]? = some (.cells #[.int .u32 0, .int .u32 0, .slice none 0 0] 59 (0, 0)) ∧ Below w.heap.size w (((w2.setCell ⟨w.heap.size + 1, 0, none⟩ (.int .u32 0)).setCell ⟨w.heap.size + 1, 1, none⟩ (.int .u32 0)).setCell ⟨w.heap.size + 1, 2, none⟩ (.slice none 0 0))) := ⟨fun w2 hb2 => by
    refine ⟨set3 ((hb2.block (w.heap.size + 1) (by simp)).trans (heap_alloc2_new _ _ _)) _ _ _, ?_⟩
    have hT : Turned (fun _ => False) w (((w2.setCell ⟨w.heap.size + 1, 0, none⟩ (.int .u32 0)).setCell ⟨w.heap.size + 1, 1, none⟩ (.int .u32 0)).setCell ⟨w.heap.size + 1, 2, none⟩ (.slice none 0 0)) :=
      (((((Turned.refl (fun _ => False) w).alloc _).alloc _).trans (Turned.new hb2)).setNew (p := ⟨w.heap.size + 1, 0, none⟩) (by simp) _ |>.setNew (p := ⟨w.heap.size + 1, 1, none⟩) (by simp) _ |>.setNew (p := ⟨w.heap.size + 1, 2, none⟩) (by simp) _)
    exact hT.toBelow (Nat.le_refl _) (fun _ _ h => h.elim)⟩
  cases r
  · go_enter Try.func34, Try.ntmps34
    go_wp2_with (go_at_call 36; refine (HR.out _ (below_al (below_al (Below.refl _ _) _) _)).mono ?_; rintro e w2 ⟨rfl, hb2⟩; have HF := fin.out w2 hb2; have HFV : Veil _ := ⟨HF⟩; obtain ⟨⟨q0, q1, q2⟩, -⟩ := pack3 ((hb2.block w.heap.size (by simp only [World.size_alloc]; omega)).trans (heap_alloc2_old _ _ _)); obtain ⟨⟨z0, z1, z2⟩, g0, g1, g2⟩ := pack3 ((hb2.block (w.heap.size + 1) (by simp)).trans (heap_alloc2_new _ _ _)); clear HF hb2)
    exact bodyPost_ret (results_alloc2 (g := w.heap.size + 1) (y := .int .i64 50) rfl rfl rfl HFV.out.1) rfl ⟨none, 0, rfl, Sps.nil _ _, HFV.out.2⟩
  have HH : Veil (¬ (2 ≤ page ∧ page < hi ∧ 1 ≤ tx ∧ L.length < 4096)) := ⟨fun h => hr ⟨rfl, h⟩⟩
  clear hr
  by_cases b1 : page < 2
  · have f1 : decide ((page : Int) < 2) = true := by simp; omega
    clear b1
    go_enter Try.func34, Try.ntmps34
    go_wp2_with (go_at_call 36; refine (HR.out _ (below_al (below_al (Below.refl _ _) _) _)).mono ?_; rintro e w2 ⟨rfl, hb2⟩; have HF := fin.out w2 hb2; have HFV : Veil _ := ⟨HF⟩; obtain ⟨⟨q0, q1, q2⟩, -⟩ := pack3 ((hb2.block w.heap.size (by simp only [World.size_alloc]; omega)).trans (heap_alloc2_old _ _ _)); obtain ⟨⟨z0, z1, z2⟩, g0, g1, g2⟩ := pack3 ((hb2.block (w.heap.size + 1) (by simp)).trans (heap_alloc2_new _ _ _)); clear HF hb2)
    exact bodyPost_ret (results_alloc2 (g := w.heap.size + 1) (y := .int .i64 50) rfl rfl rfl HFV.out.1) rfl ⟨none, 0, rfl, Sps.nil _ _, HFV.out.2⟩
  have f1 : decide ((page : Int) < 2) = false := by simp; omega
  by_cases b2 : hi ≤ page
  · have f2 : decide (hi ≤ page) = true := by simp [b2]
    clear b1 b2
    go_enter Try.func34, Try.ntmps34
    go_wp2_with (go_at_call 36; refine (HR.out _ (below_al (below_al (Below.refl _ _) _) _)).mono ?_; rintro e w2 ⟨rfl, hb2⟩; have HF := fin.out w2 hb2; have HFV : Veil _ := ⟨HF⟩; obtain ⟨⟨q0, q1, q2⟩, -⟩ := pack3 ((hb2.block w.heap.size (by simp only [World.size_alloc]; omega)).trans (heap_alloc2_old _ _ _)); obtain ⟨⟨z0, z1, z2⟩, g0, g1, g2⟩ := pack3 ((hb2.block (w.heap.size + 1) (by simp)).trans (heap_alloc2_new _ _ _)); clear HF hb2)
    exact bodyPost_ret (results_alloc2 (g := w.heap.size + 1) (y := .int .i64 50) rfl rfl rfl HFV.out.1) rfl ⟨none, 0, rfl, Sps.nil _ _, HFV.out.2⟩
  have f2 : decide (hi ≤ page) = false := by simp [b2]
  by_cases b3 : tx < 1
  · have f3 : decide ((tx : Int) < 1) = true := by simp; omega
    clear b1 b2 b3
    go_enter Try.func34, Try.ntmps34
    go_wp2_with (go_at_call 36; refine (HR.out _ (below_al (below_al (Below.refl _ _) _) _)).mono ?_; rintro e w2 ⟨rfl, hb2⟩; have HF := fin.out w2 hb2; have HFV : Veil _ := ⟨HF⟩; obtain ⟨⟨q0, q1, q2⟩, -⟩ := pack3 ((hb2.block w.heap.size (by simp only [World.size_alloc]; omega)).trans (heap_alloc2_old _ _ _)); obtain ⟨⟨z0, z1, z2⟩, g0, g1, g2⟩ := pack3 ((hb2.block (w.heap.size + 1) (by simp)).trans (heap_alloc2_new _ _ _)); clear HF hb2)
    exact bodyPost_ret (results_alloc2 (g := w.heap.size + 1) (y := .int .i64 50) rfl rfl rfl HFV.out.1) rfl ⟨none, 0, rfl, Sps.nil _ _, HFV.out.2⟩
  have f3 : decide ((tx : Int) < 1) = false := by simp; omega
  have b4 : 4096 ≤ L.length := by have := HH.out; omega
  have f4 : decide ((4096 : Int) ≤ (L.length : Int)) = true := by simp; omega
  clear b1 b2 b3
  go_enter Try.func34, Try.ntmps34
  go_wp2_with (go_at_call 36; refine (HR.out _ (below_al (below_al (Below.refl _ _) _) _)).mono ?_; rintro e w2 ⟨rfl, hb2⟩; have HF := fin.out w2 hb2; have HFV : Veil _ := ⟨HF⟩; obtain ⟨⟨q0, q1, q2⟩, -⟩ := pack3 ((hb2.block w.heap.size (by simp only [World.size_alloc]; omega)).trans (heap_alloc2_old _ _ _)); obtain ⟨⟨z0, z1, z2⟩, g0, g1, g2⟩ := pack3 ((hb2.block (w.heap.size + 1) (by simp)).trans (heap_alloc2_new _ _ _)); clear HF hb2)
  exact bodyPost_ret (results_alloc2 (g := w.heap.size + 1) (y := .int .i64 50) rfl rfl rfl HFV.out.1) rfl ⟨none, 0, rfl, Sps.nil _ _, HFV.out.2⟩

set_option maxRecDepth 20000 in
set_option maxHeartbeats 8000000 in
theorem refgive_ok {w : World} {a : Al} {p : Option Addr} {c : Nat} (h : AlAt w a p c) (page tx : Nat) (hr : a.right = true ∧ 2 ≤ page ∧ page < a.high ∧ 1 ≤ tx ∧ a.l.length < 4096) :
    Calls Try.prog 34 #[a.v p c, .int .u32 page, .int .u64 tx] w (RGivePost w (a.give page tx)) := by
  have HR := ref_right_at h
  rw [hr.1] at HR
  have HT : Veil ((∃ s ∈ a.l, s.page = page) → a.give page tx = (Al.zero, 50)) := ⟨fun ⟨s, hs, he⟩ => by
    unfold Al.give
    rw [if_neg (fun hg => ((Al.given_iff _ _ _).1 hg).2.2 s hs he)]⟩
  have HTK : Veil ((∀ s ∈ a.l, s.page ≠ page) → a.give page tx = (⟨a.high, a.most, insS ⟨page, tx⟩ a.l⟩, 0)) := ⟨fun hn => by
    unfold Al.give
    rw [if_pos ((Al.given_iff _ _ _).2 ⟨hr.1, ⟨hr.2.1, hr.2.2.1, hr.2.2.2.1, hr.2.2.2.2⟩, hn⟩)]⟩
  have HS := Lib.hid h.s
  have hl : a.l.length < 4096 := hr.2.2.2.2
  obtain ⟨-, b1, b2, b3, -⟩ := hr
  have f1 : decide ((page : Int) < 2) = false := by simp; omega
  have f2 : decide (a.high ≤ page) = false := by simp; omega
  have f3 : decide ((tx : Int) < 1) = false := by simp; omega
  have f4 : decide ((4096 : Int) ≤ (a.l.length : Int)) = false := by simp; omega
  revert HT HTK
  generalize a.give page tx = T
  intro HT HTK
  clear h b1 b2 b3
  obtain ⟨hi, mo, L⟩ := a
  unfold Al.v at *
  dsimp only at *
  go_enter Try.func34, Try.ntmps34
  go_wp2_with (go_at_call 36; refine (HR.out _ (below_al (below_al (Below.refl _ _) _) _)).mono ?_; rintro e w2 ⟨rfl, hb2⟩; have HX2 : Veil (Below w.heap.size w w2) := ⟨alb_then (below_al (below_al (Below.refl _ _) _) _) hb2⟩; have HB2 : Veil _ := ⟨(hb2.block w.heap.size (by simp only [World.size_alloc]; omega)).trans (heap_alloc2_old _ _ _)⟩; have HC2 : Veil _ := ⟨(hb2.block (w.heap.size + 1) (by simp)).trans (heap_alloc2_new _ _ _)⟩; obtain ⟨⟨q0, q1, q2⟩, -⟩ := pack3 HB2.out; clear hb2)
  clear HR q0 q1 q2 f1 f2 f3 f4
  have HS2 : Veil _ := ⟨HS.out.below HX2.out⟩
  have HN2 : Veil (w.heap.size < w2.heap.size ∧ w.heap.size + 1 < w2.heap.size) := ⟨lt_of_heap HB2.out, lt_of_heap HC2.out⟩
  go_loopw [9, 10, 11] (fun s dn i wr => ∃ k : Nat, k ≤ L.length ∧ i = .int .i64 k ∧ dn = .bool (decide (firstAt (ahead page) L < k)) ∧ Veil (OwnS wr w2.heap.size s (insAt ⟨page, tx⟩ L k) ∧ Below w2.heap.size w2 wr ∧ ∀ i, i < k → (L.getD i Sp.zero).page ≠ page)) (fun _ _ i _ => L.length - (intOf i).toNat)
  case atStart => exact ⟨0, Nat.zero_le _, rfl, rfl, ⟨World.ownsRow_nil _ _ _ _, Below.refl _ _, fun i hi => by omega⟩⟩
  case round =>
    obtain ⟨k, hk, rfl, rfl, hJ⟩ := hrel
    have HB3 : Veil _ := ⟨(hJ.out.2.1.block w.heap.size (lt_of_heap HB2.out)).trans HB2.out⟩
    have HC3 : Veil _ := ⟨(hJ.out.2.1.block (w.heap.size + 1) (lt_of_heap HC2.out)).trans HC2.out⟩
    have HX3 : Veil (Below w.heap.size w wr) := ⟨alb_then HX2.out hJ.out.2.1⟩
    obtain ⟨⟨a0, a1, a2⟩, k0, k1, k2⟩ := pack3 HB3.out
    have HN3 : Veil (w.heap.size < wr.heap.size) := ⟨lt_of_heap HB3.out⟩
    by_cases hlt : k < L.length
    · obtain ⟨b, o, rfl, hc⟩ := HS2.out (by rintro rfl; simp at hlt)
      have HCW : Veil (∀ W, Below w2.heap.size w2 W → W.cell? ⟨b, o + k * 2, none⟩ = some (.int .u32 (L.getD k Sp.zero).page) ∧ W.cell? ⟨b, o + k * 2 + 1, none⟩ = some (.int .u64 (L.getD k Sp.zero).tx)) := ⟨fun W hW => ⟨(hW.cell (World.block_lt_of_cell? w2 _ (hc k hlt).1)).trans (hc k hlt).1, (hW.cell (World.block_lt_of_cell? w2 _ (hc k hlt).2)).trans (hc k hlt).2⟩⟩
      obtain ⟨c1, c2⟩ := HCW.out _ hJ.out.2.1
      have HLN : Veil _ := ⟨insAt_len ⟨page, tx⟩ L k⟩
      clear hc
      by_cases hpp : (L.getD k Sp.zero).page = page
      · obtain ⟨⟨z0, z1, z2⟩, g0, g1, g2⟩ := pack3 HC3.out
        have HTT : Veil _ := ⟨HT.out ⟨_, getD_mem hlt, hpp⟩⟩
        have HHP : Veil _ := ⟨hpp⟩
        clear hJ HT HTK hpp
        revert c1 c2 HHP
        generalize L.getD k Sp.zero = s
        obtain ⟨sp, st⟩ := s
        intro c1 c2 HHP
        have hq : ((sp : Int) == (page : Int)) = true := by have : sp = page := HHP.out; simp [this]
        go_wp2
        have hT := (((Turned.refl (· = w.heap.size + 1) wr).setCell (p := ⟨w.heap.size + 1, 0, none⟩) rfl (.int .u32 0)).setCell (p := ⟨w.heap.size + 1, 1, none⟩) rfl (.int .u32 0)).setCell (p := ⟨w.heap.size + 1, 2, none⟩) rfl (.slice none 0 0)
        refine bodyPost_ret (results_alloc2 (g := w.heap.size + 1) (y := .int .i64 50) rfl rfl rfl (set3 HC3.out _ _ _)) rfl ⟨none, 0, ?_, ?_, HX3.out.trans (hT.toBelow HX3.out.size (fun j _ h => by omega))⟩
        · rw [HTT.out]; rfl
        · rw [HTT.out]; exact Sps.nil _ _
      · have HNX : Veil (∀ i, i < k + 1 → (L.getD i Sp.zero).page ≠ page) := ⟨fun i hi => by
          rcases Nat.lt_or_eq_of_le (Nat.le_of_lt_succ hi) with h | h
          · exact hJ.out.2.2 i h
          · rw [h]; exact hpp⟩
        have HO3 : Veil _ := ⟨hJ.out.1⟩
        have HBL : Veil _ := ⟨hJ.out.2.1⟩
        clear hJ HT HTK
        rcases Nat.lt_trichotomy k (firstAt (ahead page) L) with hkk | hkk | hkk
        · have HF : Veil _ := ⟨firstAt_false (ahead page) L k hkk⟩
          have HLE : Veil _ := ⟨insAt_lt ⟨page, tx⟩ L k hlt hkk⟩
          have hd0 : decide (firstAt (ahead page) L < k) = false := by simp; omega
          have HD1 : Veil (decide (firstAt (ahead page) L < k + 1) = false) := ⟨by simp; omega⟩
          rw [hd0]
          clear hkk hd0
          have HPP : Veil _ := ⟨hpp⟩
          clear hpp
          revert c1 c2 HF HLE HPP
          generalize L.getD k Sp.zero = s
          obtain ⟨sp, st⟩ := s
          intro c1 c2 HF HLE HPP
          have hq : ((sp : Int) == (page : Int)) = false := by simpa using fun e => HPP.out (by simp only; omega)
          have hg : decide (page < sp) = false := by have h1 : decide (page ≤ sp) = false := HF.out; simp at h1 ⊢; omega
          go_wp2_with (refine wpList_append_sp rfl (.tmp 71) (.tmp 77) rfl w2.heap.size _ (insAt ⟨page, tx⟩ L k) ⟨sp, st⟩ rfl (HO3.out.kept ((Turned.refl (fun _ => False) wr).alloc _) (fun _ _ h => h)) wr.heap.size rfl (heap_alloc_new _ _) (by have := HLN.out; omega) (by have := HBL.out.size; simp; omega) ?_; intro v' w5 hown5 hgrow5)
          refine ⟨⟨k + 1, by omega, by go_num, by rw [HD1.out], ⟨by rw [HLE.out]; exact hown5, own_grown HBL.out (Nat.le_refl _) HO3.out hgrow5, HNX.out⟩⟩, ?_⟩
          simp only [intOf]; omega
        · have HF : Veil _ := ⟨firstAt_true (ahead page) L (by omega)⟩
          rw [← hkk] at HF
          have HLE : Veil _ := ⟨insAt_eq ⟨page, tx⟩ L k hlt hkk⟩
          have hd0 : decide (firstAt (ahead page) L < k) = false := by simp; omega
          have HD1 : Veil (decide (firstAt (ahead page) L < k + 1) = true) := ⟨by simp; omega⟩
          rw [hd0]
          clear hkk hd0
          have HPP : Veil _ := ⟨hpp⟩
          clear hpp
          revert HCW c1 c2 HF HLE HPP
          generalize L.getD k Sp.zero = s
          obtain ⟨sp, st⟩ := s
          intro HCW c1 c2 HF HLE HPP
          have hq : ((sp : Int) == (page : Int)) = false := by simpa using fun e => HPP.out (by simp only; omega)
          have hg : decide (page < sp) = true := by have h1 : decide (page ≤ sp) = true := HF.out; have h2 := HPP.out; simp at h1 h2 ⊢; omega
          go_wp2_with (first
            | (refine wpList_append_sp rfl (.tmp 71) (.tmp 77) rfl w2.heap.size _ (insAt ⟨page, tx⟩ L k ++ [⟨page, tx⟩]) ⟨sp, st⟩ rfl (HO5.out.kept ((Turned.refl (fun _ => False) w5).alloc _) (fun _ _ h => h)) w5.heap.size rfl (heap_alloc_new _ _) (by have := HLN.out; simp; omega) (by have := HBL5.out.size; simp; omega) ?_; intro v'' w6 hown6 hgrow6)
            | (refine wpList_append_sp rfl (.tmp 65) (.tmp 69) rfl w2.heap.size _ (insAt ⟨page, tx⟩ L k) ⟨page, tx⟩ rfl (HO3.out.kept ((Turned.refl (fun _ => False) wr).alloc _) (fun _ _ h => h)) wr.heap.size rfl (heap_alloc_new _ _) (by have := HLN.out; omega) (by have := HBL.out.size; simp; omega) ?_; intro v' w5 hown5 hgrow5; have HO5 : Veil _ := ⟨hown5⟩; have HBL5 : Veil _ := ⟨own_grown HBL.out (Nat.le_refl _) HO3.out hgrow5⟩; have hsz : w.heap.size < w5.heap.size := Nat.lt_of_lt_of_le HN2.out.1 HBL5.out.size; obtain ⟨⟨d0, d1, d2⟩, -⟩ := pack3 ((HBL5.out.block w.heap.size HN2.out.1).trans HB2.out); obtain ⟨e1, e2⟩ := HCW.out _ HBL5.out; clear hown5 hgrow5))
          refine ⟨⟨k + 1, by omega, by go_num, by rw [HD1.out], ⟨by rw [HLE.out]; exact hown6, own_grown HBL5.out (Nat.le_refl _) HO5.out hgrow6, HNX.out⟩⟩, ?_⟩
          simp only [intOf]; omega
        · have HLE : Veil _ := ⟨insAt_gt ⟨page, tx⟩ L k hlt hkk⟩
          have hd0 : decide (firstAt (ahead page) L < k) = true := by simp; omega
          have HD1 : Veil (decide (firstAt (ahead page) L < k + 1) = true) := ⟨by simp; omega⟩
          rw [hd0]
          clear hkk hd0
          have HPP : Veil _ := ⟨hpp⟩
          clear hpp
          revert c1 c2 HLE HPP
          generalize L.getD k Sp.zero = s
          obtain ⟨sp, st⟩ := s
          intro c1 c2 HLE HPP
          have hq : ((sp : Int) == (page : Int)) = false := by simpa using fun e => HPP.out (by simp only; omega)
          go_wp2_with (refine wpList_append_sp rfl (.tmp 71) (.tmp 77) rfl w2.heap.size _ (insAt ⟨page, tx⟩ L k) ⟨sp, st⟩ rfl (HO3.out.kept ((Turned.refl (fun _ => False) wr).alloc _) (fun _ _ h => h)) wr.heap.size rfl (heap_alloc_new _ _) (by have := HLN.out; omega) (by have := HBL.out.size; simp; omega) ?_; intro v' w5 hown5 hgrow5)
          refine ⟨⟨k + 1, by omega, by go_num, by rw [HD1.out], ⟨by rw [HLE.out]; exact hown5, own_grown HBL.out (Nat.le_refl _) HO3.out hgrow5, HNX.out⟩⟩, ?_⟩
          simp only [intOf]; omega
    · obtain rfl : k = L.length := by omega
      have HTT : Veil _ := ⟨HTK.out (fun s hs => by
        obtain ⟨i, hi, rfl⟩ := List.mem_iff_getElem.1 hs
        have := hJ.out.2.2 i hi
        rwa [show L.getD i Sp.zero = L[i] by simp [List.getD, hi]] at this)⟩
      have HO3 : Veil _ := ⟨hJ.out.1⟩
      have HBL : Veil _ := ⟨hJ.out.2.1⟩
      have HIA : Veil _ := ⟨insAt_all ⟨page, tx⟩ L⟩
      clear hJ HT HTK
      by_cases hf : firstAt (ahead page) L < L.length
      · have hd0 : decide (firstAt (ahead page) L < L.length) = true := by simp [hf]
        have e := HIA.out.1 hf
        rw [e] at HO3
        rw [hd0]
        obtain ⟨p', c', rfl, hS⟩ := HO3.out.form
        have HOB : Veil (∀ j, (Value.slice p' (insS ⟨page, tx⟩ L).length c').ownBlock = some j → w2.heap.size ≤ j) := ⟨fun j hj => (HO3.out.lt hj).1⟩
        have HSM : Veil _ := ⟨hS⟩
        obtain ⟨⟨z0, z1, z2⟩, g0, g1, g2⟩ := pack3 HC3.out
        clear hS hf hd0 e HIA HO3
        revert HTT HOB HSM
        generalize insS ⟨page, tx⟩ L = M
        intro HTT HOB HSM
        go_wp2
        have e := ref_end HX3.out (turn_one (.slice p' M.length c') (.int .u32 hi) (.int .u32 mo) (.slice p' M.length c')) HSM.out HOB.out HN2.out
        refine bodyPost_ret (results_alloc2 (g := w.heap.size + 1) (y := .int .i64 0) rfl rfl rfl (set3 (set_ne HC3.out (by omega) _ _) _ _ _)) rfl ⟨p', c', ?_, ?_, e.2⟩
        · rw [HTT.out]; rfl
        · rw [HTT.out]; exact e.1
      · have hd0 : decide (firstAt (ahead page) L < L.length) = false := by simp [hf]
        have hfe : firstAt (ahead page) L = L.length := by have := firstAt_le (ahead page) L; omega
        obtain ⟨e, e2⟩ := HIA.out.2 hfe
        rw [e] at HO3
        rw [hd0]
        have HE2 : Veil _ := ⟨e2⟩
        clear hf hd0 e HIA hfe e2
        go_wp2_with (refine wpList_append_sp rfl (.tmp 81) (.tmp 85) rfl w2.heap.size _ L ⟨page, tx⟩ rfl (HO3.out.kept ((Turned.refl (fun _ => False) wr).alloc _) (fun _ _ h => h)) wr.heap.size rfl (heap_alloc_new _ _) (by omega) (by have := HBL.out.size; simp; omega) ?_; intro v' w5 hown5 hgrow5; have HBL5 : Veil _ := ⟨own_grown HBL.out (Nat.le_refl _) HO3.out hgrow5⟩; rw [HE2.out] at hown5; obtain ⟨p', c', rfl, hS⟩ := hown5.form; have HOB : Veil (∀ j, (Value.slice p' (insS ⟨page, tx⟩ L).length c').ownBlock = some j → w2.heap.size ≤ j) := ⟨fun j hj => (hown5.lt hj).1⟩; have HSM : Veil _ := ⟨hS⟩; have HB5 : Veil _ := ⟨(HBL5.out.block w.heap.size HN2.out.1).trans HB2.out⟩; have HC5 : Veil _ := ⟨(HBL5.out.block (w.heap.size + 1) HN2.out.2).trans HC2.out⟩; obtain ⟨⟨d0, d1, d2⟩, m0, m1, m2⟩ := pack3 HB5.out; obtain ⟨⟨z0, z1, z2⟩, g0, g1, g2⟩ := pack3 HC5.out; clear hS hown5 hgrow5)
        have e := ref_end (alb_then HX2.out HBL5.out) (turn_one (.slice p' (insS ⟨page, tx⟩ L).length c') (.int .u32 hi) (.int .u32 mo) (.slice p' (insS ⟨page, tx⟩ L).length c')) HSM.out HOB.out HN2.out
        refine bodyPost_ret (results_alloc2 (g := w.heap.size + 1) (y := .int .i64 0) rfl rfl rfl (set3 (set_ne HC5.out (by omega) _ _) _ _ _)) rfl ⟨p', c', ?_, ?_, e.2⟩
        · rw [HTT.out]; rfl
        · rw [HTT.out]; exact e.1

theorem refgive_any {w : World} {a : Al} {p : Option Addr} {c : Nat} (h : AlAt w a p c) (page tx : Nat) :
    Calls Try.prog 34 #[a.v p c, .int .u32 page, .int .u64 tx] w (RGivePost w (a.give page tx)) := by
  by_cases hr : a.right = true ∧ 2 ≤ page ∧ page < a.high ∧ 1 ≤ tx ∧ a.l.length < 4096
  · exact refgive_ok h page tx hr
  · have e : a.give page tx = (Al.zero, 50) := by
      unfold Al.give
      rw [if_neg (fun hg => by have := (Al.given_iff _ _ _).1 hg; exact hr ⟨this.1, this.2.1.1, this.2.1.2.1, this.2.1.2.2.1, this.2.1.2.2.2⟩)]
    rw [e]
    exact refgive_bad h page tx hr
end Go.Proofs.Ytapmppiiphbcpaa

/- The law AllocTakes. -/
namespace Go.Proofs.Ytapmppiiphbcpaa
open Go Go.RowKit Sm
attribute [local go_sem] Oper.semAt_some

theorem limb_right {P Q : Prop} (h : P ∧ Q) : Q := h.2

set_option maxRecDepth 20000 in
set_option maxHeartbeats 4000000 in
theorem allocTakes_any {w : World} {a : Al} {p : Option Addr} {c : Nat} (h : AlIn w a p c) (oldest page tx : Nat) (hpg : page < 4294967296) (htx : tx < 18446744073709551616) : Calls Try.prog 5 #[a.v p c, .int .u64 oldest, .int .u32 page, .int .u64 tx] w fun e w' => e = .returned (.bool true) ∧ Below w.heap.size w w' := by
  have HC : Veil (∀ W, Below w.heap.size w W → Calls Try.prog 30 #[a.v p c] W fun e w' => ∃ g, e = .returned (a.cut.v (some ⟨g, 0, none⟩) 4100) ∧ Room w' W.heap.size g a.cut.l ∧ Below W.heap.size W w') := ⟨fun W hW => (h.below hW).cut_any⟩
  have hok := h.cut_ok
  have hf := cut_few a
  have HK : Veil (a.cut.high = a.high ∧ a.cut.most = a.most) := ⟨rfl, rfl⟩
  revert HC hok hf HK
  generalize a.cut = d
  intro HC hok hf HK
  have HOK : Veil _ := ⟨hok⟩
  have HF : Veil _ := ⟨hf⟩
  have HT : Veil (∀ W g B, Room W B g d.l → Calls Try.prog 31 #[d.v (some ⟨g, 0, none⟩) 4100, .int .u64 oldest] W (TakePost W (d.take oldest))) := ⟨fun W g B hR => take_any (hR.at' HOK.out HF.out) oldest⟩
  have HTR : Veil (∀ W g B, Room W B g d.l → Calls Try.prog 32 #[d.v (some ⟨g, 0, none⟩) 4100, .int .u64 oldest] W (RTakePost W (d.take oldest))) := ⟨fun W g B hR => reftake_any (hR.at' HOK.out HF.out) oldest⟩
  have HV : Veil (∀ W g B, Room W B g d.l → Calls Try.prog 33 #[d.v (some ⟨g, 0, none⟩) 4100, .int .u32 page, .int .u64 tx] W (GivePost W (d.give page tx))) := ⟨fun W g B hR => give_any (hR.at' HOK.out HF.out) (by have := HF.out; omega) page tx hpg htx⟩
  have HVR : Veil (∀ W g B, Room W B g d.l → Calls Try.prog 34 #[d.v (some ⟨g, 0, none⟩) 4100, .int .u32 page, .int .u64 tx] W (RGivePost W (d.give page tx))) := ⟨fun W g B hR => refgive_any (hR.at' HOK.out HF.out) page tx⟩
  have HRT : Veil (∀ W g B, Room W B g d.l → Calls Try.prog 35 #[d.v (some ⟨g, 0, none⟩) 4100] W fun e w' => e = .returned (.bool d.right) ∧ Below W.heap.size W w') := ⟨fun W g B hR => aright_of hR.sps (fun b hb => by cases hb; exact hR.lt) 4100 HOK⟩
  have HRR : Veil (∀ W g B, Room W B g d.l → Calls Try.prog 36 #[d.v (some ⟨g, 0, none⟩) 4100] W fun e w' => e = .returned (.bool d.right) ∧ Below W.heap.size W w') := ⟨fun W g B hR => refright_of hR.sps 4100 HOK⟩
  have HTO : Veil ((d.take oldest).a.l.length ≤ 100000 ∧ (d.give page tx).1.l.length ≤ 100000) := ⟨(Al.take_ok hok oldest).1.few, (Al.give_ok hok hpg htx).few⟩
  have HSM : Veil (∀ W (q : Al) p' c' p'' c'', q.l.length ≤ 100000 → Sps W p' q.l → Sps W p'' q.l → Calls Try.prog 37 #[q.v p' c', q.v p'' c''] W fun e w' => e = .returned (.bool true) ∧ Below W.heap.size W w') := ⟨fun W q p' c' p'' c'' hq h1 h2 => same_allocs h1 h2 (by omega)⟩
  clear h hok hf hpg htx
  revert HT HTR HV HVR HTO HRT HRR
  generalize d.take oldest = t
  generalize d.give page tx = u
  generalize d.right = r
  obtain ⟨⟨bh, bm, M⟩, pg, er⟩ := t
  obtain ⟨⟨ch, cm, N⟩, er2⟩ := u
  intro HT HTR HV HVR HRT HRR HTO
  obtain ⟨hi, mo, L⟩ := a
  obtain ⟨hi', mo', T⟩ := d
  obtain ⟨e1, e2⟩ := HK.out
  dsimp only at e1 e2
  subst e1 e2
  unfold Al.v at *
  dsimp only at *
  go_enter Try.func5, Try.ntmps5
  go_wp2_with (first
    | (go_at_call 30; (with_reducible refine (HC.out _ HX2.out).mono ?_); rintro e w3 ⟨g, rfl, hR3, hb3⟩; have HX3 : Veil (Below w.heap.size w w3) := ⟨alb_then HX2.out hb3⟩; have HB3 : Veil _ := ⟨(hb3.block w.heap.size (lt_of_heap HB2.out)).trans HB2.out⟩; have hz3 := HX2.out.size; have hg3 : w.heap.size < g := (by have := lt_of_heap HB2.out; have := hR3.1; omega); obtain ⟨⟨q0, q1, q2⟩, k0, k1, k2⟩ := pack3 HB3.out; have HR3 : Veil _ := ⟨hR3⟩; clear hb3 hR3 hz3)
    | (go_at_call 29; refine (shown5_any _).mono ?_; rintro e w2 ⟨rfl, hb2⟩; have HX2 : Veil (Below w.heap.size w w2) := ⟨alb_then (below_al (Below.refl _ _) _) hb2⟩; have HB2 : Veil _ := ⟨(hb2.block w.heap.size (by simp)).trans (heap_alloc_new _ _)⟩; obtain ⟨⟨q0, q1, q2⟩, k0, k1, k2⟩ := pack3 HB2.out; clear hb2))
  obtain ⟨W4, hW4, hX4, hB4, hR4⟩ := box_anew HX3.out (Nat.le_refl _) HB3.out HR3.out (Nat.ne_of_gt hg3) (.slice (some ⟨g, 0, none⟩) T.length 4100)
  rw [hW4]
  clear hW4 q0 q1 q2 k0 k1 k2 HX3 HB3 HR3 HB2
  have HX4 : Veil _ := ⟨hX4⟩
  have HB4 : Veil _ := ⟨hB4⟩
  have HR4 : Veil _ := ⟨hR4⟩
  clear hX4 hB4 hR4 HC
  clear hg3
  refine (HT.out W4 g _ HR4.out).mono ?_
  rintro e x5 ⟨p5, c5, rfl, hN, hb⟩
  unfold Al.v
  dsimp only
  obtain ⟨W5, hW⟩ : ∃ W5, x5.alloc (.cells #[.int .u32 bh, .int .u32 bm, .slice p5 M.length c5] 59) = W5 := ⟨_, rfl⟩
  obtain ⟨S5, hS⟩ : ∃ S5, x5.heap.size = S5 := ⟨_, rfl⟩
  have hbx : Below x5.heap.size x5 W5 := by rw [← hW]; exact below_al (Below.refl _ x5) _
  have hbb : Below W4.heap.size W4 W5 := alb_then hb hbx
  have HX5 : Veil (Below w.heap.size w W5) := ⟨alb_then HX4.out hbb⟩
  have HB5 : Veil _ := ⟨(hbb.block w.heap.size (lt_of_heap HB4.out)).trans HB4.out⟩
  have HR5 : Veil _ := ⟨HR4.out.below hbb⟩
  have HD5_5 : Veil (W5.heap[S5]? = some (.cells #[.int .u32 bh, .int .u32 bm, .slice p5 M.length c5] 59 (0, 0))) := ⟨by rw [← hW, ← hS]; exact heap_alloc_new _ _⟩
  have HS5_5 : Veil (Sps W5 p5 M) := ⟨(hN.f.sps).below hbx⟩
  clear hb hbx hbb hN HX4 HB4 HR4 HT
  obtain ⟨⟨q0, q1, q2⟩, -⟩ := pack3 HB5.out
  go_wp2_with fail
  clear q0 q1 q2 hW hS
  refine (HTR.out W5 g _ HR5.out).mono ?_
  rintro e x6 ⟨p6, c6, rfl, hN, hb⟩
  unfold Al.v
  dsimp only
  obtain ⟨W6, hW⟩ : ∃ W6, x6.alloc (.cells #[.int .u32 bh, .int .u32 bm, .slice p6 M.length c6] 59) = W6 := ⟨_, rfl⟩
  obtain ⟨S6, hS⟩ : ∃ S6, x6.heap.size = S6 := ⟨_, rfl⟩
  have hbx : Below x6.heap.size x6 W6 := by rw [← hW]; exact below_al (Below.refl _ x6) _
  have hbb : Below W5.heap.size W5 W6 := alb_then hb hbx
  have HX6 : Veil (Below w.heap.size w W6) := ⟨alb_then HX5.out hbb⟩
  have HB6 : Veil _ := ⟨(hbb.block w.heap.size (lt_of_heap HB5.out)).trans HB5.out⟩
  have HR6 : Veil _ := ⟨HR5.out.below hbb⟩
  have HD6_6 : Veil (W6.heap[S6]? = some (.cells #[.int .u32 bh, .int .u32 bm, .slice p6 M.length c6] 59 (0, 0))) := ⟨by rw [← hW, ← hS]; exact heap_alloc_new _ _⟩
  have HS6_6 : Veil (Sps W6 p6 M) := ⟨(hN).below hbx⟩
  have HD6_5 : Veil _ := ⟨(hbb.block S5 (lt_of_heap HD5_5.out)).trans HD5_5.out⟩
  have HS6_5 : Veil _ := ⟨HS5_5.out.below hbb⟩
  clear hb hbx hbb hN HX5 HB5 HR5 HD5_5 HS5_5 HTR
  obtain ⟨⟨q0, q1, q2⟩, -⟩ := pack3 HB6.out
  go_wp2_with fail
  clear q0 q1 q2 hW hS
  refine (HV.out W6 g _ HR6.out).mono ?_
  rintro e x7 ⟨p7, c7, rfl, hN, hb⟩
  unfold Al.v
  dsimp only
  obtain ⟨W7, hW⟩ : ∃ W7, x7.alloc (.cells #[.int .u32 ch, .int .u32 cm, .slice p7 N.length c7] 59) = W7 := ⟨_, rfl⟩
  obtain ⟨S7, hS⟩ : ∃ S7, x7.heap.size = S7 := ⟨_, rfl⟩
  have hbx : Below x7.heap.size x7 W7 := by rw [← hW]; exact below_al (Below.refl _ x7) _
  have hbb : Below W6.heap.size W6 W7 := alb_then hb hbx
  have HX7 : Veil (Below w.heap.size w W7) := ⟨alb_then HX6.out hbb⟩
  have HB7 : Veil _ := ⟨(hbb.block w.heap.size (lt_of_heap HB6.out)).trans HB6.out⟩
  have HR7 : Veil _ := ⟨HR6.out.below hbb⟩
  have HD7_7 : Veil (W7.heap[S7]? = some (.cells #[.int .u32 ch, .int .u32 cm, .slice p7 N.length c7] 59 (0, 0))) := ⟨by rw [← hW, ← hS]; exact heap_alloc_new _ _⟩
  have HS7_7 : Veil (Sps W7 p7 N) := ⟨(hN.f.sps).below hbx⟩
  have HD7_5 : Veil _ := ⟨(hbb.block S5 (lt_of_heap HD6_5.out)).trans HD6_5.out⟩
  have HS7_5 : Veil _ := ⟨HS6_5.out.below hbb⟩
  have HD7_6 : Veil _ := ⟨(hbb.block S6 (lt_of_heap HD6_6.out)).trans HD6_6.out⟩
  have HS7_6 : Veil _ := ⟨HS6_6.out.below hbb⟩
  clear hb hbx hbb hN HX6 HB6 HR6 HD6_5 HS6_5 HD6_6 HS6_6 HV
  obtain ⟨⟨q0, q1, q2⟩, -⟩ := pack3 HB7.out
  go_wp2_with fail
  clear q0 q1 q2 hW hS
  refine (HVR.out W7 g _ HR7.out).mono ?_
  rintro e x8 ⟨p8, c8, rfl, hN, hb⟩
  unfold Al.v
  dsimp only
  obtain ⟨W8, hW⟩ : ∃ W8, x8.alloc (.cells #[.int .u32 ch, .int .u32 cm, .slice p8 N.length c8] 59) = W8 := ⟨_, rfl⟩
  obtain ⟨S8, hS⟩ : ∃ S8, x8.heap.size = S8 := ⟨_, rfl⟩
  have hbx : Below x8.heap.size x8 W8 := by rw [← hW]; exact below_al (Below.refl _ x8) _
  have hbb : Below W7.heap.size W7 W8 := alb_then hb hbx
  have HX8 : Veil (Below w.heap.size w W8) := ⟨alb_then HX7.out hbb⟩
  have HB8 : Veil _ := ⟨(hbb.block w.heap.size (lt_of_heap HB7.out)).trans HB7.out⟩
  have HR8 : Veil _ := ⟨HR7.out.below hbb⟩
  have HD8_8 : Veil (W8.heap[S8]? = some (.cells #[.int .u32 ch, .int .u32 cm, .slice p8 N.length c8] 59 (0, 0))) := ⟨by rw [← hW, ← hS]; exact heap_alloc_new _ _⟩
  have HS8_8 : Veil (Sps W8 p8 N) := ⟨(hN).below hbx⟩
  have HD8_5 : Veil _ := ⟨(hbb.block S5 (lt_of_heap HD7_5.out)).trans HD7_5.out⟩
  have HS8_5 : Veil _ := ⟨HS7_5.out.below hbb⟩
  have HD8_6 : Veil _ := ⟨(hbb.block S6 (lt_of_heap HD7_6.out)).trans HD7_6.out⟩
  have HS8_6 : Veil _ := ⟨HS7_6.out.below hbb⟩
  have HD8_7 : Veil _ := ⟨(hbb.block S7 (lt_of_heap HD7_7.out)).trans HD7_7.out⟩
  have HS8_7 : Veil _ := ⟨HS7_7.out.below hbb⟩
  clear hb hbx hbb hN HX7 HB7 HR7 HD7_5 HS7_5 HD7_6 HS7_6 HD7_7 HS7_7 HVR
  go_wp2_with fail
  clear hW hS
  have ST : Veil (∀ W, Below W8.heap.size W8 W → (W.cell? ⟨w.heap.size, 0, none⟩ = some (.int .u32 hi') ∧ W.cell? ⟨w.heap.size, 1, none⟩ = some (.int .u32 mo') ∧ W.cell? ⟨w.heap.size, 2, none⟩ = some (.slice (some ⟨g, 0, none⟩) T.length 4100)) ∧
      (W.cell? ⟨S5, 0, none⟩ = some (.int .u32 bh) ∧ W.cell? ⟨S5, 1, none⟩ = some (.int .u32 bm) ∧ W.cell? ⟨S5, 2, none⟩ = some (.slice p5 M.length c5)) ∧
      (W.cell? ⟨S6, 0, none⟩ = some (.int .u32 bh) ∧ W.cell? ⟨S6, 1, none⟩ = some (.int .u32 bm) ∧ W.cell? ⟨S6, 2, none⟩ = some (.slice p6 M.length c6)) ∧
      (W.cell? ⟨S7, 0, none⟩ = some (.int .u32 ch) ∧ W.cell? ⟨S7, 1, none⟩ = some (.int .u32 cm) ∧ W.cell? ⟨S7, 2, none⟩ = some (.slice p7 N.length c7)) ∧
      (W.cell? ⟨S8, 0, none⟩ = some (.int .u32 ch) ∧ W.cell? ⟨S8, 1, none⟩ = some (.int .u32 cm) ∧ W.cell? ⟨S8, 2, none⟩ = some (.slice p8 N.length c8))) :=
    ⟨fun W hW => ⟨(pack3 ((hW.block _ (lt_of_heap HB8.out)).trans HB8.out)).1, (pack3 ((hW.block _ (lt_of_heap HD8_5.out)).trans HD8_5.out)).1, (pack3 ((hW.block _ (lt_of_heap HD8_6.out)).trans HD8_6.out)).1, (pack3 ((hW.block _ (lt_of_heap HD8_7.out)).trans HD8_7.out)).1, (pack3 ((hW.block _ (lt_of_heap HD8_8.out)).trans HD8_8.out)).1⟩⟩
  have C1 : Veil (∀ W, Below W8.heap.size W8 W → Calls Try.prog 35 #[.agg #[.int .u32 hi', .int .u32 mo', .slice (some ⟨g, 0, none⟩) T.length 4100]] W fun e w' => e = .returned (.bool r) ∧ Below W8.heap.size W8 w') := ⟨fun W hW => (HRT.out W g _ (HR8.out.below hW)).mono fun e w' ⟨h1, h2⟩ => ⟨h1, alb_then hW h2⟩⟩
  have C2 : Veil (∀ W, Below W8.heap.size W8 W → Calls Try.prog 36 #[.agg #[.int .u32 hi', .int .u32 mo', .slice (some ⟨g, 0, none⟩) T.length 4100]] W fun e w' => e = .returned (.bool r) ∧ Below W8.heap.size W8 w') := ⟨fun W hW => (HRR.out W g _ (HR8.out.below hW)).mono fun e w' ⟨h1, h2⟩ => ⟨h1, alb_then hW h2⟩⟩
  have C3 : Veil (∀ W, Below W8.heap.size W8 W → Calls Try.prog 37 #[.agg #[.int .u32 bh, .int .u32 bm, .slice p5 M.length c5], .agg #[.int .u32 bh, .int .u32 bm, .slice p6 M.length c6]] W fun e w' => e = .returned (.bool true) ∧ Below W8.heap.size W8 w') := ⟨fun W hW => (HSM.out W ⟨bh, bm, M⟩ p5 c5 p6 c6 HTO.out.1 (HS8_5.out.below hW) (HS8_6.out.below hW)).mono fun e w' ⟨h1, h2⟩ => ⟨h1, alb_then hW h2⟩⟩
  have C4 : Veil (∀ W, Below W8.heap.size W8 W → Calls Try.prog 37 #[.agg #[.int .u32 ch, .int .u32 cm, .slice p7 N.length c7], .agg #[.int .u32 ch, .int .u32 cm, .slice p8 N.length c8]] W fun e w' => e = .returned (.bool true) ∧ Below W8.heap.size W8 w') := ⟨fun W hW => (HSM.out W ⟨ch, cm, N⟩ p7 c7 p8 c8 HTO.out.2 (HS8_7.out.below hW) (HS8_8.out.below hW)).mono fun e w' ⟨h1, h2⟩ => ⟨h1, alb_then hW h2⟩⟩
  clear HRT HRR HSM HTO HB8 HD8_5 HD8_6 HD8_7 HD8_8 HS8_5 HS8_6 HS8_7 HS8_8 HR8 HOK HF HK
  cases r
  all_goals
    go_region_held3 (fun W => ((W.cell? ⟨w.heap.size, 0, none⟩ = some (.int .u32 hi') ∧ W.cell? ⟨w.heap.size, 1, none⟩ = some (.int .u32 mo') ∧ W.cell? ⟨w.heap.size, 2, none⟩ = some (.slice (some ⟨g, 0, none⟩) T.length 4100)) ∧
      (W.cell? ⟨S5, 0, none⟩ = some (.int .u32 bh) ∧ W.cell? ⟨S5, 1, none⟩ = some (.int .u32 bm) ∧ W.cell? ⟨S5, 2, none⟩ = some (.slice p5 M.length c5)) ∧
      (W.cell? ⟨S6, 0, none⟩ = some (.int .u32 bh) ∧ W.cell? ⟨S6, 1, none⟩ = some (.int .u32 bm) ∧ W.cell? ⟨S6, 2, none⟩ = some (.slice p6 M.length c6)) ∧
      (W.cell? ⟨S7, 0, none⟩ = some (.int .u32 ch) ∧ W.cell? ⟨S7, 1, none⟩ = some (.int .u32 cm) ∧ W.cell? ⟨S7, 2, none⟩ = some (.slice p7 N.length c7)) ∧
      (W.cell? ⟨S8, 0, none⟩ = some (.int .u32 ch) ∧ W.cell? ⟨S8, 1, none⟩ = some (.int .u32 cm) ∧ W.cell? ⟨S8, 2, none⟩ = some (.slice p8 N.length c8))) ∧ Below W8.heap.size W8 W) (refine ⟨ST.out _ ?_, ?_⟩ <;> first | assumption | exact (Below.refl _ _).drew) (first
      | (go_at_call 37; (with_reducible refine (C4.out _ ?_).mono ?_); (first | assumption | exact limb_right (by assumption)); rintro e w9 ⟨rfl, hb9⟩)
      | (go_at_call 37; (with_reducible refine (C3.out _ ?_).mono ?_); (first | assumption | exact limb_right (by assumption)); rintro e w9 ⟨rfl, hb9⟩)
      | (go_at_call 36; refine (C2.out _ ?_).mono ?_; (first | assumption | exact limb_right (by assumption)); rintro e w9 ⟨rfl, hb9⟩)
      | (go_at_call 35; refine (C1.out _ ?_).mono ?_; (first | assumption | exact (Below.refl _ _).drew | exact limb_right (by assumption)); rintro e w9 ⟨rfl, hb9⟩))
    all_goals
      go_wp2
      go_ret
      exact ⟨rfl, alb_then HX8.out hb9⟩
end Go.Proofs.Ytapmppiiphbcpaa

/- Plain facts: pages are never lost, nor two at once. -/
namespace Go.Proofs.Ytapmppiiphbcpaa
open Go Go.RowKit Sm

structure Lv (most : Nat) (al : Al) (tk : List Bool) (n : Int) : Prop where
  right : al.right = true
  cap : al.most = most
  len : tk.length = 200
  sound : ∀ j, j < 200 → (tk.getD j false = true ↔ (2 ≤ j ∧ j < al.high ∧ ∀ s ∈ al.l, s.page ≠ j))
  sum : n + al.l.length + 2 = al.high
theorem getD_set (tk : List Bool) (p j : Nat) (b : Bool) (hp : p < tk.length) : (tk.set p b).getD j false = if j = p then b else tk.getD j false := by
  simp only [List.getD, List.getElem?_set]
  by_cases h : j = p
  · subst h; simp [hp]
  · rw [if_neg (fun e => h e.symm), if_neg h]
theorem mem_erase {L : List Sp} {k : Nat} (hk : k < L.length) {s : Sp} (hs : s ∈ L) : s = L.getD k Sp.zero ∨ s ∈ L.eraseIdx k := by
  obtain ⟨i, hi, rfl⟩ := List.mem_iff_getElem.1 hs
  by_cases h : i = k
  · subst h; left; simp [List.getD, hi]
  · right
    rw [List.eraseIdx_eq_take_drop_succ]
    rcases Nat.lt_or_gt_of_ne h with h | h
    · exact List.mem_append_left _ (List.mem_take_iff_getElem.2 ⟨i, by omega, rfl⟩)
    · refine List.mem_append_right _ (List.mem_drop_iff_getElem.2 ⟨i - (k + 1), by omega, ?_⟩)
      congr 1; omega
theorem Lv.start (most : Nat) (h : 2 ≤ most) (h2 : most ≤ 200) : Lv most ⟨2, most, []⟩ (List.replicate 200 false) 0 := by
  refine ⟨(Al.right_iff _).2 ⟨⟨Nat.le_refl 2, h, (by omega : most ≤ 16384), Nat.zero_le _⟩, rfl⟩, rfl, List.length_replicate, fun j hj => ?_, rfl⟩
  constructor
  · intro h
    rw [List.getD, List.getElem?_replicate, if_pos hj] at h
    cases h
  · rintro ⟨h1, h2, -⟩; simp only at h2; omega
theorem Lv.bounds {most : Nat} {al : Al} {tk : List Bool} {n : Int} (h : Lv most al tk n) (hm : most ≤ 200) : 2 ≤ al.high ∧ al.high ≤ 200 ∧ al.l.length ≤ 4096 ∧ -5000 ≤ n ∧ n ≤ 5000 := by
  obtain ⟨⟨h1, h2, h3, h4⟩, -⟩ := (Al.right_iff _).1 h.right
  have := h.sum
  have := h.cap
  omega
theorem Lv.take {most : Nat} {al : Al} {tk : List Bool} {n : Int} (h : Lv most al tk n) (hm : most ≤ 200) (N : Nat) :
    ((al.take N).err = 51 ∧ (al.take N).page = 0 ∧ (al.take N).a = al ∧ al.high = most) ∨
    ((al.take N).err = 0 ∧ 2 ≤ (al.take N).page ∧ (al.take N).page < most ∧ tk.getD (al.take N).page false = false ∧ Lv most (al.take N).a (tk.set (al.take N).page true) (n + 1)) := by
  obtain ⟨⟨h1, h2, h3, h4⟩, h5⟩ := (Al.right_iff _).1 h.right
  have hcap := h.cap
  have hlen := h.len
  have hr0 := Al.take_right h.right N
  unfold Al.take at hr0 ⊢
  rw [if_pos h.right] at hr0 ⊢
  by_cases hf : firstAt (old N) al.l < al.l.length
  · rw [if_pos hf] at hr0 ⊢
    right
    generalize firstAt (old N) al.l = k at hf hr0
    have hpg := rising_ge h5 _ (getD_mem hf)
    have hnot : tk.getD (al.l.getD k Sp.zero).page false = false := by
      cases ht : tk.getD (al.l.getD k Sp.zero).page false
      · rfl
      · exact absurd rfl (((h.sound _ (by omega)).1 ht).2.2 _ (getD_mem hf))
    refine ⟨rfl, hpg.1, by simp only; omega, hnot, hr0 rfl, hcap, by simp [hlen], fun j hj => ?_, ?_⟩
    · simp only
      rw [getD_set _ _ _ _ (by omega)]
      by_cases hj2 : j = (al.l.getD k Sp.zero).page
      · rw [if_pos hj2]
        refine ⟨fun _ => ⟨by omega, by omega, fun s hs he => ?_⟩, fun _ => rfl⟩
        obtain ⟨i, hi, rfl⟩ := List.mem_iff_getElem.1 hs
        have e : (al.l.eraseIdx k)[i] = (al.l.eraseIdx k).getD i Sp.zero := by simp [List.getD, hi]
        rw [e, getD_erase] at he
        rw [List.length_eraseIdx, if_pos hf] at hi
        split at he
        · have := rising_apart h5 (show i < k by assumption) hf; omega
        · have := rising_apart h5 (show k < i + 1 by omega) (by omega); omega
      · rw [if_neg hj2, h.sound j hj]
        constructor
        · rintro ⟨a1, a2, a3⟩
          exact ⟨a1, a2, fun s hs => a3 s (List.mem_of_mem_eraseIdx hs)⟩
        · rintro ⟨a1, a2, a3⟩
          refine ⟨a1, a2, fun s hs => ?_⟩
          rcases mem_erase hf hs with rfl | hs
          · exact fun e => hj2 e.symm
          · exact a3 s hs
    · have := h.sum
      simp only
      rw [List.length_eraseIdx, if_pos hf]
      omega
  · rw [if_neg hf] at hr0 ⊢
    by_cases hfull : al.high = al.most
    · rw [if_pos hfull]
      exact .inl ⟨rfl, rfl, rfl, by omega⟩
    · rw [if_neg hfull] at hr0 ⊢
      right
      have hnot : tk.getD al.high false = false := by
        cases ht : tk.getD al.high false
        · rfl
        · have := ((h.sound _ (by omega)).1 ht).2.1; omega
      refine ⟨rfl, h1, by simp only; omega, hnot, hr0 rfl, hcap, by simp [hlen], fun j hj => ?_, ?_⟩
      · simp only
        rw [getD_set _ _ _ _ (by omega)]
        by_cases hj2 : j = al.high
        · rw [if_pos hj2]
          exact ⟨fun _ => ⟨by omega, by omega, fun s hs he => by have := (rising_ge h5 s hs).2.1; omega⟩, fun _ => rfl⟩
        · rw [if_neg hj2, h.sound j hj]
          constructor
          · rintro ⟨a1, a2, a3⟩; exact ⟨a1, by omega, a3⟩
          · rintro ⟨a1, a2, a3⟩; exact ⟨a1, by omega, a3⟩
      · have := h.sum
        simp only
        omega
theorem mem_insS {x s : Sp} {L : List Sp} : s ∈ insS x L ↔ s = x ∨ s ∈ L := by
  have e : L = L.take (firstAt (ahead x.page) L) ++ L.drop (firstAt (ahead x.page) L) := (List.take_append_drop _ _).symm
  rw [insS_eq]
  constructor
  · intro h
    rcases List.mem_append.1 h with h | h
    · exact .inr (List.mem_of_mem_take h)
    · rcases List.mem_append.1 h with h | h
      · exact .inl (List.mem_singleton.1 h)
      · exact .inr (List.mem_of_mem_drop h)
  · rintro (rfl | h)
    · exact List.mem_append_right _ (List.mem_append_left _ (List.mem_singleton.2 rfl))
    · rw [e] at h
      rcases List.mem_append.1 h with h | h
      · exact List.mem_append_left _ h
      · exact List.mem_append_right _ (List.mem_append_right _ h)
theorem Lv.give {most : Nat} {al : Al} {tk : List Bool} {n : Int} (h : Lv most al tk n) (hm : most ≤ 200) (p N : Nat) (hp : p < 200) :
    (tk.getD p false = true ∧ 0 < N ∧ (al.give p N).2 = 0 ∧ Lv most (al.give p N).1 (tk.set p false) (n - 1)) ∨
    (¬ (tk.getD p false = true ∧ 0 < N) ∧ (al.give p N).2 = 50) := by
  obtain ⟨⟨h1, h2, h3, h4⟩, h5⟩ := (Al.right_iff _).1 h.right
  have hcap := h.cap
  have hlen := h.len
  have hbd := h.bounds hm
  have hl : al.l.length + 2 ≤ al.high := by
    have : ∀ (L : List Sp) (least : Nat), least ≤ al.high → rising al.high least L = true → L.length + least ≤ al.high := by
      intro L
      induction L with
      | nil => intro least h _; simpa using h
      | cons s r ih =>
        intro least _ h
        obtain ⟨⟨a1, a2, a3⟩, hr⟩ := (rising_cons _ _ _ _).1 h
        have := ih (s.page + 1) (by omega) hr
        simp only [List.length_cons]
        omega
    exact this al.l 2 h1 h5
  by_cases hg : al.given p N = true
  · obtain ⟨_, ⟨g1, g2, g3, g4⟩, g5⟩ := (Al.given_iff _ _ _).1 hg
    left
    unfold Al.give
    rw [if_pos hg]
    refine ⟨(h.sound p hp).2 ⟨g1, g2, g5⟩, g3, rfl, by rw [Al.given_right]; exact hg, hcap, by simp [hlen], fun j hj => ?_, ?_⟩
    · simp only
      rw [getD_set _ _ _ _ (by omega)]
      by_cases hj2 : j = p
      · rw [if_pos hj2]
        refine ⟨(fun h => by cases h), fun ⟨_, _, a3⟩ => absurd hj2.symm (a3 ⟨p, N⟩ (mem_insS.2 (.inl rfl)))⟩
      · rw [if_neg hj2, h.sound j hj]
        constructor
        · rintro ⟨a1, a2, a3⟩
          refine ⟨a1, a2, fun s hs => ?_⟩
          rcases mem_insS.1 hs with rfl | hs
          · exact fun e => hj2 e.symm
          · exact a3 s hs
        · rintro ⟨a1, a2, a3⟩
          exact ⟨a1, a2, fun s hs => a3 s (mem_insS.2 (.inr hs))⟩
    · have := h.sum
      simp only
      rw [insS_length]
      omega
  · right
    unfold Al.give
    rw [if_neg hg]
    refine ⟨fun ⟨ht, hN⟩ => hg ((Al.given_iff _ _ _).2 ⟨h.right, ⟨?_, ?_, hN, by omega⟩, ?_⟩), rfl⟩
    · exact ((h.sound p hp).1 ht).1
    · exact ((h.sound p hp).1 ht).2.1
    · exact ((h.sound p hp).1 ht).2.2
end Go.Proofs.Ytapmppiiphbcpaa

/- The law AllocLives. -/
namespace Go.Proofs.Ytapmppiiphbcpaa
open Go Go.RowKit Sm
attribute [local go_sem] Oper.semAt_some

/-- An act as it is read. -/
structure A5 where
  d : Int
  n : Nat
  a : Int
def A5.zero : A5 := ⟨0, 0, 0⟩
def Acts5 (w : World) (p : Option Addr) (l : List A5) : Prop :=
  l ≠ [] → ∃ b o, p = some ⟨b, o, none⟩ ∧ ∀ i, i < l.length → w.cell? ⟨b, o + i * 3, none⟩ = some (.int .i64 (l.getD i A5.zero).d) ∧ w.cell? ⟨b, o + i * 3 + 1, none⟩ = some (.int .u64 (l.getD i A5.zero).n) ∧ w.cell? ⟨b, o + i * 3 + 2, none⟩ = some (.int .i64 (l.getD i A5.zero).a)
def bools (tk : List Bool) : List Value := tk.map Value.bool
theorem bools_at (tk : List Bool) (i : Nat) (h : i < tk.length) : (bools tk)[i]? = some (.bool (tk.getD i false)) := by simp [bools, List.getD, h]
theorem mod3 (t : Int) : ∃ m : Nat, (IntKind.u64.wrap t).tmod 3 = (m : Int) ∧ m < 3 := by
  have h0 : 0 ≤ IntKind.u64.wrap t := by simp [IntKind.wrap, IntKind.bits, IntKind.signed]; omega
  generalize IntKind.u64.wrap t = u at h0 ⊢
  have h1 : u.tmod 3 = u % 3 := Int.tmod_eq_emod_of_nonneg h0
  exact ⟨(u % 3).toNat, by rw [h1, Int.toNat_of_nonneg (by omega)], by omega⟩
theorem mod200 (t : Int) : ∃ m : Nat, (IntKind.u64.wrap t).tmod 200 = (m : Int) ∧ m < 200 := by
  have h0 : 0 ≤ IntKind.u64.wrap t := by simp [IntKind.wrap, IntKind.bits, IntKind.signed]; omega
  generalize IntKind.u64.wrap t = u at h0 ⊢
  have h1 : u.tmod 200 = u % 200 := Int.tmod_eq_emod_of_nonneg h0
  exact ⟨(u % 200).toNat, by rw [h1, Int.toNat_of_nonneg (by omega)], by omega⟩
theorem zero_200 (w : World) : (zeroValue 74).run Try.prog w = .ok (.agg (bools (List.replicate 200 false)).toArray) w := by kernel_rfl

theorem hn0 (l : List A5) (k : Nat) (h : k < l.length) (hn : ∀ x ∈ l, x.n < 18446744073709551616) : (l.getD k A5.zero).n < 18446744073709551616 := hn _ (by rw [List.getD, List.getElem?_eq_getElem h]; exact List.getElem_mem ..)
/-- Between two rounds. -/
structure LvI (w : World) (B6 B7 : Nat) (most : Nat) (al : Al) (p : Option Addr) (c : Nat) (tk : List Bool) (n : Int) (A : World) : Prop where
  box : A.heap[B6]? = some (.cells #[.int .u32 al.high, .int .u32 al.most, .slice p al.l.length c] 59 (0, 0))
  arr : A.heap[B7]? = some (.cells (bools tk).toArray 74 (0, 0))
  at' : AlAt A al p c
  far : ∀ b, p = some b → b.block ≠ B6 ∧ b.block ≠ B7
  lv : Lv most al tk n
  x : Below w.heap.size w A

section
variable {w : World} {B6 B7 most : Nat} {al al' : Al} {p p' : Option Addr} {c c' : Nat} {tk : List Bool} {n n' : Int} {A A' : World}
theorem LvI.below (h : LvI w B6 B7 most al p c tk n A) (hb : Below A.heap.size A A') : LvI w B6 B7 most al p c tk n A' :=
  ⟨(hb.block _ (lt_of_heap h.box)).trans h.box, (hb.block _ (lt_of_heap h.arr)).trans h.arr, h.at'.below hb, h.far, h.lv, alb_then h.x hb⟩
theorem LvI.laid (h : LvI w B6 B7 most al p c tk n A) {B : Nat} (hN : AlNew A B al' p' c') (hB : B6 < B ∧ B7 < B) (h67 : B6 ≠ B7) (hw : w.heap.size ≤ B6 ∧ w.heap.size ≤ B7) (j : Nat) (b : Bool) (hl : Lv most al' (tk.set j b) n') :
    LvI w B6 B7 most al' p' c' (tk.set j b) n' ((((A.setCell ⟨B7, j, none⟩ (.bool b)).setCell ⟨B6, 0, none⟩ (.int .u32 al'.high)).setCell ⟨B6, 1, none⟩ (.int .u32 al'.most)).setCell ⟨B6, 2, none⟩ (.slice p' al'.l.length c')) := by
  have hT : Turned (fun x => x = B6 ∨ x = B7) A ((((A.setCell ⟨B7, j, none⟩ (.bool b)).setCell ⟨B6, 0, none⟩ (.int .u32 al'.high)).setCell ⟨B6, 1, none⟩ (.int .u32 al'.most)).setCell ⟨B6, 2, none⟩ (.slice p' al'.l.length c')) :=
    ((((Turned.refl _ A).setCell (p := ⟨B7, j, none⟩) (.inr rfl) _).setCell (p := ⟨B6, 0, none⟩) (.inl rfl) _).setCell (p := ⟨B6, 1, none⟩) (.inl rfl) _).setCell (p := ⟨B6, 2, none⟩) (.inl rfl) _
  have hfar : ∀ b, p' = some b → b.block ≠ B6 ∧ b.block ≠ B7 := fun b hb => by
    rcases hN.f with ⟨-, h0⟩ | ⟨g, h1, h2, -⟩
    · rw [h0] at hb; cases hb
    · rw [h2] at hb; cases hb; simp only; omega
  have hN' : AlNew ((((A.setCell ⟨B7, j, none⟩ (.bool b)).setCell ⟨B6, 0, none⟩ (.int .u32 al'.high)).setCell ⟨B6, 1, none⟩ (.int .u32 al'.most)).setCell ⟨B6, 2, none⟩ (.slice p' al'.l.length c')) B al' p' c' := by
    refine ⟨?_, hN.c, hN.ok⟩
    rcases hN.f with h0 | ⟨g, h1, h2, h3⟩
    · exact .inl h0
    · exact .inr ⟨g, h1, h2, hT.heap h3 (fun h => by omega)⟩
  refine ⟨set3 (set_ne h.box h67 _ _) _ _ _, ?_, hN'.at', hfar, hl, h.x.trans (hT.toBelow h.x.size (fun x _ hx => by omega))⟩
  have h7 : B7 ≠ B6 := fun e => h67 e.symm
  have := heap_setCell_at h.arr j (.bool b)
  refine set_ne (set_ne (set_ne (this.trans ?_) h7 _ _) h7 _ _) h7 _ _
  simp [bools, List.map_set]
end

set_option maxRecDepth 20000 in
set_option maxHeartbeats 4000000 in
theorem allocLives_any {w : World} {p : Option Addr} {l : List A5} {lc : Nat} (hA : Acts5 w p l) (hn : ∀ x ∈ l, x.n < 18446744073709551616) (hll : l.length ≤ lc) (hlc : lc ≤ 9223372036854775807) (most : Nat) (hmo : most < 4294967296) :
    Calls Try.prog 8 #[.int .u32 most, .slice p l.length lc] w fun e w' => e = .returned (.bool true) ∧ Below w.heap.size w w' := by
  by_cases hs : most < 2 ∨ 200 < most
  · clear hmo hll hlc hA hn
    rcases hs with hs | hs
    · have f1 : decide ((most : Int) < 2) = true := by simp; omega
      clear hs
      go_enter Try.func8, Try.ntmps8
      go_wp2_with (go_at_call 29; refine (shown5_any _).mono ?_; rintro e w2 ⟨rfl, hb2⟩)
      go_ret
      exact ⟨rfl, hb2⟩
    · have f1 : decide ((most : Int) < 2) = false := by simp; omega
      have f2 : decide ((200 : Int) < (most : Int)) = true := by simp; omega
      clear hs
      go_enter Try.func8, Try.ntmps8
      go_wp2_with (go_at_call 29; refine (shown5_any _).mono ?_; rintro e w2 ⟨rfl, hb2⟩)
      go_ret
      exact ⟨rfl, hb2⟩
  · have f1 : decide ((most : Int) < 2) = false := by simp; omega
    have f2 : decide ((200 : Int) < (most : Int)) = false := by simp; omega
    have HM : Veil (2 ≤ most ∧ most ≤ 200) := ⟨by omega⟩
    have HA := Lib.hid hA
    have HNN : Veil _ := ⟨hn⟩
    have HLC : Veil (l.length ≤ 9223372036854775807) := ⟨by omega⟩
    clear hs hmo hA hn hll hlc
    go_enter Try.func8, Try.ntmps8
    go_wp2_with (first
      | (go_at_call 29; refine (shown5_any _).mono ?_; rintro e w2 ⟨rfl, hb2⟩; have HX2 : Veil _ := ⟨hb2⟩; clear hb2)
      | (refine wpList_alloc_at rfl 74 rfl _ (zero_200 _) ?_; intro w4 hw4 hT4))
    obtain ⟨B6, hB6⟩ : ∃ B6, w2.heap.size = B6 := ⟨_, rfl⟩
    have H0 : Veil (LvI w B6 (B6 + 1) most ⟨2, most, []⟩ none 0 (List.replicate 200 false) 0 w4) := ⟨by
      have hb6 : w4.heap[B6]? = some (.cells #[.int .u32 2, .int .u32 most, .slice none 0 0] 59 (0, 0)) := hT4.heap (by rw [← hB6]; exact heap_alloc_new _ _) (fun h => h)
      have hb7 : w4.heap[B6 + 1]? = some (.cells (bools (List.replicate 200 false)).toArray 74 (0, 0)) := by rw [← hB6]; have := hw4.out; simp only [World.size_alloc] at this; exact this
      have hok : Al.Ok ⟨2, most, []⟩ := ⟨(by decide : 2 < 4294967296), (by have := HM.out; omega : most < 4294967296), fun s h => by simp at h, Nat.zero_le _⟩
      have hx4 : Below w.heap.size w w4 := (below_al HX2.out _).trans (hT4.toBelow (below_al HX2.out _).size (fun _ _ h => h.elim))
      exact ⟨hb6, hb7, ⟨Sps.nil _ _, (fun b hb => by cases hb), Nat.le_refl _, Nat.zero_le _, fun _ => rfl, hok⟩, (fun b hb => by cases hb), Lv.start most HM.out.1 HM.out.2, hx4⟩⟩
    have HW6 : Veil (w.heap.size ≤ B6 ∧ w.heap.size ≤ B6 + 1) := ⟨by have := HX2.out.size; omega⟩
    rw [hB6]
    clear hB6 hw4 hT4 HX2 f1 f2
    have hli := HLC.out
    go_loopw [8, 9, 10, 11, 12, 13, 14, 15, 16] (fun s i _ _ _ _ _ _ _ wr => ∃ (k : Nat) (n : Int) (al : Al) (p' : Option Addr) (c' : Nat) (tk : List Bool), k ≤ l.length ∧ k ≤ 150 ∧ i = .int .i64 k ∧ s = .int .i64 n ∧ Veil (LvI w B6 (B6 + 1) most al p' c' tk n wr)) (fun _ i _ _ _ _ _ _ _ _ => l.length - (intOf i).toNat)
    case atStart => exact ⟨0, 0, _, _, _, _, Nat.zero_le _, by omega, rfl, rfl, H0⟩
    case round =>
      obtain ⟨k, n, al, p', c', tk, hk, hk150, rfl, rfl, hJ⟩ := hrel
      clear H0
      have hbd := hJ.out.lv.bounds HM.out.2
      by_cases hlt : k < l.length ∧ k < 150
      · obtain ⟨hlt, hkk⟩ := hlt
        obtain ⟨b, o, rfl, hc⟩ := HA.out (by rintro rfl; simp at hlt)
        obtain ⟨c1, c2, c3⟩ := hc k hlt
        have HN0 : Veil _ := ⟨hn0 _ k hlt HNN.out⟩
        have c1' := (hJ.out.x.cell (World.block_lt_of_cell? w _ c1)).trans c1
        have c2' := (hJ.out.x.cell (World.block_lt_of_cell? w _ c2)).trans c2
        have c3' := (hJ.out.x.cell (World.block_lt_of_cell? w _ c3)).trans c3
        clear hc c1 c2 c3
        revert c1' c2' c3' HN0
        generalize l.getD k A5.zero = x
        obtain ⟨D, N, At⟩ := x
        intro HN0 c1 c2 c3
        obtain ⟨m, hm, hm3⟩ := mod3 D
        obtain ⟨W5, hW5⟩ : ∃ W5, wr.alloc (.cells #[.int .i64 D, .int .u64 N, .int .i64 At] 76) = W5 := ⟨_, rfl⟩
        obtain ⟨S5, hS5⟩ : ∃ S5, wr.heap.size = S5 := ⟨_, rfl⟩
        have hb5 : Below wr.heap.size wr W5 := by rw [← hW5]; exact below_al (Below.refl _ _) _
        have HD5 : Veil (W5.heap[S5]? = some (.cells #[.int .i64 D, .int .u64 N, .int .i64 At] 76 (0, 0))) := ⟨by rw [← hW5, ← hS5]; exact heap_alloc_new _ _⟩
        have H5 : Veil _ := ⟨hJ.out.below hb5⟩
        have HS5 : Veil (B6 < S5 ∧ B6 + 1 < S5) := ⟨by rw [← hS5]; exact ⟨lt_of_heap hJ.out.box, lt_of_heap hJ.out.arr⟩⟩
        obtain ⟨⟨d0, d1, d2⟩, -⟩ := pack3 HD5.out
        obtain ⟨⟨a0, a1, a2⟩, -⟩ := pack3 H5.out.box
        clear hb5 hJ
        by_cases hm2 : m < 2
        · have fm : decide ((m : Int) < 2) = true := by simp; omega
          have HTK : Veil _ := ⟨take_any H5.out.at' N⟩
          have hcs := H5.out.lv.take HM.out.2 N
          revert HTK hcs
          generalize al.take N = T
          obtain ⟨b', pg, er⟩ := T
          intro HTK hcs
          unfold Al.v at HTK
          dsimp only at HTK hcs
          go_wp2_with fail
          go_at_call 31
          refine HTK.out.mono ?_
          rintro e w6 ⟨p2, c2, rfl, hN, hb6⟩
          unfold Al.v
          dsimp only
          obtain ⟨W7, hW7⟩ : ∃ W7, w6.alloc (.cells #[.int .u32 b'.high, .int .u32 b'.most, .slice p2 b'.l.length c2] 59) = W7 := ⟨_, rfl⟩
          obtain ⟨S6, hS6⟩ : ∃ S6, w6.heap.size = S6 := ⟨_, rfl⟩
          have hb7 : Below w6.heap.size w6 W7 := by rw [← hW7]; exact below_al (Below.refl _ _) _
          have HE7 : Veil (W7.heap[S6]? = some (.cells #[.int .u32 b'.high, .int .u32 b'.most, .slice p2 b'.l.length c2] 59 (0, 0))) := ⟨by rw [← hW7, ← hS6]; exact heap_alloc_new _ _⟩
          have H7 : Veil _ := ⟨(H5.out.below hb6).below hb7⟩
          have HN7 : Veil _ := ⟨hN.below hb7⟩
          have H56 : Veil (B6 < W5.heap.size ∧ B6 + 1 < W5.heap.size) := ⟨lt_of_heap H5.out.box, lt_of_heap H5.out.arr⟩
          have HS6 : Veil (B6 < S6 ∧ B6 + 1 < S6) := ⟨by rw [← hS6]; have h6 := H5.out.below hb6; exact ⟨lt_of_heap h6.box, lt_of_heap h6.arr⟩⟩
          clear hb6 hb7 hN HTK d0 d1 d2 a0 a1 a2
          obtain ⟨⟨a0, a1, a2⟩, -⟩ := pack3 H7.out.box
          obtain ⟨⟨y0, y1, y2⟩, -⟩ := pack3 HE7.out
          rcases hcs with ⟨e1, e2, e3, e4⟩ | ⟨e1, e2, e3, e4, e5⟩
          · subst e1 e2 e3
            have HS7 : Veil _ := ⟨same_allocs (a := b') (p := p') (q := p2) (c := c') (d := c2) H7.out.at'.s HN7.out.f.sps (by have := H7.out.at'.ok.few; omega)⟩
            unfold Al.v at HS7
            have f5 : ((b'.high : Int) == (most : Int)) = true := by simp [e4]
            clear e4
            go_wp2_with fail
            go_at_call 37
            refine HS7.out.mono ?_
            rintro e w8 ⟨rfl, hb8⟩
            have H8 : Veil _ := ⟨H7.out.below hb8⟩
            clear a0 a1 a2 hb8
            obtain ⟨⟨a0, a1, a2⟩, -⟩ := pack3 H8.out.box
            go_wp2_with fail
            refine ⟨⟨k + 1, n, b', p', c', tk, by omega, by omega, by go_num, rfl, H8⟩, ?_⟩
            simp only [intOf]; omega
          · subst e1
            have HLV : Veil _ := ⟨e5⟩
            have HTL : Veil _ := ⟨H7.out.lv.len⟩
            have f5 : decide ((pg : Int) < 2) = false := by simp; omega
            have f6 : decide (most ≤ pg) = false := by simp; omega
            have hpg : pg < 200 := by have := HM.out; omega
            have hpg0 : (0 : Int) ≤ pg := by omega
            have hpg1 : (pg : Int) < 200 := by omega
            have HAr : Veil _ := ⟨H7.out.arr⟩
            have hc7 : W7.cell? ⟨B6 + 1, pg, none⟩ = some (.bool false) := by rw [cell_whole HAr.out, bools_at _ _ (by rw [HTL.out]; exact hpg), e4]
            have HRV : Veil (Calls Try.prog 35 #[.agg #[.int .u32 b'.high, .int .u32 b'.most, .slice p2 b'.l.length c2]] W7 fun e w' => e = .returned (.bool true) ∧ Below W7.heap.size W7 w') := ⟨by
              have h1 := aright_of (a := b') HN7.out.at'.s (fun x hx => (HN7.out.at'.old x hx).1) c2 ⟨HN7.out.ok⟩
              rw [HLV.out.right] at h1
              exact h1⟩
            clear e2 e3 e4 e5
            go_wp2_with fail
            go_at_call 35
            refine HRV.out.mono ?_
            rintro e w8 ⟨rfl, hb8⟩
            have H8 : Veil _ := ⟨H7.out.below hb8⟩
            have HN8 : Veil _ := ⟨HN7.out.below hb8⟩
            have HE8 : Veil _ := ⟨(hb8.block _ (lt_of_heap HE7.out)).trans HE7.out⟩
            clear a0 a1 a2 y0 y1 y2 hb8 hc7
            obtain ⟨⟨a0, a1, a2⟩, k0, k1, k2⟩ := pack3 H8.out.box
            obtain ⟨⟨y0, y1, y2⟩, -⟩ := pack3 HE8.out
            have hc8 : w8.cell? ⟨B6 + 1, pg, none⟩ = some (.bool (tk.getD pg false)) := by rw [cell_whole H8.out.arr, bools_at _ _ (by rw [HTL.out]; exact hpg)]
            have hf8 : w8.frozen? ⟨B6 + 1, pg, none⟩ = false := frozen_whole H8.out.arr _
            have hn6 : S6 ≠ B6 + 1 := by have := HS6.out; omega
            have hn6' : S6 ≠ B6 := by have := HS6.out; omega
            go_wp2_with fail
            refine ⟨⟨k + 1, n + 1, b', p2, c2, tk.set pg true, by omega, by omega, by go_num, rfl, ⟨H8.out.laid HN8.out H56.out (by omega) HW6.out pg true HLV.out⟩⟩, ?_⟩
            simp only [intOf]; omega
        · have fm : decide ((m : Int) < 2) = false := by simp; omega
          obtain ⟨q, hq, hq2⟩ := mod200 At
          have hq3 : (q : Int) % 4294967296 = (q : Int) := by omega
          have hq0 : (0 : Int) ≤ q := by omega
          have hq1 : (q : Int) < 200 := by omega
          have hlen5 : al.l.length < 100000 := by omega
          have HGK : Veil _ := ⟨give_any H5.out.at' hlen5 q N (by omega) HN0.out⟩
          have hcs := H5.out.lv.give HM.out.2 q N hq2
          clear hlen5
          revert HGK hcs
          generalize al.give q N = T
          obtain ⟨b', er⟩ := T
          intro HGK hcs
          unfold Al.v at HGK
          dsimp only at HGK hcs
          go_wp2_with fail
          go_at_call 33
          refine HGK.out.mono ?_
          rintro e w6 ⟨p2, c2, rfl, hN, hb6⟩
          unfold Al.v
          dsimp only
          obtain ⟨W7, hW7⟩ : ∃ W7, w6.alloc (.cells #[.int .u32 b'.high, .int .u32 b'.most, .slice p2 b'.l.length c2] 59) = W7 := ⟨_, rfl⟩
          obtain ⟨S6, hS6⟩ : ∃ S6, w6.heap.size = S6 := ⟨_, rfl⟩
          have hb7 : Below w6.heap.size w6 W7 := by rw [← hW7]; exact below_al (Below.refl _ _) _
          have HE7 : Veil (W7.heap[S6]? = some (.cells #[.int .u32 b'.high, .int .u32 b'.most, .slice p2 b'.l.length c2] 59 (0, 0))) := ⟨by rw [← hW7, ← hS6]; exact heap_alloc_new _ _⟩
          have H7 : Veil _ := ⟨(H5.out.below hb6).below hb7⟩
          have HD7 : Veil _ := ⟨(hb7.block _ (Nat.lt_of_lt_of_le (lt_of_heap HD5.out) hb6.size)).trans ((hb6.block _ (lt_of_heap HD5.out)).trans HD5.out)⟩
          have HN7 : Veil _ := ⟨hN.below hb7⟩
          have H56 : Veil (B6 < W5.heap.size ∧ B6 + 1 < W5.heap.size) := ⟨lt_of_heap H5.out.box, lt_of_heap H5.out.arr⟩
          have HS6 : Veil (B6 < S6 ∧ B6 + 1 < S6) := ⟨by rw [← hS6]; have h6 := H5.out.below hb6; exact ⟨lt_of_heap h6.box, lt_of_heap h6.arr⟩⟩
          clear hb6 hb7 hN HGK d0 d1 d2 a0 a1 a2
          obtain ⟨⟨a0, a1, a2⟩, k0, k1, k2⟩ := pack3 H7.out.box
          obtain ⟨⟨d0, d1, d2⟩, -⟩ := pack3 HD7.out
          obtain ⟨⟨y0, y1, y2⟩, -⟩ := pack3 HE7.out
          have HTL : Veil _ := ⟨H7.out.lv.len⟩
          have hc8 : W7.cell? ⟨B6 + 1, q, none⟩ = some (.bool (tk.getD q false)) := by rw [cell_whole H7.out.arr, bools_at _ _ (by rw [HTL.out]; exact hq2)]
          have hf8 : W7.frozen? ⟨B6 + 1, q, none⟩ = false := frozen_whole H7.out.arr _
          have hn6 : S6 ≠ B6 + 1 := by have := HS6.out; omega
          have hn6' : S6 ≠ B6 := by have := HS6.out; omega
          rcases hcs with ⟨e1, e2, e3, e4⟩ | ⟨e1, e2⟩
          · subst e3
            have HLV : Veil _ := ⟨e4⟩
            rw [e1] at hc8
            have fN : decide (0 < N) = true := by simp [e2]
            clear e1 e2 e4
            go_wp2_with fail
            refine ⟨⟨k + 1, n - 1, b', p2, c2, tk.set q false, by omega, by omega, by go_num, rfl, ⟨H7.out.laid HN7.out H56.out (by omega) HW6.out q false HLV.out⟩⟩, ?_⟩
            simp only [intOf]; omega
          · subst e2
            by_cases ht : tk.getD q false = true
            · rw [ht] at hc8
              have fN : N = 0 := by
                by_cases hN0 : N = 0
                · exact hN0
                · exact absurd ⟨ht, by omega⟩ e1
              subst fN
              clear e1 ht
              go_wp2_with fail
              refine ⟨⟨k + 1, n, al, p', c', tk, by omega, by omega, by go_num, rfl, H7⟩, ?_⟩
              simp only [intOf]; omega
            · rw [Bool.not_eq_true] at ht
              rw [ht] at hc8
              clear e1 ht
              go_wp2_with fail
              refine ⟨⟨k + 1, n, al, p', c', tk, by omega, by omega, by go_num, rfl, H7⟩, ?_⟩
              simp only [intOf]; omega
      · have H5 := hJ
        obtain ⟨⟨a0, a1, a2⟩, -⟩ := pack3 H5.out.box
        have hsum := H5.out.lv.sum
        have hbo := hbd
        by_cases hlt' : k < l.length
        · have f3 : decide ((k : Int) < 150) = false := by simp; omega
          have fs : (n + (al.l.length : Int) + 2 == (al.high : Int)) = true := by simp; omega
          clear hlt
          go_wp2_with fail
          go_ret
          exact ⟨rfl, H5.out.x⟩
        · have fs : (n + (al.l.length : Int) + 2 == (al.high : Int)) = true := by simp; omega
          clear hlt
          go_wp2_with fail
          go_ret
          exact ⟨rfl, H5.out.x⟩
end Go.Proofs.Ytapmppiiphbcpaa
