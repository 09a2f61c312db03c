/- The walk of Decode. -/
import Derived.Laws.ResultCell
import Derived.Test.YtapmppiiphbcpaaKP9
namespace Go.Proofs.Ytapmppiiphbcpaa
open Go Go.RowKit Sm
attribute [local go_sem] Oper.semAt_some

def decR (s : List UInt8) : Value := .tuple #[(pgOf s).v, .int .i64 (if isPg s then 0 else 30)]

theorem results_page2 {fn : Func} {p q : Tmp} {tmps : Array Value} {w : World} {g : Nat} {x0 x1 x2 x3 y : Value} (h : fn.results = #[.cell p 49, .tmp q]) (hp : tmps.getD p undef = .pointer (some ⟨g, 0, none⟩)) (hq : tmps.getD q undef = y) (hg : w.heap[g]? = some (.cells #[x0, x1, x2, x3] 49 (0, 0))) :
    (results fn tmps).run Try.prog w = .ok (.tuple #[.agg #[x0, x1, x2, x3], y]) w := by
  rw [results_cell_tmp h]
  have hp' : tmps[p]?.getD undef = .pointer (some ⟨g, 0, none⟩) := by simpa using hp
  have hq' : tmps[q]?.getD undef = y := by simpa using hq
  simp [hp', hq', asAddr, run_loadVar_row w g 49 49 #[x0, x1, x2, x3] (0, 0) _ hg Try.underlying49 rfl info_page]

set_option maxRecDepth 20000 in
set_option maxHeartbeats 2000000 in
theorem decode_any (s : List UInt8) (hs : s.length ≤ 1000000) (w : World) : Calls Try.prog 56 #[.string ⟨s.toArray⟩] w fun e w' => e = .returned (decR s) ∧ Below w.heap.size w w' := by
  have hF : Veil (∀ w, Calls Try.prog 80 #[.string ⟨s.toArray⟩] w fun e w' => e = .returned (pgOf s).v ∧ Below w.heap.size w w') := ⟨found_any s hs⟩
  obtain ⟨W0, hW0⟩ : ∃ W0, w.alloc (.cells #[.int .i64 0, .int .u32 0, .int .u64 0, .string ⟨#[]⟩] 49) = W0 := ⟨_, rfl⟩
  have hp0 : Veil (W0.heap[w.heap.size]? = some (.cells #[.int .i64 0, .int .u32 0, .int .u64 0, .string ⟨#[]⟩] 49 (0, 0))) := ⟨by rw [← hW0]; exact heap_alloc_new _ _⟩
  have hz0 : Veil (w.heap.size < W0.heap.size) := ⟨by rw [← hW0]; simp⟩
  have hb0 : Veil (Below w.heap.size w W0) := ⟨by rw [← hW0]; exact below_al (Below.refl _ _) _⟩
  unfold decR
  cases hi : isPg s
  · have e0 : pgOf s = Pg.zero := by unfold pgOf; simp [hi]
    have hF0 : Veil (∀ w, Calls Try.prog 80 #[.string ⟨s.toArray⟩] w fun e w' => e = .returned (.agg #[.int .i64 0, .int .u32 0, .int .u64 0, .string ⟨#[]⟩]) ∧ Below w.heap.size w w') := ⟨fun w => by have := hF.out w; rw [e0] at this; exact this⟩
    rw [e0]
    show Calls _ _ _ _ fun e w' => e = .returned (.tuple #[.agg #[.int .i64 0, .int .u32 0, .int .u64 0, .string ⟨#[]⟩], .int .i64 30]) ∧ Below w.heap.size w w'
    clear e0 hi hF
    go_enter Try.func56, Try.ntmps56
    go_wp2_with (go_at_call 80; refine (hF0.out _).mono ?_; rintro e w2 ⟨rfl, hb2⟩; have hp2 : Veil _ := ⟨(hb2.block w.heap.size hz0.out).trans hp0.out⟩; have hz2 : w.heap.size < w2.heap.size := Nat.lt_of_lt_of_le hz0.out hb2.size; obtain ⟨⟨q0, q1, q2, q3⟩, f0, f1, f2, f3⟩ := pack4 hp2.out)
    exact bodyPost_ret (results_page2 (g := w.heap.size) rfl rfl rfl (by rw [Below.heap_alloc _ _ _ (by simpa using hz2)]; exact set4 hp2.out _ _ _ _)) rfl ⟨rfl, below_al (turn4 (hb0.out.trans (hb2.mono hb0.out.size)) (Nat.le_refl _) _ _ _ _) _⟩
  · have hr : (Pg.of s).right = true := by simp [isPg] at hi; exact hi.1.2
    have e0 : pgOf s = Pg.of s := by unfold pgOf; simp [hi]
    rw [e0] at hF ⊢
    have ht1 : 1 ≤ (Pg.of s).tx := ((Pg.of s).right_iff.1 hr).2.2.2.2.1
    clear e0 hi hr
    revert hF ht1
    generalize Pg.of s = pg
    intro hF ht1
    obtain ⟨k, i, t, b⟩ := pg
    have ht1 : 1 ≤ t := ht1
    unfold Pg.v at hF ⊢
    dsimp only at hF ⊢
    rw [if_pos rfl]
    obtain ⟨T, hT⟩ : ∃ T : Int, (t : Int) = T := ⟨_, rfl⟩
    have ht0 : (T == 0) = false := by simp; omega
    rw [hT] at hF ⊢
    clear hT ht1
    go_enter Try.func56, Try.ntmps56
    go_wp2_with (go_at_call 80; refine (hF.out _).mono ?_; rintro e w2 ⟨rfl, hb2⟩; have hp2 : Veil _ := ⟨(hb2.block w.heap.size hz0.out).trans hp0.out⟩; have hz2 : w.heap.size < w2.heap.size := Nat.lt_of_lt_of_le hz0.out hb2.size; obtain ⟨⟨q0, q1, q2, q3⟩, f0, f1, f2, f3⟩ := pack4 hp2.out)
    exact bodyPost_ret (results_page2 (g := w.heap.size) rfl rfl rfl (by rw [Below.heap_alloc _ _ _ (by simpa using hz2)]; exact set4 hp2.out _ _ _ _)) rfl ⟨rfl, below_al (turn4 (hb0.out.trans (hb2.mono hb0.out.size)) (Nat.le_refl _) _ _ _ _) _⟩
end Go.Proofs.Ytapmppiiphbcpaa

/- The walk of the document's own Decode. -/
namespace Go.Proofs.Ytapmppiiphbcpaa
open Go Go.RowKit Sm
attribute [local go_sem] Oper.semAt_some

theorem refenc_of (s : List UInt8) (h256 : s.length = 256) (hn1 : lenOf s ≤ 237) : ∃ (u : List UInt8) (c : Int), (∀ W, Calls Try.prog 59 #[(Pg.of s).v] W fun e w' => e = .returned (.tuple #[.string ⟨u.toArray⟩, .int .i64 c]) ∧ Below W.heap.size W w') ∧ ((c = 0 ∧ u = s) ↔ isPg s = true) ∧ (c = 0 ∨ c = 30) := by
  have he := fun W => refencode_any (Pg.of s) ⟨Pg.of_ok s hn1⟩ W
  unfold Pg.encR at he
  cases hr : (Pg.of s).right
  · refine ⟨[], 30, fun W => ?_, ?_, by simp⟩
    · have := he W
      rw [hr] at this
      simpa using this
    · simp [isPg, hr]
  · refine ⟨(Pg.of s).enc, 0, fun W => ?_, ?_, by simp⟩
    · have := he W
      rw [hr] at this
      simpa using this
    · simp [isPg, hr, h256, hn1]

theorem extract_list' (s : List UInt8) (a b : Nat) : (⟨s.toArray⟩ : ByteArray).extract a b = ⟨((s.drop a).take (b - a)).toArray⟩ := by
  apply ByteArray.ext
  simp [ByteArray.data_extract]
theorem index_zero (s : List UInt8) (c : UInt8) (h : 0 < s.length) (hc : (⟨s.toArray⟩ : ByteArray)[0]'(by simpa [ByteArray.size] using h) = c) (W : World) : (Instr.index 9 (.string ⟨s.toArray⟩) (.int .i64 0)).run Try.prog W = .ok (.int .u8 c.toNat) W := by
  rw [run_index_string _ _ _ _ _ Try.underlying9]
  have h' : (0 : Int) ≤ 0 ∧ (0 : Int) < ((⟨s.toArray⟩ : ByteArray).size : Int) := by simp only [ByteArray.size, List.size_toArray]; omega
  rw [dif_pos h']
  have : (⟨s.toArray⟩ : ByteArray)[(0 : Int).toNat]'(by simpa [ByteArray.size] using h) = c := hc
  rw [this]
theorem wrap_c (c : UInt8) : wrap64 (c.toNat : Int) = c.toNat := by have := c.toNat_lt; unfold wrap64; omega
theorem wrapi_c (c : UInt8) : IntKind.i64.wrap (c.toNat : Int) = c.toNat := by have := c.toNat_lt; rw [IntKind.wrap_i64]; omega
theorem getB_one (s : List UInt8) (h : 0 < s.length) : getB (s.take 1) = (s.getD 0 0).toNat := by
  cases s with
  | nil => simp at h
  | cons x l => simp [getB, shl64]

set_option maxRecDepth 20000 in
set_option maxHeartbeats 2000000 in
theorem refdecode_any (s : List UInt8) (hs : s.length ≤ 1000000) (w : World) : Calls Try.prog 61 #[.string ⟨s.toArray⟩] w fun e w' => e = .returned (decR s) ∧ Below w.heap.size w w' := by
  obtain ⟨W0, hW0⟩ : ∃ W0, w.alloc (.cells #[.int .i64 0, .int .u32 0, .int .u64 0, .string ⟨#[]⟩] 49) = W0 := ⟨_, rfl⟩
  have hp0 : Veil (W0.heap[w.heap.size]? = some (.cells #[.int .i64 0, .int .u32 0, .int .u64 0, .string ⟨#[]⟩] 49 (0, 0))) := ⟨by rw [← hW0]; exact heap_alloc_new _ _⟩
  have hz0 : Veil (w.heap.size < W0.heap.size) := ⟨by rw [← hW0]; simp⟩
  have hb0 : Veil (Below w.heap.size w W0) := ⟨by rw [← hW0]; exact below_al (Below.refl _ _) _⟩
  obtain ⟨R, hR⟩ : ∃ R, decR s = R := ⟨_, rfl⟩
  have HR : Veil _ := ⟨hR⟩
  rw [hR]
  clear hR
  by_cases h256 : s.length = 256
  · have G2 : Veil (∀ W, Calls Try.prog 71 #[.string ⟨((s.drop 13).take 2).toArray⟩] W fun e w' => e = .returned (.int .u64 (lenOf s)) ∧ W = w') := ⟨fun W => get_any _ (by simp; omega) W⟩
    have X2 : (⟨s.toArray⟩ : ByteArray).extract 13 15 = ⟨((s.drop 13).take 2).toArray⟩ := extract_list' s 13 15
    have hl1 : lenOf s < 65536 := by have := getB_pow ((s.drop 13).take 2); simpa [h256, lenOf] using this
    by_cases hn1 : lenOf s ≤ 237
    · obtain ⟨u, c, hE, hU, hc0⟩ := refenc_of s h256 hn1
      have HPu : Veil (R = if c = 0 ∧ u = s then .tuple #[(Pg.of s).v, .int .i64 0] else .tuple #[.agg #[.int .i64 0, .int .u32 0, .int .u64 0, .string ⟨#[]⟩], .int .i64 30]) := ⟨by
        rw [← HR.out]; unfold decR pgOf
        by_cases h : isPg s = true
        · rw [if_pos h, if_pos h, if_pos (hU.2 h)]
        · rw [if_neg h, if_neg h, if_neg (fun hh => h (hU.1 hh))]; rfl⟩
      have hk1 : getB (s.take 1) = (s.getD 0 0).toNat := getB_one s (by omega)
      have hci : (⟨s.toArray⟩ : ByteArray)[0]'(by simp [ByteArray.size, h256]) = s.getD 0 0 := by
        simp [List.getD, h256]
        rfl
      have GA : Veil (∀ (l : List UInt8), l.length ≤ 1000 → ∀ W, Calls Try.prog 71 #[.string ⟨l.toArray⟩] W fun e w' => e = .returned (.int .u64 (getB l)) ∧ W = w') := ⟨fun l hl W => get_any l (by omega) W⟩
      have X1 : (⟨s.toArray⟩ : ByteArray).extract 1 5 = ⟨((s.drop 1).take 4).toArray⟩ := extract_list' s 1 5
      have X3 : (⟨s.toArray⟩ : ByteArray).extract 5 13 = ⟨((s.drop 5).take 8).toArray⟩ := extract_list' s 5 13
      have X4 : (⟨s.toArray⟩ : ByteArray).extract 15 (15 + lenOf s) = ⟨((s.drop 15).take (lenOf s)).toArray⟩ := by rw [extract_list']; simp
      have hi1 : getB ((s.drop 1).take 4) < 4294967296 := by have := getB_pow ((s.drop 1).take 4); simpa [h256] using this
      have hof : Pg.of s = ⟨(s.getD 0 0).toNat, getB ((s.drop 1).take 4), getB ((s.drop 5).take 8), (s.drop 15).take (lenOf s)⟩ := by rw [← hk1]; rfl
      rw [hof] at HPu hE
      have l1 : ((s.drop 1).take 4).length = 4 := by simp [h256]
      have l3 : ((s.drop 5).take 8).length = 8 := by simp [h256]
      have lL : lenOf s = getB ((s.drop 13).take 2) := rfl
      have l2 : ((s.drop 13).take 2).length = 2 := by simp [h256]
      clear hof hk1 HR hU G2
      unfold Pg.v at hE HPu
      dsimp only at hE HPu
      revert hl1 hn1 hE HPu hci X1 X2 X3 X4 hi1 l1 l3 lL l2
      generalize s.getD 0 0 = c1
      generalize (s.drop 15).take (lenOf s) = bd
      generalize lenOf s = n1
      generalize (s.drop 1).take 4 = a1
      generalize (s.drop 5).take 8 = a3
      generalize (s.drop 13).take 2 = a2
      intro X2 hl1 hn1 hE HPu hci X1 X3 X4 hi1 l1 l3 lL l2
      have hE' : Veil _ := ⟨hE⟩
      have hix := index_zero s c1 (by omega) hci
      have HCI : Veil _ := ⟨hci⟩
      have k1 : a1.length ≤ 1000 := by omega
      have k2 : a2.length ≤ 1000 := by omega
      have k3 : a3.length ≤ 1000 := by omega
      have lL' : getB a2 = n1 := lL.symm
      have hw2 : IntKind.u32.wrap ((getB a1 : Nat) : Int) = getB a1 := by rw [IntKind.wrap_u32']; omega
      have hw3 : IntKind.i64.wrap (15 + (n1 : Int)) = 15 + n1 := by rw [IntKind.wrap_i64]; omega
      have hw4 : (15 + (n1 : Int)).toNat = 15 + n1 := by omega
      have hw5 : (15 + (n1 : Int)) ≤ 256 := by omega
      have hw6 : 0 ≤ 15 + (n1 : Int) := by omega
      have hw7 : (15 : Int) ≤ 15 + n1 := by omega
      have hw8 : 15 + n1 ≤ 256 := by omega
      have hw9 : 15 ≤ 15 + n1 := by omega
      have hw1 := wrap_c c1
      have hw1b := wrapi_c c1
      have hn237 : ¬ (237 : Int) < n1 := by omega
      clear hE l1 l3 l2 lL hn1 hl1
      go_enter Try.func61, Try.ntmps61
      go_wp2_with (go_at_call 71; refine (GA.out _ (by assumption) _).mono ?_; rintro e w2 ⟨rfl, rfl⟩)
      have hbR : Below W0.heap.size W0 W0.drew := (Below.refl _ _).drew
      go_region_held3 (fun W => Below W0.heap.size W0 W) (first | assumption | exact (below_al (Below.refl _ _) _).drew) (first | (go_at_call 71; refine (GA.out _ (by assumption) _).mono ?_; rintro e w2 ⟨rfl, rfl⟩))
      all_goals
        clear hbR
        obtain ⟨W4, hW4⟩ : ∃ W4, (W0.alloc (.cells #[.int .i64 c1.toNat, .int .u32 (getB a1), .int .u64 (getB a3), .string ⟨bd.toArray⟩] 49)).drew = W4 := ⟨_, rfl⟩
        rw [hW4]
        have hp4 : W4.heap[W0.heap.size]? = some (.cells #[.int .i64 c1.toNat, .int .u32 (getB a1), .int .u64 (getB a3), .string ⟨bd.toArray⟩] 49 (0, 0)) := by rw [← hW4]; exact heap_alloc_new _ _
        have HP4 : Veil (W4.heap[w.heap.size]? = some (.cells #[.int .i64 0, .int .u32 0, .int .u64 0, .string ⟨#[]⟩] 49 (0, 0))) := ⟨by rw [← hW4]; exact (Below.heap_alloc _ _ _ hz0.out).trans hp0.out⟩
        have HB4 : Veil (Below w.heap.size w W4) := ⟨by rw [← hW4]; exact (below_al hb0.out _).drew⟩
        have HZ4 : Veil (w.heap.size < W4.heap.size ∧ W0.heap.size < W4.heap.size) := ⟨by rw [← hW4]; have := hz0.out; simp; omega⟩
        obtain ⟨⟨y0, y1, y2, y3⟩, -⟩ := pack4 hp4
        have HY4 : Veil _ := ⟨hp4⟩
        obtain ⟨B6, hB6⟩ : ∃ B6, W0.heap.size = B6 := ⟨_, rfl⟩
        have HZ5 : Veil (B6 < W4.heap.size ∧ W4.heap[B6]? = some (.cells #[.int .i64 c1.toNat, .int .u32 (getB a1), .int .u64 (getB a3), .string ⟨bd.toArray⟩] 49 (0, 0))) := ⟨by rw [← hB6]; exact ⟨HZ4.out.2, HY4.out⟩⟩
        rw [hB6] at y0 y1 y2 y3 ⊢
        clear hW4 hp4 hB6 hW0 HY4 hw1 hw1b hw2 hw3 hw4 hw5 hw6 hw7 hw8 hw9 hn237 hci
        rcases hc0 with rfl | rfl
        · by_cases hus : u = s
          · have hP := HPu.out
            rw [if_pos ⟨rfl, hus⟩] at hP
            subst hP
            subst hus
            go_wp2_with (go_at_call 59; refine (hE'.out _).mono ?_; rintro e w5 ⟨rfl, hb5⟩; have hp5 : Veil _ := ⟨(hb5.block w.heap.size HZ4.out.1).trans HP4.out⟩; obtain ⟨⟨q0, q1, q2, q3⟩, f0, f1, f2, f3⟩ := pack4 hp5.out; obtain ⟨⟨z0, z1, z2, z3⟩, -⟩ := pack4 ((hb5.block B6 HZ5.out.1).trans HZ5.out.2))
            exact bodyPost_ret (results_page2 (g := w.heap.size) rfl rfl rfl (set4 hp5.out _ _ _ _)) rfl ⟨rfl, turn4 (HB4.out.trans (hb5.mono HB4.out.size)) (Nat.le_refl _) _ _ _ _⟩
          · have hP := HPu.out
            rw [if_neg (fun h => hus h.2)] at hP
            subst hP
            have heq : (u == s) = false := by simpa using hus
            go_wp2_with (go_at_call 59; refine (hE'.out _).mono ?_; rintro e w5 ⟨rfl, hb5⟩; have hp5 : Veil _ := ⟨(hb5.block w.heap.size HZ4.out.1).trans HP4.out⟩; obtain ⟨⟨q0, q1, q2, q3⟩, f0, f1, f2, f3⟩ := pack4 hp5.out; obtain ⟨⟨z0, z1, z2, z3⟩, -⟩ := pack4 ((hb5.block B6 HZ5.out.1).trans HZ5.out.2))
            exact bodyPost_ret (results_page2 (g := w.heap.size) rfl rfl rfl (set4 hp5.out _ _ _ _)) rfl ⟨rfl, turn4 (HB4.out.trans (hb5.mono HB4.out.size)) (Nat.le_refl _) _ _ _ _⟩
        · have hP := HPu.out
          rw [if_neg (fun h => absurd h.1 (by decide))] at hP
          subst hP
          go_wp2_with (go_at_call 59; refine (hE'.out _).mono ?_; rintro e w5 ⟨rfl, hb5⟩; have hp5 : Veil _ := ⟨(hb5.block w.heap.size HZ4.out.1).trans HP4.out⟩; obtain ⟨⟨q0, q1, q2, q3⟩, f0, f1, f2, f3⟩ := pack4 hp5.out; obtain ⟨⟨z0, z1, z2, z3⟩, -⟩ := pack4 ((hb5.block B6 HZ5.out.1).trans HZ5.out.2))
          exact bodyPost_ret (results_page2 (g := w.heap.size) rfl rfl rfl (set4 hp5.out _ _ _ _)) rfl ⟨rfl, turn4 (HB4.out.trans (hb5.mono HB4.out.size)) (Nat.le_refl _) _ _ _ _⟩
    · have e0 : R = .tuple #[.agg #[.int .i64 0, .int .u32 0, .int .u64 0, .string ⟨#[]⟩], .int .i64 30] := by rw [← HR.out]; unfold decR pgOf isPg; simp [hn1]; rfl
      subst e0
      revert hl1 hn1 G2
      generalize lenOf s = n1
      intro G2 hl1 hn1
      have hn1' : (237 : Int) < n1 := by omega
      obtain ⟨⟨q0, q1, q2, q3⟩, f0, f1, f2, f3⟩ := pack4 hp0.out
      clear hn1 HR
      go_enter Try.func61, Try.ntmps61
      go_wp2_with (go_at_call 71; refine (G2.out _).mono ?_; rintro e w2 ⟨rfl, rfl⟩)
      exact bodyPost_ret (results_page2 (g := w.heap.size) rfl rfl rfl (set4 hp0.out _ _ _ _)) rfl ⟨rfl, turn4 hb0.out (Nat.le_refl _) _ _ _ _⟩
  · have e0 : R = .tuple #[.agg #[.int .i64 0, .int .u32 0, .int .u64 0, .string ⟨#[]⟩], .int .i64 30] := by rw [← HR.out]; unfold decR pgOf isPg; simp [h256]; rfl
    subst e0
    clear HR hW0
    go_enter Try.func61, Try.ntmps61
    go_wp2
    exact bodyPost_ret (results_page2 (g := w.heap.size) rfl rfl rfl (heap_alloc_new _ _)) rfl ⟨rfl, below_al (Below.refl _ _) _⟩
end Go.Proofs.Ytapmppiiphbcpaa
