/- The document's own Decode of a meta. -/
import Derived.Test.YtghpcjkjhbafnaaKM4
import Derived.Test.YtghpcjkjhbafnaaKPA
namespace Go.Proofs.Ytghpcjkjhbafnaa
open Go Go.RowKit Sm
attribute [local go_sem] Oper.semAt_some

theorem refmenc_of (s : List UInt8) (h64 : s.length = 64) : ∃ (u : List UInt8) (c : Int), (∀ W, Calls Try.prog 31 #[(Mt.of s).v] W fun e w' => e = .returned (.tuple #[.string ⟨u.toArray⟩, .int .i64 c]) ∧ Below W.heap.size W w') ∧ ((c = 0 ∧ u = s) ↔ isMt s = true) ∧ (c = 0 ∨ c = 40) := by
  have he := fun W => refmencode_any (Mt.of s) ⟨Mt.of_ok s⟩ W
  unfold Mt.encR at he
  cases hr : (Mt.of s).right
  · refine ⟨[], 40, fun W => ?_, ?_, by simp⟩
    · have := he W
      rw [hr] at this
      simpa using this
    · simp [isMt, hr]
  · refine ⟨(Mt.of s).enc, 0, fun W => ?_, ?_, by simp⟩
    · have := he W
      rw [hr] at this
      simpa using this
    · simp [isMt, hr, h64]

set_option maxRecDepth 20000 in
set_option maxHeartbeats 2000000 in
theorem refmdecode_any (s : List UInt8) (hs : s.length ≤ 1000000) (w : World) : Calls Try.prog 35 #[.string ⟨s.toArray⟩] w fun e w' => e = .returned (decM s) ∧ Below w.heap.size w w' := by
  obtain ⟨W0, hW0⟩ : ∃ W0, w.alloc (.cells #[.int .u64 0, .int .u32 0, .int .u32 0, .int .u32 0] 60) = W0 := ⟨_, rfl⟩
  have hp0 : Veil (W0.heap[w.heap.size]? = some (.cells #[.int .u64 0, .int .u32 0, .int .u32 0, .int .u32 0] 60 (0, 0))) := ⟨by rw [← hW0]; exact heap_alloc_new _ _⟩
  have hz0 : Veil (w.heap.size < W0.heap.size) := ⟨by rw [← hW0]; simp⟩
  have hb0 : Veil (Below w.heap.size w W0) := ⟨by rw [← hW0]; exact below_al (Below.refl _ _) _⟩
  obtain ⟨R, hR⟩ : ∃ R, decM s = R := ⟨_, rfl⟩
  have HR : Veil _ := ⟨hR⟩
  rw [hR]
  clear hR
  by_cases h64 : s.length = 64
  · obtain ⟨u, c, hE, hU, hc0⟩ := refmenc_of s h64
    have HPu : Veil (R = if c = 0 ∧ u = s then .tuple #[(Mt.of s).v, .int .i64 0] else .tuple #[.agg #[.int .u64 0, .int .u32 0, .int .u32 0, .int .u32 0], .int .i64 40]) := ⟨by
      rw [← HR.out]; unfold decM mtOf
      by_cases h : isMt s = true
      · rw [if_pos h, if_pos h, if_pos (hU.2 h)]
      · rw [if_neg h, if_neg h, if_neg (fun hh => h (hU.1 hh))]; rfl⟩
    have GA : Veil (∀ (l : List UInt8), l.length ≤ 1000 → ∀ W, Calls Try.prog 65 #[.string ⟨l.toArray⟩] W fun e w' => e = .returned (.int .u64 (getB l)) ∧ W = w') := ⟨fun l hl W => get_any l (by omega) W⟩
    have X0 : (⟨s.toArray⟩ : ByteArray).extract 0 8 = ⟨(s.take 8).toArray⟩ := extract_list' s 0 8
    have X1 : (⟨s.toArray⟩ : ByteArray).extract 8 12 = ⟨((s.drop 8).take 4).toArray⟩ := extract_list' s 8 12
    have X2 : (⟨s.toArray⟩ : ByteArray).extract 12 16 = ⟨((s.drop 12).take 4).toArray⟩ := extract_list' s 12 16
    have X3 : (⟨s.toArray⟩ : ByteArray).extract 16 20 = ⟨((s.drop 16).take 4).toArray⟩ := extract_list' s 16 20
    have ho := Mt.of_ok s
    have k1 := ho.root
    have k2 := ho.high
    have k3 := ho.free
    unfold Mt.of Mt.v at *
    dsimp only at *
    have l0 : (s.take 8).length ≤ 1000 := by simp; omega
    have l1 : ((s.drop 8).take 4).length ≤ 1000 := by simp; omega
    have l2 : ((s.drop 12).take 4).length ≤ 1000 := by simp; omega
    have l3 : ((s.drop 16).take 4).length ≤ 1000 := by simp; omega
    have w1 : IntKind.u32.wrap ((getB ((s.drop 8).take 4) : Nat) : Int) = getB ((s.drop 8).take 4) := by rw [IntKind.wrap_u32']; omega
    have w2 : IntKind.u32.wrap ((getB ((s.drop 12).take 4) : Nat) : Int) = getB ((s.drop 12).take 4) := by rw [IntKind.wrap_u32']; omega
    have w3 : IntKind.u32.wrap ((getB ((s.drop 16).take 4) : Nat) : Int) = getB ((s.drop 16).take 4) := by rw [IntKind.wrap_u32']; omega
    clear HR hU ho k1 k2 k3
    revert hE HPu X0 X1 X2 X3 l0 l1 l2 l3 w1 w2 w3
    generalize s.take 8 = a0
    generalize (s.drop 8).take 4 = a1
    generalize (s.drop 12).take 4 = a2
    generalize (s.drop 16).take 4 = a3
    intro hE HPu X0 X1 X2 X3 l0 l1 l2 l3 w1 w2 w3
    have hE' : Veil _ := ⟨hE⟩
    clear hE
    go_enter Try.func35, Try.ntmps35
    go_wp2_with (go_at_call 65; refine (GA.out _ (by assumption) _).mono ?_; rintro e w2 ⟨rfl, rfl⟩)
    have hbR : Below W0.heap.size W0 W0.drew := (Below.refl _ _).drew
    go_region_held3 (fun W => Below W0.heap.size W0 W) (first | assumption | exact (below_al (Below.refl _ _) _).drew) (first | (go_at_call 65; refine (GA.out _ (by assumption) _).mono ?_; rintro e w2 ⟨rfl, rfl⟩))
    all_goals
      clear hbR
      obtain ⟨W4, hW4⟩ : ∃ W4, (W0.alloc (.cells #[.int .u64 (getB a0), .int .u32 (getB a1), .int .u32 (getB a2), .int .u32 (getB a3)] 60)).drew = W4 := ⟨_, rfl⟩
      rw [hW4]
      have hp4 : W4.heap[W0.heap.size]? = some (.cells #[.int .u64 (getB a0), .int .u32 (getB a1), .int .u32 (getB a2), .int .u32 (getB a3)] 60 (0, 0)) := by rw [← hW4]; exact heap_alloc_new _ _
      have HP4 : Veil (W4.heap[w.heap.size]? = some (.cells #[.int .u64 0, .int .u32 0, .int .u32 0, .int .u32 0] 60 (0, 0))) := ⟨by rw [← hW4]; exact (Below.heap_alloc _ _ _ hz0.out).trans hp0.out⟩
      have HB4 : Veil (Below w.heap.size w W4) := ⟨by rw [← hW4]; exact (below_al hb0.out _).drew⟩
      have HZ4 : Veil (w.heap.size < W4.heap.size ∧ W0.heap.size < W4.heap.size) := ⟨by rw [← hW4]; have := hz0.out; simp; omega⟩
      obtain ⟨⟨y0, y1, y2, y3⟩, -⟩ := pack4 hp4
      have HY4 : Veil _ := ⟨hp4⟩
      obtain ⟨B6, hB6⟩ : ∃ B6, W0.heap.size = B6 := ⟨_, rfl⟩
      have HZ5 : Veil (B6 < W4.heap.size ∧ W4.heap[B6]? = some (.cells #[.int .u64 (getB a0), .int .u32 (getB a1), .int .u32 (getB a2), .int .u32 (getB a3)] 60 (0, 0))) := ⟨by rw [← hB6]; exact ⟨HZ4.out.2, HY4.out⟩⟩
      rw [hB6] at y0 y1 y2 y3 ⊢
      clear hW4 hp4 hB6 hW0 HY4 w1 w2 w3
      rcases hc0 with rfl | rfl
      · by_cases hus : u = s
        · have hP := HPu.out
          rw [if_pos ⟨rfl, hus⟩] at hP
          subst hP
          subst hus
          go_wp2_with (go_at_call 31; refine (hE'.out _).mono ?_; rintro e w5 ⟨rfl, hb5⟩; have hp5 : Veil _ := ⟨(hb5.block w.heap.size HZ4.out.1).trans HP4.out⟩; obtain ⟨⟨q0, q1, q2, q3⟩, f0, f1, f2, f3⟩ := pack4 hp5.out; obtain ⟨⟨z0, z1, z2, z3⟩, -⟩ := pack4 ((hb5.block B6 HZ5.out.1).trans HZ5.out.2))
          exact bodyPost_ret (results_meta2 (g := w.heap.size) rfl rfl rfl (set4 hp5.out _ _ _ _)) rfl ⟨rfl, turn4 (HB4.out.trans (hb5.mono HB4.out.size)) (Nat.le_refl _) _ _ _ _⟩
        · have hP := HPu.out
          rw [if_neg (fun h => hus h.2)] at hP
          subst hP
          have heq : (u == s) = false := by simpa using hus
          go_wp2_with (go_at_call 31; refine (hE'.out _).mono ?_; rintro e w5 ⟨rfl, hb5⟩; have hp5 : Veil _ := ⟨(hb5.block w.heap.size HZ4.out.1).trans HP4.out⟩; obtain ⟨⟨q0, q1, q2, q3⟩, f0, f1, f2, f3⟩ := pack4 hp5.out; obtain ⟨⟨z0, z1, z2, z3⟩, -⟩ := pack4 ((hb5.block B6 HZ5.out.1).trans HZ5.out.2))
          exact bodyPost_ret (results_meta2 (g := w.heap.size) rfl rfl rfl (set4 hp5.out _ _ _ _)) rfl ⟨rfl, turn4 (HB4.out.trans (hb5.mono HB4.out.size)) (Nat.le_refl _) _ _ _ _⟩
      · have hP := HPu.out
        rw [if_neg (fun h => absurd h.1 (by decide))] at hP
        subst hP
        go_wp2_with (go_at_call 31; refine (hE'.out _).mono ?_; rintro e w5 ⟨rfl, hb5⟩; have hp5 : Veil _ := ⟨(hb5.block w.heap.size HZ4.out.1).trans HP4.out⟩; obtain ⟨⟨q0, q1, q2, q3⟩, f0, f1, f2, f3⟩ := pack4 hp5.out; obtain ⟨⟨z0, z1, z2, z3⟩, -⟩ := pack4 ((hb5.block B6 HZ5.out.1).trans HZ5.out.2))
        exact bodyPost_ret (results_meta2 (g := w.heap.size) rfl rfl rfl (set4 hp5.out _ _ _ _)) rfl ⟨rfl, turn4 (HB4.out.trans (hb5.mono HB4.out.size)) (Nat.le_refl _) _ _ _ _⟩
  · have e0 : R = .tuple #[.agg #[.int .u64 0, .int .u32 0, .int .u32 0, .int .u32 0], .int .i64 40] := by rw [← HR.out]; unfold decM mtOf isMt; simp [h64]; rfl
    subst e0
    have h64' : ¬ (s.length : Int) = 64 := by omega
    clear HR hW0 h64
    go_enter Try.func35, Try.ntmps35
    go_wp2
    exact bodyPost_ret (results_meta2 (g := w.heap.size) rfl rfl rfl (heap_alloc_new _ _)) rfl ⟨rfl, below_al (Below.refl _ _) _⟩
end Go.Proofs.Ytghpcjkjhbafnaa
