/- The document's own Store and Load of metas. -/
import Derived.Test.YtghpcjkjhbafnaaKEA
import Derived.Test.YtghpcjkjhbafnaaKM8
namespace Go.Proofs.Ytghpcjkjhbafnaa
open Go Go.RowKit Sm
attribute [local go_sem] Oper.semAt_some

set_option maxRecDepth 20000 in
set_option maxHeartbeats 2000000 in
theorem rstore_any {w : World} {r : Nat} {vs vw vb : Value} {R : Dk} (h : RefAt w r vs vw vb R) (m : Mt) (hm : m.Ok) (hu : R.uns.length ≤ 1000000) (ho : R.ops ≤ 1000000) :
    Calls Try.prog 37 #[.pointer (some ⟨r, 0, none⟩), m.v] w fun e w' => RefPost w r vs vw vb (stoD R m) e (.int .i64 (stoC R m)) w' := by
  unfold stoD stoC
  cases hr : m.right
  · have hE : Veil (∀ w, Calls Try.prog 31 #[m.v] w fun e w' => e = .returned (.tuple #[.string ⟨#[]⟩, .int .i64 40]) ∧ Below w.heap.size w w') := ⟨fun w => by
      have := refmencode_any m ⟨hm⟩ w
      unfold Mt.encR at this
      rwa [hr, if_neg (by decide)] at this⟩
    have HR : Veil (∀ w', Below w.heap.size w w' → RefPost w r vs vw vb R (.returned (.int .i64 40)) (.int .i64 40) w') := ⟨fun w' hb => RefPost.same h rfl hb⟩
    clear hm hr h hu ho
    obtain ⟨t, a, hh, f⟩ := m
    unfold Mt.v at *
    dsimp only at *
    go_enter Try.func37, Try.ntmps37
    go_wp2_with (go_at_call 31; refine (hE.out _).mono ?_; rintro e w2 ⟨rfl, hb2⟩)
    go_ret
    exact HR.out _ (blw_then (below_al (Below.refl _ w) _) (hb2.mono (by simp)))
  · have hE : Veil (∀ w, Calls Try.prog 31 #[m.v] w fun e w' => e = .returned (.tuple #[.string ⟨m.enc.toArray⟩, .int .i64 0]) ∧ Below w.heap.size w w') := ⟨fun w => by
      have := refmencode_any m ⟨hm⟩ w
      unfold Mt.encR at this
      rwa [hr, if_pos rfl] at this⟩
    clear hm hr
    generalize m.enc = E at *
    obtain ⟨t, a, hh, f⟩ := m
    unfold Mt.v at *
    dsimp only at *
    have e0 : ((t : Int)).tmod 2 = ((t % 2 : Nat) : Int) := by rw [Int.tmod_eq_emod_of_nonneg (by omega)]; omega
    have h2 : t % 2 < 2 := Nat.mod_lt _ (by decide)
    have hsec : ((secM t : Nat) : Int) = 4 * ((t % 2 : Nat) : Int) := by unfold secM; omega
    have HW : Veil (∀ W : World, Below w.heap.size w W → Calls Try.prog 39 #[.pointer (some ⟨r, 0, none⟩), .int .i64 (4 * ((t % 2 : Nat) : Int)), .string ⟨E.toArray⟩] W fun e w' => RefPost w r vs vw vb (R.wr (secM t : Nat) E) e (.int .i64 (R.wrc (secM t : Nat) E)) w') := ⟨fun W hb => by
      have := (rwr_any (h.kept' (Turned.new hb : Turned (fun _ => False) w W) (fun _ => False.elim)) (secM t : Nat) E hu ho).mono fun e w' hp => rpost_ahead hb hp
      rwa [hsec] at this ⊢⟩
    clear h hu ho hsec
    simp only [if_true]
    generalize R.wr (secM t : Nat) E = R' at *
    generalize R.wrc (secM t : Nat) E = c at *
    generalize t % 2 = q at *
    have e2 : IntKind.i64.wrap (q : Int) = q := by rw [IntKind.wrap_i64]; omega
    have e3 : IntKind.u64.wrap (q : Int) = q := by rw [IntKind.wrap_u64]; omega
    have e4 : IntKind.i64.wrap (4 * (q : Int)) = 4 * q := by rw [IntKind.wrap_i64]; omega
    obtain ⟨W0, hW0⟩ : ∃ W0, w.alloc (.cells #[.int .u64 t, .int .u32 a, .int .u32 hh, .int .u32 f] 60) = W0 := ⟨_, rfl⟩
    have hp0 : Veil (W0.heap[w.heap.size]? = some (.cells #[.int .u64 t, .int .u32 a, .int .u32 hh, .int .u32 f] 60 (0, 0))) := ⟨by rw [← hW0]; exact heap_alloc_new _ _⟩
    have hz0 : Veil (w.heap.size < W0.heap.size) := ⟨by rw [← hW0]; simp⟩
    have hb0 : Veil (Below w.heap.size w W0) := ⟨by rw [← hW0]; exact below_al (Below.refl _ _) _⟩
    obtain ⟨⟨x0, x1, x2, x3⟩, -⟩ := pack4 hp0.out
    go_enter Try.func37, Try.ntmps37
    go_wp2_with (first
      | (go_at_call 31; refine (hE.out _).mono ?_; rintro e w2 ⟨rfl, hb2⟩; have hp2 : Veil _ := ⟨(hb2.block w.heap.size hz0.out).trans hp0.out⟩; obtain ⟨⟨y0, y1, y2, y3⟩, -⟩ := pack4 hp2.out)
      | (go_at_call 39; refine (HW.out _ (blw_then hb0.out hb2)).mono ?_; rintro e w4 hw4; obtain ⟨rfl, hw5⟩ := And.intro hw4.1 hw4))
    go_ret
    exact hw5

theorem betterM_zero (a : Mt) : betterM a Mt.zero = a := if_neg (Nat.not_lt_zero _)
structure RLdI (w : World) (B1 B2 : Nat) (last : Mt) (A : World) : Prop where
  rs : A.heap[B1]? = some (.cells #[.int .u64 0, .int .u32 0, .int .u32 0, .int .u32 0] 60 (0, 0))
  la : A.heap[B2]? = some (.cells #[.int .u64 last.tx, .int .u32 last.root, .int .u32 last.high, .int .u32 last.free] 60 (0, 0))
  t : Below w.heap.size w A

theorem RLdI.below {w A A' : World} {B1 B2 : Nat} {last : Mt} (h : RLdI w B1 B2 last A) (hb : Below A.heap.size A A') : RLdI w B1 B2 last A' :=
  ⟨(hb.block B1 (lt_of_heap h.rs)).trans h.rs, (hb.block B2 (lt_of_heap h.la)).trans h.la, blw_then h.t hb⟩
set_option maxRecDepth 20000 in
set_option maxHeartbeats 4000000 in
theorem rload_any {w : World} {r : Nat} {vs vw vb : Value} {R : Dk} (h : RefAt w r vs vw vb R) (hi : R.Inv) (_h1L : 1 ≤ R.kept.length) (h64 : ∀ k, k < R.kept.length → (R.seen.getD k []).length ≤ 1000) (hm : R.uns.length ≤ 1000000) :
    Calls Try.prog 41 #[.pointer (some ⟨r, 0, none⟩)] w fun e w' => e = .returned (loadMV R) ∧ Below w.heap.size w w' := by
  have HRd : Veil (∀ (A : World) (k : Nat), Below w.heap.size w A → Calls Try.prog 22 #[.pointer (some ⟨r, 0, none⟩), .int .i64 (4 * (k : Int))] A fun e w' => e = .returned (readR R (4 * (k : Int))) ∧ A = w') := ⟨fun A k hb => rread_any (h.kept' (Turned.new hb : Turned (fun _ => False) w A) (fun _ => False.elim)) hi _ hm⟩
  clear h hi hm
  obtain ⟨B1, e1⟩ : ∃ B1, w.heap.size = B1 := ⟨_, rfl⟩
  obtain ⟨B2, e2⟩ : ∃ B2, B1 + 1 = B2 := ⟨_, rfl⟩
  obtain ⟨W0, hW0⟩ : ∃ W0, (w.alloc (.cells #[.int .u64 0, .int .u32 0, .int .u32 0, .int .u32 0] 60)).alloc (.cells #[.int .u64 0, .int .u32 0, .int .u32 0, .int .u32 0] 60) = W0 := ⟨_, rfl⟩
  have hI : Veil (RLdI w B1 B2 Mt.zero W0) := ⟨by
    rw [← hW0, ← e2, ← e1]
    exact ⟨by rw [Below.heap_alloc _ _ _ (by simp)]; exact heap_alloc_new _ _, heap_alloc2_new _ _ _, below_al (below_al (Below.refl _ _) _) _⟩⟩
  have n12 : B1 ≠ B2 := by omega
  have HB : Veil (w.heap.size = B1 ∧ B1 + 1 = B2) := ⟨e1, e2⟩
  go_enter Try.func41, Try.ntmps41
  go_wp2
  clear hW0 e1 e2
  go_loopw [5] (fun i w' => ∃ k : Nat, k ≤ 2 ∧ i = .int .u64 k ∧ Veil (RLdI w B1 B2 (lastM R k) w' ∧ ∀ i, i < k → i * 4 < R.kept.length)) (fun i _ => 2 - (intOf i).toNat)
  case atStart => exact ⟨0, Nat.zero_le _, rfl, ⟨hI.out, fun i hi => absurd hi (by omega)⟩⟩
  case round =>
    obtain ⟨k, hk, rfl, hrel⟩ := hrel
    clear hI
    by_cases hlt : k < 2
    · have e2 : IntKind.i64.wrap (k : Int) = k := by rw [IntKind.wrap_i64]; omega
      have e4 : IntKind.i64.wrap (4 * (k : Int)) = 4 * k := by rw [IntKind.wrap_i64]; omega
      have e5 : IntKind.u64.wrap ((k : Int) + 1) = (k : Int) + 1 := by rw [IntKind.wrap_u64]; omega
      obtain ⟨hl, hr⟩ := hrel.out
      have HL : Veil _ := ⟨hl⟩
      have HRk := HRd.out wr k hl.t
      by_cases hin : k * 4 < R.kept.length
      · have hrd : readR R (4 * (k : Int)) = .tuple #[sv (R.seen.getD (k * 4) []), .int .i64 0] := by
          unfold readR
          rw [if_pos (by omega), show (4 * (k : Int)).toNat = k * 4 by omega]
        rw [hrd] at HRk
        have HRn : Veil (∀ i, i < k + 1 → i * 4 < R.kept.length) := ⟨fun i hi => by
          rcases Nat.lt_or_eq_of_le (Nat.le_of_lt_succ hi) with h | h
          · exact hr i h
          · rw [h]; exact hin⟩
        have HLn : Veil (lastM R (k + 1) = betterM (lastM R k) (heldM (R.seen.getD (k * 4) []) k)) := ⟨rfl⟩
        clear hrd hl hr hrel
        have hs := h64 (k * 4) hin
        clear hin
        generalize R.seen.getD (k * 4) [] = s at *
        generalize lastM R k = la at *
        have HD := refmdecode_any s (by omega)
        unfold sv at HRk
        unfold decM mtOf at HD
        unfold heldM at HLn
        have hz : B2 < wr.heap.size := lt_of_heap HL.out.la
        obtain ⟨⟨y0, y1, y2, y3⟩, g0, g1, g2, g3⟩ := pack4 HL.out.la
        cases hi : isMt s
        · rw [hi] at HD HLn
          have HD' : Veil (∀ w, Calls Try.prog 35 #[.string ⟨s.toArray⟩] w fun e w' => e = .returned (.tuple #[.agg #[.int .u64 0, .int .u32 0, .int .u32 0, .int .u32 0], .int .i64 40]) ∧ Below w.heap.size w w') := ⟨HD⟩
          have HLx : Veil (lastM R (k + 1) = la) := ⟨by rw [HLn.out]; exact betterM_zero la⟩
          clear HD hi HLn h64 HRd
          go_wp2_with (first
            | (go_at_call 22; refine HRk.mono ?_; rintro e w1 ⟨rfl, rfl⟩)
            | (go_at_call 35; refine (HD'.out _).mono ?_; rintro e w2 ⟨rfl, hb2⟩; have HL2 : Veil _ := ⟨HL.out.below hb2⟩))
          go_roundw
          case rel => exact ⟨k + 1, by omega, by go_num, ⟨by rw [HLx.out]; exact HL2.out.below (below_al (Below.refl _ _) _), HRn.out⟩⟩
          case measure => simp [intOf]; omega
        · rw [hi] at HD HLn
          simp only [if_true, Bool.true_and, decide_eq_true_eq] at HD HLn
          generalize Mt.of s = mm at *
          obtain ⟨T, a, hh, f⟩ := mm
          unfold Mt.v at HD
          dsimp only at HD HLn
          have HD' : Veil _ := ⟨HD⟩
          have e0 : ((T : Int)).tmod 2 = ((T % 2 : Nat) : Int) := by rw [Int.tmod_eq_emod_of_nonneg (by omega)]; omega
          have e6 : IntKind.u64.wrap (((T % 2 : Nat)) : Int) = ((T % 2 : Nat) : Int) := by rw [IntKind.wrap_u64]; omega
          clear HD hi h64 HRd
          by_cases hk2 : T % 2 = k
          · rw [if_pos hk2] at HLn
            rw [hk2] at e0 e6
            clear hk2
            by_cases hc : la.tx < T
            · have hcI : (la.tx : Int) < (T : Int) := by omega
              have HLx : Veil (lastM R (k + 1) = ⟨T, a, hh, f⟩) := ⟨by rw [HLn.out]; exact if_pos hc⟩
              clear hc HLn
              go_wp2_with (first
                | (go_at_call 22; refine HRk.mono ?_; rintro e w1 ⟨rfl, rfl⟩)
                | (go_at_call 35; refine (HD'.out _).mono ?_; rintro e w2 ⟨rfl, hb2⟩; have HL2 : Veil _ := ⟨HL.out.below hb2⟩; have hz2 : B2 < w2.heap.size := lt_of_heap HL2.out.la; obtain ⟨⟨z0, z1, z2, z3⟩, q0, q1, q2, q3⟩ := pack4 HL2.out.la))
              go_roundw
              case rel => exact ⟨k + 1, by omega, by go_num, ⟨by
                rw [HLx.out]
                have hh2 := HL2.out
                exact (show RLdI w B1 B2 ⟨T, a, hh, f⟩ _ from ⟨set4_ne hh2.rs n12 _ _ _ _, set4 hh2.la (.int .u64 T) (.int .u32 a) (.int .u32 hh) (.int .u32 f), turn4 hh2.t (by have := HB.out; omega) _ _ _ _⟩).below (below_al (Below.refl _ _) _), HRn.out⟩⟩
              case measure => simp [intOf]; omega
            · have hcI : ¬ (la.tx : Int) < (T : Int) := by omega
              have HLx : Veil (lastM R (k + 1) = la) := ⟨by rw [HLn.out]; exact if_neg hc⟩
              clear hc HLn
              go_wp2_with (first
                | (go_at_call 22; refine HRk.mono ?_; rintro e w1 ⟨rfl, rfl⟩)
                | (go_at_call 35; refine (HD'.out _).mono ?_; rintro e w2 ⟨rfl, hb2⟩; have HL2 : Veil _ := ⟨HL.out.below hb2⟩; have hz2 : B2 < w2.heap.size := lt_of_heap HL2.out.la; obtain ⟨⟨z0, z1, z2, z3⟩, q0, q1, q2, q3⟩ := pack4 HL2.out.la))
              go_roundw
              case rel => exact ⟨k + 1, by omega, by go_num, ⟨by rw [HLx.out]; exact HL2.out.below (below_al (Below.refl _ _) _), HRn.out⟩⟩
              case measure => simp [intOf]; omega
          · rw [if_neg hk2] at HLn
            have hkI : ((((T % 2 : Nat)) : Int) == (k : Int)) = false := by simp; omega
            have HLx : Veil (lastM R (k + 1) = la) := ⟨by rw [HLn.out]; exact betterM_zero la⟩
            have hkN : ¬ (((T % 2 : Nat)) : Int) = (k : Int) := by omega
            clear hk2 HLn
            generalize T % 2 = q at *
            go_wp2_with (first
              | (go_at_call 22; refine HRk.mono ?_; rintro e w1 ⟨rfl, rfl⟩)
              | (go_at_call 35; refine (HD'.out _).mono ?_; rintro e w2 ⟨rfl, hb2⟩; have HL2 : Veil _ := ⟨HL.out.below hb2⟩; have hz2 : B2 < w2.heap.size := lt_of_heap HL2.out.la; obtain ⟨⟨z0, z1, z2, z3⟩, q0, q1, q2, q3⟩ := pack4 HL2.out.la))
            go_roundw
            case rel => exact ⟨k + 1, by omega, by go_num, ⟨by rw [HLx.out]; exact HL2.out.below (below_al (Below.refl _ _) _), HRn.out⟩⟩
            case measure => simp [intOf]; omega
      · have hrd : readR R (4 * (k : Int)) = .tuple #[.string ⟨#[]⟩, .int .i64 10] := by
          unfold readR
          rw [if_neg (by omega)]
        rw [hrd] at HRk
        have HV : Veil (loadMV R = .tuple #[Mt.zero.v, .int .i64 10]) := ⟨by rw [loadMV, if_neg (by omega)]⟩
        obtain ⟨⟨y0, y1, y2, y3⟩, g0, g1, g2, g3⟩ := pack4 HL.out.rs
        clear hrd hl hr hrel HRd h64
        go_wp2_with (go_at_call 22; refine HRk.mono ?_; rintro e w1 ⟨rfl, rfl⟩)
        exact bodyPost_ret (results_meta2 (g := B1) rfl rfl rfl (set4 HL.out.rs _ _ _ _)) rfl ⟨by rw [HV.out]; rfl, turn4 HL.out.t (by have := HB.out; omega) _ _ _ _⟩
    · obtain rfl : k = 2 := by omega
      obtain ⟨hl, hr⟩ := hrel.out
      have hin : 4 < R.kept.length := by have := hr 1 (by omega); omega
      have HL : Veil _ := ⟨hl⟩
      obtain ⟨⟨y0, y1, y2, y3⟩, g0, g1, g2, g3⟩ := pack4 hl.rs
      obtain ⟨⟨z0, z1, z2, z3⟩, -⟩ := pack4 hl.la
      have hlo := lastM_or R 2
      clear hl hr hrel HRd h64
      rcases hlo with h0 | h0
      · have HV : Veil (loadMV R = .tuple #[Mt.zero.v, .int .i64 40]) := ⟨by rw [loadMV, if_pos hin, if_pos (by rw [h0]; rfl)]⟩
        rw [h0] at z0 z1 z2 z3
        clear h0 hin
        go_wp2
        exact bodyPost_ret (results_meta2 (g := B1) rfl rfl rfl (set4 HL.out.rs _ _ _ _)) rfl ⟨by rw [HV.out]; rfl, turn4 HL.out.t (by have := HB.out; omega) _ _ _ _⟩
      · have HV : Veil (loadMV R = .tuple #[(lastM R 2).v, .int .i64 0]) := ⟨by rw [loadMV, if_pos hin, if_neg (by omega)]⟩
        generalize lastM R 2 = la at *
        obtain ⟨T, a, hh, f⟩ := la
        have ht0 : ((T : Int) == 0) = false := by have h0 : 1 ≤ T := h0; simp; omega
        unfold Mt.v at HV
        dsimp only at HV z0 z1 z2 z3
        clear h0 hin
        go_wp2
        exact bodyPost_ret (results_meta2 (g := B1) rfl rfl rfl (set4 HL.out.rs _ _ _ _)) rfl ⟨by rw [HV.out]; rfl, turn4 HL.out.t (by have := HB.out; omega) _ _ _ _⟩
end Go.Proofs.Ytghpcjkjhbafnaa
