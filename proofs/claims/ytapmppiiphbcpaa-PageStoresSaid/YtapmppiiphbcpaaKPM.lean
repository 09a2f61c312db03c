/- The walk of Read of a page. -/
import Derived.Test.YtapmppiiphbcpaaKPK
import Derived.Test.YtapmppiiphbcpaaKPD
namespace Go.Proofs.Ytapmppiiphbcpaa
open Go Go.RowKit Sm
attribute [local go_sem] Oper.semAt_some

theorem below_trans3 {w w0 w1 w2 : World} (h0 : Below w.heap.size w w0) (h1 : Below w0.heap.size w0 w1) (h2 : Below w1.heap.size w1 w2) : Below w.heap.size w w2 := below_then (below_then h0 h1) h2
/-- What Read answers. -/
def rdOk (D : Dk) (id : Nat) : Bool := loadOk D id && isPg (accL D id 4) && decide ((Pg.of (accL D id 4)).id = id)
def rdV (D : Dk) (id : Nat) : Value := if rdOk D id then .tuple #[(Pg.of (accL D id 4)).v, .int .i64 0] else .tuple #[.agg #[.int .i64 0, .int .u32 0, .int .u64 0, .string ⟨#[]⟩], .int .i64 (if loadOk D id then 30 else 10)]

/-- What Decode answers, in letters. -/
theorem dec_of (s : List UInt8) (hs : s.length ≤ 1000) : ∃ (K I T : Int) (B : List UInt8) (C : Int), (∀ w, Calls Try.prog 56 #[.string ⟨s.toArray⟩] w fun e w' => e = .returned (.tuple #[.agg #[.int .i64 K, .int .u32 I, .int .u64 T, .string ⟨B.toArray⟩], .int .i64 C]) ∧ Below w.heap.size w w') ∧ ((isPg s = true ∧ C = 0 ∧ K = (Pg.of s).kind ∧ I = (Pg.of s).id ∧ T = (Pg.of s).tx ∧ B = (Pg.of s).body) ∨ (isPg s = false ∧ C = 30)) := by
  have h2 := fun w => decode_any s (by omega) w
  unfold decR pgOf at h2
  by_cases h : isPg s = true
  · rw [if_pos h, if_pos h] at h2
    exact ⟨_, _, _, _, 0, h2, .inl ⟨h, rfl, rfl, rfl, rfl, rfl⟩⟩
  · rw [if_neg h, if_neg h] at h2
    exact ⟨_, _, _, _, 30, h2, .inr ⟨by simpa using h, rfl⟩⟩

set_option maxRecDepth 20000 in
set_option maxHeartbeats 2000000 in
theorem pread_any {w : World} {d kb sb : Nat} {v : Value} {D : Dk} (h : DiskAt w d kb sb v D) (id : Nat) (hid : id < 4294967296) :
    Calls Try.prog 27 #[.pointer (some ⟨d, 0, none⟩), .int .u32 id] w fun e w' => e = .returned (rdV D id) ∧ Below w.heap.size w w' := by
  obtain ⟨W0, hW0⟩ : ∃ W0, w.alloc (.cells #[.int .i64 0, .int .u32 0, .int .u64 0, .string ⟨#[]⟩] 49) = W0 := ⟨_, rfl⟩
  have hp0 : Veil (W0.heap[w.heap.size]? = some (.cells #[.int .i64 0, .int .u32 0, .int .u64 0, .string ⟨#[]⟩] 49 (0, 0))) := ⟨by rw [← hW0]; exact heap_alloc_new _ _⟩
  have hz0 : Veil (w.heap.size < W0.heap.size) := ⟨by rw [← hW0]; simp⟩
  have hb0 : Veil (Below w.heap.size w W0) := ⟨by rw [← hW0]; exact below_al (Below.refl _ _) _⟩
  have hD0 : DiskAt W0 d kb sb v D := by rw [← hW0]; exact h.kept' ((Turned.refl (fun _ => False) w).alloc _) (fun _ => False.elim)
  have HL : Veil (Calls Try.prog 60 #[.pointer (some ⟨d, 0, none⟩), .int .u32 id] W0 fun e w' => e = .returned (loadV D id) ∧ Below W0.heap.size W0 w') := ⟨load_any hD0 id hid⟩
  have hal := accL_len D h.ok id 4
  obtain ⟨R, hR⟩ : ∃ R, rdV D id = R := ⟨_, rfl⟩
  have HR : Veil _ := ⟨hR⟩
  rw [hR]
  clear hR h hD0
  cases hok : loadOk D id
  · have e0 : R = .tuple #[.agg #[.int .i64 0, .int .u32 0, .int .u64 0, .string ⟨#[]⟩], .int .i64 10] := by rw [← HR.out]; unfold rdV rdOk; simp [hok]
    subst e0
    unfold loadV at HL
    rw [hok, if_neg (by decide)] at HL
    clear HR hok hal
    go_enter Try.func27, Try.ntmps27
    go_wp2_with (go_at_call 60; refine HL.out.mono ?_; rintro e w1 ⟨rfl, hb1⟩; have hp1 : Veil _ := ⟨(hb1.block w.heap.size hz0.out).trans hp0.out⟩; obtain ⟨⟨q0, q1, q2, q3⟩, f0, f1, f2, f3⟩ := pack4 hp1.out)
    exact bodyPost_ret (results_page2 (g := w.heap.size) rfl rfl rfl (set4 hp1.out _ _ _ _)) rfl ⟨rfl, turn4 (hb0.out.trans (hb1.mono hb0.out.size)) (Nat.le_refl _) _ _ _ _⟩
  · unfold loadV at HL
    rw [hok, if_pos rfl] at HL
    obtain ⟨K, I, T, B, C, hD, hc⟩ := dec_of (accL D id 4) (by omega)
    have HD : Veil _ := ⟨hD⟩
    have hRR : R = if isPg (accL D id 4) = true ∧ (Pg.of (accL D id 4)).id = id then .tuple #[(Pg.of (accL D id 4)).v, .int .i64 0] else .tuple #[.agg #[.int .i64 0, .int .u32 0, .int .u64 0, .string ⟨#[]⟩], .int .i64 30] := by
      rw [← HR.out]; unfold rdV rdOk; simp [hok]
    clear hD HR hok
    revert HL HD hc hRR
    generalize accL D id 4 = s
    intro HL hc HD hRR
    rcases hc with ⟨hp, rfl, rfl, rfl, rfl, rfl⟩ | ⟨hp, rfl⟩
    · by_cases hi : (Pg.of s).id = id
      · rw [if_pos ⟨hp, hi⟩] at hRR
        subst hRR
        unfold Pg.v
        rw [hi] at HD ⊢
        generalize (Pg.of s).kind = K at *
        generalize (Pg.of s).tx = T at *
        generalize (Pg.of s).body = B at *
        clear hp hi hal
        go_enter Try.func27, Try.ntmps27
        go_wp2_with (first
          | (go_at_call 60; refine HL.out.mono ?_; rintro e w1 ⟨rfl, hb1⟩)
          | (go_at_call 56; refine (HD.out _).mono ?_; rintro e w2 ⟨rfl, hb2⟩; have hp2 : Veil _ := ⟨(hb2.block w.heap.size (Nat.lt_of_lt_of_le hz0.out hb1.size)).trans ((hb1.block w.heap.size hz0.out).trans hp0.out)⟩; have hz2 : w.heap.size < w2.heap.size := Nat.lt_of_lt_of_le (Nat.lt_of_lt_of_le hz0.out hb1.size) hb2.size; obtain ⟨⟨q0, q1, q2, q3⟩, f0, f1, f2, f3⟩ := pack4 hp2.out))
        exact bodyPost_ret (results_page2 (g := w.heap.size) rfl rfl rfl (by rw [Below.heap_alloc _ _ _ (by simpa using hz2)]; exact set4 hp2.out _ _ _ _)) rfl ⟨rfl, below_al (turn4 (below_trans3 hb0.out hb1 hb2) (Nat.le_refl _) _ _ _ _) _⟩
      · rw [if_neg (fun h => hi h.2)] at hRR
        subst hRR
        have hne : (((Pg.of s).id : Int) == (id : Int)) = false := by simp; omega
        revert HD hne
        generalize (Pg.of s).kind = K
        generalize (Pg.of s).tx = T
        generalize (Pg.of s).body = B
        generalize (Pg.of s).id = a
        intro HD hne
        clear hp hi hal
        go_enter Try.func27, Try.ntmps27
        go_wp2_with (first
          | (go_at_call 60; refine HL.out.mono ?_; rintro e w1 ⟨rfl, hb1⟩)
          | (go_at_call 56; refine (HD.out _).mono ?_; rintro e w2 ⟨rfl, hb2⟩; have hp2 : Veil _ := ⟨(hb2.block w.heap.size (Nat.lt_of_lt_of_le hz0.out hb1.size)).trans ((hb1.block w.heap.size hz0.out).trans hp0.out)⟩; have hz2 : w.heap.size < w2.heap.size := Nat.lt_of_lt_of_le (Nat.lt_of_lt_of_le hz0.out hb1.size) hb2.size; obtain ⟨⟨q0, q1, q2, q3⟩, f0, f1, f2, f3⟩ := pack4 hp2.out))
        exact bodyPost_ret (results_page2 (g := w.heap.size) rfl rfl rfl (by rw [Below.heap_alloc _ _ _ (by simpa using hz2)]; exact set4 hp2.out _ _ _ _)) rfl ⟨rfl, below_al (turn4 (below_trans3 hb0.out hb1 hb2) (Nat.le_refl _) _ _ _ _) _⟩
    · rw [if_neg (fun h => absurd h.1 (by rw [hp]; decide))] at hRR
      subst hRR
      clear hp hal
      go_enter Try.func27, Try.ntmps27
      go_wp2_with (first
        | (go_at_call 60; refine HL.out.mono ?_; rintro e w1 ⟨rfl, hb1⟩)
        | (go_at_call 56; refine (HD.out _).mono ?_; rintro e w2 ⟨rfl, hb2⟩; have hp2 : Veil _ := ⟨(hb2.block w.heap.size (Nat.lt_of_lt_of_le hz0.out hb1.size)).trans ((hb1.block w.heap.size hz0.out).trans hp0.out)⟩; have hz2 : w.heap.size < w2.heap.size := Nat.lt_of_lt_of_le (Nat.lt_of_lt_of_le hz0.out hb1.size) hb2.size; obtain ⟨⟨q0, q1, q2, q3⟩, f0, f1, f2, f3⟩ := pack4 hp2.out))
      exact bodyPost_ret (results_page2 (g := w.heap.size) rfl rfl rfl (by rw [Below.heap_alloc _ _ _ (by simpa using hz2)]; exact set4 hp2.out _ _ _ _)) rfl ⟨rfl, below_al (turn4 (below_trans3 hb0.out hb1 hb2) (Nat.le_refl _) _ _ _ _) _⟩
end Go.Proofs.Ytapmppiiphbcpaa
