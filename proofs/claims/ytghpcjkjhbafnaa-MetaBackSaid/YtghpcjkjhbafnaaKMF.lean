/- The law that metas and bytes are one to one: MetaBack. -/
import Derived.Test.YtghpcjkjhbafnaaKMB
import Derived.Test.YtghpcjkjhbafnaaKPE
namespace Go.Proofs.Ytghpcjkjhbafnaa
open Go Go.RowKit Sm
attribute [local go_sem] Oper.semAt_some

/-- A meta's bytes, and the meta of these, in letters. -/
theorem mback1 (m : Mt) (hm : m.Ok) : ∃ (E : List UInt8) (C : Int), (∀ w, Calls Try.prog 30 #[m.v] w fun e w' => e = .returned (.tuple #[.string ⟨E.toArray⟩, .int .i64 C]) ∧ Below w.heap.size w w') ∧ E.length ≤ 1000 ∧ ((C = 0 ∧ E.length = 64 ∧ ∀ w, Calls Try.prog 34 #[.string ⟨E.toArray⟩] w fun e w' => e = .returned (.tuple #[m.v, .int .i64 0]) ∧ Below w.heap.size w w') ∨ C = 40) := by
  have h1 := fun w => mencode_any m ⟨hm⟩ w
  unfold Mt.encR at h1
  by_cases h : m.right = true
  · rw [if_pos h] at h1
    refine ⟨_, _, h1, by rw [m.enc_len]; decide, .inl ⟨rfl, m.enc_len, fun w => ?_⟩⟩
    have := mdecode_any m.enc (by rw [m.enc_len]; decide) w
    unfold decM mtOf at this
    rw [m.back hm h, if_pos rfl, if_pos rfl, m.of_enc hm] at this
    exact this
  · rw [if_neg h] at h1
    exact ⟨[], _, h1, by simp, .inr rfl⟩
/-- The meta of bytes, and its bytes, in letters. -/
theorem mback2 (s : List UInt8) (hs : s.length ≤ 1000000) : ∃ (T A H F : Nat) (C : Int), (∀ w, Calls Try.prog 34 #[.string ⟨s.toArray⟩] w fun e w' => e = .returned (.tuple #[.agg #[.int .u64 T, .int .u32 A, .int .u32 H, .int .u32 F], .int .i64 C]) ∧ Below w.heap.size w w') ∧ ((C = 0 ∧ ∀ w, Calls Try.prog 30 #[.agg #[.int .u64 T, .int .u32 A, .int .u32 H, .int .u32 F]] w fun e w' => e = .returned (.tuple #[.string ⟨s.toArray⟩, .int .i64 0]) ∧ Below w.heap.size w w') ∨ (C = 40 ∧ ∃ (E : ByteArray) (c : Int), ∀ w, Calls Try.prog 30 #[.agg #[.int .u64 T, .int .u32 A, .int .u32 H, .int .u32 F]] w fun e w' => e = .returned (.tuple #[.string E, .int .i64 c]) ∧ Below w.heap.size w w')) := by
  have h2 := fun w => mdecode_any s hs w
  unfold decM mtOf at h2
  by_cases h : isMt s = true
  · rw [if_pos h, if_pos h] at h2
    refine ⟨_, _, _, _, _, h2, .inl ⟨rfl, fun w => ?_⟩⟩
    have := mencode_any (Mt.of s) ⟨Mt.of_ok s⟩ w
    unfold Mt.encR at this
    rw [if_pos (isMt_right s h).1, (isMt_right s h).2] at this
    exact this
  · rw [if_neg h, if_neg h] at h2
    refine ⟨0, 0, 0, 0, 40, h2, .inr ⟨rfl, ⟨#[]⟩, 40, fun w => ?_⟩⟩
    have := mencode_any Mt.zero ⟨⟨by decide, by decide, by decide, by decide⟩⟩ w
    unfold Mt.encR at this
    rw [if_neg (by decide)] at this
    exact this

set_option maxRecDepth 20000 in
set_option maxHeartbeats 4000000 in
theorem metaBack_any (m : Mt) (hm : m.Ok) (s : List UInt8) (hs : s.length ≤ 9223372036854775807) (w : World) : Calls Try.prog 9 #[m.v, .string ⟨s.toArray⟩] w fun e w' => e = .returned (.bool true) ∧ Below w.heap.size w w' := by
  have hmin : ∀ W, (Builtin.min_ #[3, 3] 3 #[.int .i64 (s.length : Int), .int .i64 70]).run Try.prog W = .ok (.int .i64 ((min s.length 70 : Nat) : Int)) W := min_int s.length 70
  have hx := take_ext s 70
  have hl : (s.take 70).length ≤ 70 := by simp; omega
  obtain ⟨q, hq⟩ : ∃ q, min s.length 70 = q := ⟨_, rfl⟩
  have hqb : q ≤ s.length := by omega
  have hq0 : (0 : Int) ≤ q := by omega
  rw [hq] at hmin hx
  clear hq
  obtain ⟨t, ht⟩ : ∃ t, s.take 70 = t := ⟨_, rfl⟩
  rw [ht] at hx hl
  clear ht
  obtain ⟨E, C, hE, hEl, hc⟩ := mback1 m hm
  obtain ⟨T2, A2, H2, F2, C2, hD2, hc2⟩ := mback2 t (by omega)
  have HE : Veil _ := ⟨hE⟩
  have HD2 : Veil _ := ⟨hD2⟩
  have HC2 : Veil _ := ⟨hc2⟩
  clear hE hD2 hm hc2
  obtain ⟨tx, a, h, f⟩ := m
  unfold Mt.v at *
  dsimp only at *
  generalize (tx : Int) = T at *
  generalize (a : Int) = A at *
  generalize (h : Int) = H at *
  generalize (f : Int) = F at *
  obtain ⟨WB, hWB⟩ : ∃ WB, w.alloc (.cells #[.int .u64 T, .int .u32 A, .int .u32 H, .int .u32 F] 60) = WB := ⟨_, rfl⟩
  have hpB : Veil (WB.heap[w.heap.size]? = some (.cells #[.int .u64 T, .int .u32 A, .int .u32 H, .int .u32 F] 60 (0, 0))) := ⟨by rw [← hWB]; exact heap_alloc_new _ _⟩
  have hlw : Veil (w.heap.size < WB.heap.size) := ⟨by rw [← hWB]; simp⟩
  have hwB : Veil (Below w.heap.size w WB) := ⟨by rw [← hWB]; exact below_al (Below.refl _ _) _⟩
  have ST : Veil (∀ W, Below WB.heap.size WB W → W.cell? ⟨w.heap.size, 0, none⟩ = some (.int .u64 T) ∧ W.cell? ⟨w.heap.size, 1, none⟩ = some (.int .u32 A) ∧ W.cell? ⟨w.heap.size, 2, none⟩ = some (.int .u32 H) ∧ W.cell? ⟨w.heap.size, 3, none⟩ = some (.int .u32 F)) := ⟨fun W h => (pack4 ((h.block w.heap.size hlw.out).trans hpB.out)).1⟩
  rcases hc with ⟨rfl, hE64, hD⟩ | rfl
  · have HD : Veil _ := ⟨hD⟩
    clear hD
    rcases HC2.out with ⟨rfl, hE2⟩ | ⟨rfl, E2, c2, hE2⟩
    all_goals
      have HE2 : Veil _ := ⟨hE2⟩
      clear hE2 HC2
      go_enter Try.func9, Try.ntmps9
      go_wp2_with (first
        | (go_at_call 29; refine (shown4_any _).mono ?_; rintro e w1 ⟨rfl, hb1⟩; obtain ⟨x0, x1, x2, x3⟩ := ST.out w1 hb1)
        | (go_at_call 34; (with_reducible refine (HD.out _).mono ?_); rintro e w3 ⟨rfl, hb3⟩; have hb13 := blw_then (blw_then hb1 hb2) hb3; obtain ⟨y0, y1, y2, y3⟩ := ST.out w3 hb13; have hlw3 : w.heap.size < w3.heap.size := Nat.lt_of_lt_of_le hlw.out hb13.size; clear x0 x1 x2 x3)
        | (go_at_call 34; (with_reducible refine (HD2.out _).mono ?_); rintro e w4 ⟨rfl, hb4⟩)
        | (go_at_call 30; (with_reducible refine (HE.out _).mono ?_); rintro e w2 ⟨rfl, hb2⟩)
        | (go_at_call 30; (with_reducible refine (HE2.out _).mono ?_); rintro e w5 ⟨rfl, hb5⟩))
      go_ret
      exact ⟨rfl, hwB.out.trans ((blw_then (below_al (blw_then (below_al hb13 _) hb4) _) hb5).mono hwB.out.size)⟩
  · obtain ⟨T1, A1, H1, F1, C1, hD, -⟩ := mback2 E (by omega)
    have HD : Veil _ := ⟨hD⟩
    clear hD
    rcases HC2.out with ⟨rfl, hE2⟩ | ⟨rfl, E2, c2, hE2⟩
    all_goals
      have HE2 : Veil _ := ⟨hE2⟩
      clear hE2 HC2
      go_enter Try.func9, Try.ntmps9
      go_wp2_with (first
        | (go_at_call 29; refine (shown4_any _).mono ?_; rintro e w1 ⟨rfl, hb1⟩; obtain ⟨x0, x1, x2, x3⟩ := ST.out w1 hb1)
        | (go_at_call 34; (with_reducible refine (HD.out _).mono ?_); rintro e w3 ⟨rfl, hb3⟩; have hb13 := blw_then (blw_then hb1 hb2) hb3; obtain ⟨y0, y1, y2, y3⟩ := ST.out w3 hb13; have hlw3 : w.heap.size < w3.heap.size := Nat.lt_of_lt_of_le hlw.out hb13.size; clear x0 x1 x2 x3)
        | (go_at_call 34; (with_reducible refine (HD2.out _).mono ?_); rintro e w4 ⟨rfl, hb4⟩)
        | (go_at_call 30; (with_reducible refine (HE.out _).mono ?_); rintro e w2 ⟨rfl, hb2⟩)
        | (go_at_call 30; (with_reducible refine (HE2.out _).mono ?_); rintro e w5 ⟨rfl, hb5⟩))
      go_ret
      exact ⟨rfl, hwB.out.trans ((blw_then (below_al (blw_then (below_al hb13 _) hb4) _) hb5).mono hwB.out.size)⟩
end Go.Proofs.Ytghpcjkjhbafnaa
