/- The law on pages and bytes, one to one: PageBack. -/
import Derived.Test.YtbmdodkgaehgnaaPE
import Derived.Test.YtbmdodkgaehgnaaPF
namespace Go.Proofs.Ytbmdodkgaehgnaa
open Go Go.RowKit Sm
attribute [local go_sem] Oper.semAt_some

def AggV (K I T : Int) (B : List UInt8) : Value := .agg #[.int .i64 K, .int .u32 I, .int .u64 T, .string ⟨B.toArray⟩]
theorem back1 (q : Pg) (hq : q.Ok) : ∃ (E : List UInt8) (C K I T : Int) (B : List UInt8) (C1 : Int), (∀ w, Calls Try.prog 13 #[q.v] w fun e w' => e = .returned (.tuple #[.string ⟨E.toArray⟩, .int .i64 C]) ∧ Below w.heap.size w w') ∧ (∀ w, Calls Try.prog 17 #[.string ⟨E.toArray⟩] w fun e w' => e = .returned (.tuple #[AggV K I T B, .int .i64 C1]) ∧ Below w.heap.size w w') ∧ ((C = 0 ∧ C1 = 0 ∧ K = q.kind ∧ I = q.id ∧ T = q.tx ∧ B = q.body ∧ E.length = 256) ∨ C = 30) := by
  have h1 := fun w => encode_any q ⟨hq⟩ w
  unfold Pg.encR at h1
  by_cases h : q.right = true
  · have hb := q.back hq h
    rw [if_pos h] at h1
    have hl : q.enc.length = 256 := q.enc_len (q.right_iff.1 h).2.2.2.2.2
    have h2 := fun w => decode_any q.enc (by rw [hl]; decide) w
    unfold decR pgOf at h2
    rw [if_pos hb.1, if_pos hb.1, hb.2] at h2
    exact ⟨q.enc, 0, q.kind, q.id, q.tx, q.body, 0, h1, h2, .inl ⟨rfl, rfl, rfl, rfl, rfl, rfl, hl⟩⟩
  · rw [if_neg h] at h1
    have h2 := fun w => decode_any [] (by simp) w
    have hn : isPg [] = false := by simp [isPg]
    unfold decR pgOf at h2
    rw [hn, if_neg (by decide), if_neg (by decide)] at h2
    exact ⟨[], 30, 0, 0, 0, [], 30, h1, h2, .inr rfl⟩
theorem back2 (s : List UInt8) (hs : s.length ≤ 1000) : ∃ (K I T : Int) (B : List UInt8) (C2 : Int) (E2 : List UInt8) (C3 : Int), (∀ w, Calls Try.prog 17 #[.string ⟨s.toArray⟩] w fun e w' => e = .returned (.tuple #[AggV K I T B, .int .i64 C2]) ∧ Below w.heap.size w w') ∧ (∀ w, Calls Try.prog 13 #[AggV K I T B] w fun e w' => e = .returned (.tuple #[.string ⟨E2.toArray⟩, .int .i64 C3]) ∧ Below w.heap.size w w') ∧ ((C2 = 0 ∧ C3 = 0 ∧ E2 = s) ∨ C2 = 30) := by
  have h2 := fun w => decode_any s (by omega) w
  unfold decR pgOf at h2
  by_cases h : isPg s = true
  · rw [if_pos h, if_pos h] at h2
    have hd := h
    simp only [isPg, Bool.and_eq_true, decide_eq_true_eq] at hd
    obtain ⟨⟨⟨e1, e2⟩, e3⟩, e4⟩ := hd
    have h1 := fun w => encode_any (Pg.of s) ⟨Pg.of_ok s e2⟩ w
    unfold Pg.encR at h1
    rw [if_pos e3, e4] at h1
    exact ⟨(Pg.of s).kind, (Pg.of s).id, (Pg.of s).tx, (Pg.of s).body, 0, s, 0, h2, h1, .inl ⟨rfl, rfl, rfl⟩⟩
  · rw [if_neg h, if_neg h] at h2
    have h1 := fun w => encode_any Pg.zero ⟨zeroPg_ok⟩ w
    unfold Pg.encR at h1
    rw [if_neg (by decide)] at h1
    exact ⟨0, 0, 0, [], 30, [], 30, h2, h1, .inr rfl⟩

set_option maxRecDepth 20000 in
set_option maxHeartbeats 4000000 in
theorem pageBack_any (p : Pg) (hp : p.In) (s : List UInt8) (hs : s.length ≤ 9223372036854775807) (w : World) : Calls Try.prog 6 #[p.v, .string ⟨s.toArray⟩] w fun e w' => e = .returned (.bool true) ∧ Below w.heap.size w w' := by
  obtain ⟨E, C, K, I1, T1, B, C1, hE, hD, hc⟩ := back1 p.small hp.small
  have hmin : ∀ W, (Builtin.min_ #[3, 3] 3 #[.int .i64 (s.length : Int), .int .i64 260]).run Try.prog W = .ok (.int .i64 ((min s.length 260 : Nat) : Int)) W := min_int s.length 260
  have hx := take_ext s 260
  have hl : (s.take 260).length ≤ 1000 := by simp; omega
  obtain ⟨m, hm⟩ : ∃ m, min s.length 260 = m := ⟨_, rfl⟩
  have hmb : m ≤ s.length := by omega
  have hm0 : (0 : Int) ≤ m := by omega
  rw [hm] at hmin hx
  clear hm
  obtain ⟨u, hu⟩ : ∃ u, s.take 260 = u := ⟨_, rfl⟩
  rw [hu] at hx hl
  clear hu
  obtain ⟨K2, I2, T2, B2, C2, E2, C3, hD2, hE2, hc2⟩ := back2 u hl
  have HE : Veil _ := ⟨hE⟩
  have HD : Veil _ := ⟨hD⟩
  have HD2 : Veil _ := ⟨hD2⟩
  have HE2 : Veil _ := ⟨hE2⟩
  have SM : Veil (∀ w, Calls Try.prog 12 #[p.v] w fun e w' => e = .returned p.small.v ∧ Below w.heap.size w w') := ⟨small_any p hp.b⟩
  clear hE hD hD2 hE2 hp hl
  obtain ⟨k, i, t, b⟩ := p
  unfold Pg.small at *
  unfold Pg.v at *
  unfold AggV at *
  dsimp only at *
  generalize b.take 250 = bs at *
  generalize (i : Int) = I at *
  generalize (t : Int) = T at *
  generalize (⟨b.toArray⟩ : ByteArray) = b0 at *
  obtain ⟨WB, hWB⟩ : ∃ WB, w.alloc (.cells #[.int .i64 k, .int .u32 I, .int .u64 T, .string b0] 25) = WB := ⟨_, rfl⟩
  have hpB : Veil (WB.heap[w.heap.size]? = some (.cells #[.int .i64 k, .int .u32 I, .int .u64 T, .string b0] 25 (0, 0))) := ⟨by rw [← hWB]; exact heap_alloc_new _ _⟩
  have hlw : Veil (w.heap.size < WB.heap.size) := ⟨by rw [← hWB]; simp⟩
  have hwB : Veil (Below w.heap.size w WB) := ⟨by rw [← hWB]; exact below_al (Below.refl _ _) _⟩
  have Hc : Veil _ := ⟨hc⟩
  have Hc2 : Veil _ := ⟨hc2⟩
  clear hc hc2
  go_enter Try.func6, Try.ntmps6
  go_wp2_with (first
    | (go_at_call 11; refine (shown3_any _).mono ?_; rintro e w1 ⟨rfl, hb1⟩; have hp1 : Veil _ := ⟨(hb1.block w.heap.size hlw.out).trans hpB.out⟩; obtain ⟨⟨x0, x1, x2, x3⟩, -⟩ := pack4 hp1.out)
    | (go_at_call 12; refine (SM.out _).mono ?_; rintro e w2 ⟨rfl, hb2⟩; have hp2 : Veil _ := ⟨(hb2.block w.heap.size (Nat.lt_of_lt_of_le hlw.out hb1.size)).trans hp1.out⟩; obtain ⟨⟨y0, y1, y2, y3⟩, f0, f1, f2, f3⟩ := pack4 hp2.out; clear x0 x1 x2 x3)
    | fail)
  obtain ⟨W3, hW3⟩ : ∃ W3, ((((w2.setCell ⟨w.heap.size, 0, none⟩ (.int .i64 k)).setCell ⟨w.heap.size, 1, none⟩ (.int .u32 I)).setCell ⟨w.heap.size, 2, none⟩ (.int .u64 T)).setCell ⟨w.heap.size, 3, none⟩ (.string ⟨bs.toArray⟩)) = W3 := ⟨_, rfl⟩
  rw [hW3]
  have hp3 : Veil (W3.heap[w.heap.size]? = some (.cells #[.int .i64 k, .int .u32 I, .int .u64 T, .string ⟨bs.toArray⟩] 25 (0, 0))) := ⟨by rw [← hW3]; exact set4 hp2.out _ _ _ _⟩
  have hl3 : Veil (w.heap.size < W3.heap.size) := ⟨lt_of_heap hp3.out⟩
  have hb3 : Veil (Below w.heap.size w W3) := ⟨by rw [← hW3]; exact turn4 ((hwB.out.trans (hb1.mono (Nat.le_of_lt hlw.out))).trans (hb2.mono (Nat.le_trans (Nat.le_of_lt hlw.out) hb1.size))) (Nat.le_refl _) _ _ _ _⟩
  clear hW3 y0 y1 y2 y3 f0 f1 f2 f3 hp2 hp1 hb1 hb2 hWB hpB hlw hwB SM
  refine (HE.out _).mono ?_
  rintro e w4 ⟨rfl, hb4⟩
  have hp4 : Veil _ := ⟨(hb4.block w.heap.size hl3.out).trans hp3.out⟩
  obtain ⟨⟨z0, z1, z2, z3⟩, -⟩ := pack4 hp4.out
  have HB4 : Veil (Below w.heap.size w w4) := ⟨hb3.out.trans (hb4.mono (Nat.le_of_lt hl3.out))⟩
  clear hb4
  go_wp2_with fail
  refine (HD.out _).mono ?_
  rintro e w5 ⟨rfl, hb5⟩
  have hp5 : w5.heap[w.heap.size]? = some (.cells #[.int .i64 k, .int .u32 I, .int .u64 T, .string ⟨bs.toArray⟩] 25 (0, 0)) := (hb5.block w.heap.size (lt_of_heap hp4.out)).trans hp4.out
  have HB5 : Veil (Below w.heap.size w w5) := ⟨HB4.out.trans (hb5.mono HB4.out.size)⟩
  clear z0 z1 z2 z3
  obtain ⟨⟨z0, z1, z2, z3⟩, -⟩ := pack4 hp5
  have hz5 : w.heap.size < w5.heap.size := lt_of_heap hp5
  clear hb5 hp5 hp4 HB4 hb3 hl3 hp3
  rcases Hc.out with ⟨rfl, rfl, rfl, rfl, rfl, rfl, hE256⟩ | rfl
  · rcases Hc2.out with ⟨rfl, rfl, rfl⟩ | rfl
    · clear Hc Hc2
      go_wp2_with (first
        | (go_at_call 17; refine (HD2.out _).mono ?_; rintro e w6 ⟨rfl, hb6⟩)
        | (go_at_call 13; refine (HE2.out _).mono ?_; rintro e w7 ⟨rfl, hb7⟩))
      go_ret
      exact ⟨rfl, below_then (below_al (below_then (below_al HB5.out _) hb6) _) hb7⟩
    · clear Hc Hc2
      go_wp2_with (first
        | (go_at_call 17; refine (HD2.out _).mono ?_; rintro e w6 ⟨rfl, hb6⟩)
        | (go_at_call 13; refine (HE2.out _).mono ?_; rintro e w7 ⟨rfl, hb7⟩))
      go_ret
      exact ⟨rfl, below_then (below_al (below_then (below_al HB5.out _) hb6) _) hb7⟩
  · rcases Hc2.out with ⟨rfl, rfl, rfl⟩ | rfl
    · clear Hc Hc2
      go_wp2_with (first
        | (go_at_call 17; refine (HD2.out _).mono ?_; rintro e w6 ⟨rfl, hb6⟩)
        | (go_at_call 13; refine (HE2.out _).mono ?_; rintro e w7 ⟨rfl, hb7⟩))
      go_ret
      exact ⟨rfl, below_then (below_al (below_then (below_al HB5.out _) hb6) _) hb7⟩
    · clear Hc Hc2
      go_wp2_with (first
        | (go_at_call 17; refine (HD2.out _).mono ?_; rintro e w6 ⟨rfl, hb6⟩)
        | (go_at_call 13; refine (HE2.out _).mono ?_; rintro e w7 ⟨rfl, hb7⟩))
      go_ret
      exact ⟨rfl, below_then (below_al (below_then (below_al HB5.out _) hb6) _) hb7⟩
end Go.Proofs.Ytbmdodkgaehgnaa
