/- The law on sizes, and an untouched disk: PageSizes. -/
import Derived.Test.YtbmdodkgaehgnaaPM
import Derived.Test.YtbmdodkgaehgnaaPC
import Derived.Test.YtbmdodkgaehgnaaDC
import Derived.Deep.QuietTactic
import Derived.BigQuiet
namespace Go.Proofs.Ytbmdodkgaehgnaa
open Go Go.RowKit Sm
attribute [local go_sem] Oper.semAt_some

theorem accL_new (n id : Nat) (h : id * 4 + 3 < n) : accL (Dk.new n) id 4 = List.replicate 256 0 := by
  have hz : ∀ i, i < n → (Dk.new n).seen.getD i [] = List.replicate 64 0 := fun i hi => by
    simp [Dk.new, List.getD, hi, zero64]
  unfold accL
  simp only [List.range_succ, List.range_zero, List.nil_append, List.map_append, List.map_cons, List.map_nil, List.cons_append, List.flatten_cons, List.flatten_nil]
  rw [hz _ (by omega), hz _ (by omega), hz _ (by omega), hz _ (by omega)]
  simp only [List.append_nil, List.replicate_append_replicate]
theorem zeros_none : isPg (List.replicate 256 0) = false := by decide +kernel
theorem rdV_new (n id : Nat) (h : id * 4 + 3 < n) : rdV (Dk.new n) id = .tuple #[.agg #[.int .i64 0, .int .u32 0, .int .u64 0, .string ⟨#[]⟩], .int .i64 30] := by
  unfold rdV rdOk
  have hok : loadOk (Dk.new n) id = true := by simp [loadOk, Dk.new]; omega
  rw [accL_new n id h, zeros_none, hok]
  rfl

/-- What Encode answers: letters, and what is known of them. -/
theorem size1 (q : Pg) (hq : q.Ok) : ∃ (E : List UInt8) (C : Int), (∀ w, Calls Try.prog 13 #[q.v] w fun e w' => e = .returned (.tuple #[.string ⟨E.toArray⟩, .int .i64 C]) ∧ Below w.heap.size w w') ∧ ((C = 0 ∧ E.length = 256 ∧ q.body.length ≤ 237 ∧ (⟨E.toArray⟩ : ByteArray).extract 15 (15 + q.body.length) = ⟨q.body.toArray⟩) ∨ C = 30) := by
  have h1 := fun w => encode_any q ⟨hq⟩ w
  unfold Pg.encR at h1
  by_cases h : q.right = true
  · rw [if_pos h] at h1
    have h6 := (q.right_iff.1 h).2.2.2.2.2
    refine ⟨q.enc, 0, h1, .inl ⟨rfl, q.enc_len h6, h6, ?_⟩⟩
    have e1 : (⟨q.enc.toArray⟩ : ByteArray).extract 15 (15 + q.body.length) = ⟨((q.enc.drop 15).take q.body.length).toArray⟩ := by
      apply ByteArray.ext
      simp [ByteArray.data_extract]
    have s5 := (segs (putB q.kind.toNat 1) (putB q.id 4) (putB q.tx 8) (putB q.body.length 2) (q.body ++ (sealB (sumN q.text) ++ List.replicate (256 - q.sealed.length) 0)) (by simp) (by simp) (by simp) (by simp)).2.2.2.2
    rw [← q.enc_form] at s5
    rw [e1, s5, List.take_left' rfl]
  · rw [if_neg h] at h1
    exact ⟨[], 30, h1, .inr rfl⟩

set_option maxRecDepth 20000 in
set_option maxHeartbeats 4000000 in
theorem pageSizes_any (p : Pg) (hp : p.In) (id : Nat) (hid : id < 4294967296) (w : World) : Calls Try.prog 9 #[p.v, .int .u32 id] w fun e w' => e = .returned (.bool true) ∧ Below w.heap.size w w' := by
  obtain ⟨E, C, hE, hc⟩ := size1 p.small hp.small
  have HE : Veil _ := ⟨hE⟩
  have SM : Veil (∀ w, Calls Try.prog 12 #[p.v] w fun e w' => e = .returned p.small.v ∧ Below w.heap.size w w') := ⟨small_any p hp.b⟩
  clear hE hp
  obtain ⟨k, i, t, b⟩ := p
  unfold Pg.small at *
  unfold Pg.v at *
  dsimp only at *
  generalize b.take 250 = bs at *
  generalize (i : Int) = I at *
  generalize (t : Int) = T at *
  generalize (⟨b.toArray⟩ : ByteArray) = b0 at *
  obtain ⟨WB, hWB⟩ : ∃ WB, w.alloc (.cells #[.int .i64 k, .int .u32 I, .int .u64 T, .string b0] 25) = WB := ⟨_, rfl⟩
  have hpB : Veil (WB.heap[w.heap.size]? = some (.cells #[.int .i64 k, .int .u32 I, .int .u64 T, .string b0] 25 (0, 0))) := ⟨by rw [← hWB]; exact heap_alloc_new _ _⟩
  have hlw : Veil (w.heap.size < WB.heap.size) := ⟨by rw [← hWB]; simp⟩
  have hwB : Veil (Below w.heap.size w WB) := ⟨by rw [← hWB]; exact below_al (Below.refl _ _) _⟩
  have Hc : Veil _ := ⟨hc⟩
  clear hc
  go_enter Try.func9, Try.ntmps9
  go_wp2_with (first
    | (go_at_call 11; refine (shown3_any _).mono ?_; rintro e w1 ⟨rfl, hb1⟩; have hp1 : Veil _ := ⟨(hb1.block w.heap.size hlw.out).trans hpB.out⟩; obtain ⟨⟨x0, x1, x2, x3⟩, -⟩ := pack4 hp1.out)
    | (go_at_call 12; refine (SM.out _).mono ?_; rintro e w2 ⟨rfl, hb2⟩; have hp2 : Veil _ := ⟨(hb2.block w.heap.size (Nat.lt_of_lt_of_le hlw.out hb1.size)).trans hp1.out⟩; obtain ⟨⟨y0, y1, y2, y3⟩, f0, f1, f2, f3⟩ := pack4 hp2.out; clear x0 x1 x2 x3)
    | fail)
  obtain ⟨W3, hW3⟩ : ∃ W3, ((((w2.setCell ⟨w.heap.size, 0, none⟩ (.int .i64 k)).setCell ⟨w.heap.size, 1, none⟩ (.int .u32 I)).setCell ⟨w.heap.size, 2, none⟩ (.int .u64 T)).setCell ⟨w.heap.size, 3, none⟩ (.string ⟨bs.toArray⟩)) = W3 := ⟨_, rfl⟩
  rw [hW3]
  have hp3 : Veil (W3.heap[w.heap.size]? = some (.cells #[.int .i64 k, .int .u32 I, .int .u64 T, .string ⟨bs.toArray⟩] 25 (0, 0))) := ⟨by rw [← hW3]; exact set4 hp2.out _ _ _ _⟩
  have hl3 : Veil (w.heap.size < W3.heap.size) := ⟨lt_of_heap hp3.out⟩
  have hb3 : Veil (Below w.heap.size w W3) := ⟨by rw [← hW3]; exact turn4 ((hwB.out.trans (hb1.mono (Nat.le_of_lt hlw.out))).trans (hb2.mono (Nat.le_trans (Nat.le_of_lt hlw.out) hb1.size))) (Nat.le_refl _) _ _ _ _⟩
  clear hW3 y0 y1 y2 y3 f0 f1 f2 f3 hp2 hp1 hb1 hb2 hWB hpB hlw hwB SM
  refine (HE.out _).mono ?_
  rintro e w4 ⟨rfl, hb4⟩
  have hp4 : Veil _ := ⟨(hb4.block w.heap.size hl3.out).trans hp3.out⟩
  obtain ⟨⟨z0, z1, z2, z3⟩, -⟩ := pack4 hp4.out
  have HB4 : Veil (Below w.heap.size w w4) := ⟨hb3.out.trans (hb4.mono (Nat.le_of_lt hl3.out))⟩
  clear hb4
  rcases Hc.out with ⟨rfl, hE256, hbl, hex⟩ | rfl
  · clear Hc
    go_wp2_with fail
    have hw3 : IntKind.i64.wrap (15 + (bs.length : Int)) = 15 + bs.length := by rw [IntKind.wrap_i64]; omega
    have hw4 : (15 + (bs.length : Int)).toNat = 15 + bs.length := by omega
    have hw5 : (15 + (bs.length : Int)) ≤ 256 := by omega
    have hw6 : 0 ≤ 15 + (bs.length : Int) := by omega
    have hw7 : (15 : Int) ≤ 15 + bs.length := by omega
    have hw8 : 15 + bs.length ≤ 256 := by omega
    go_quiet (fail)
    all_goals
      obtain ⟨W5, hW5⟩ : ∃ W5, w4.drewN nq = W5 := ⟨_, rfl⟩
      rw [hW5]
      have HB5 : Veil (Below w.heap.size w W5) := ⟨by rw [← hW5]; exact ⟨HB4.out.os, HB4.out.tape, HB4.out.output, HB4.out.size, HB4.out.block⟩⟩
      clear hW5 z0 z1 z2 z3 hp4 HB4 hb3 hl3 hp3 HE
      have HRd : Veil (id * 4 + 3 < 40 → ∀ (W : World) (d kb sb : Nat) (v : Value), DiskAt W d kb sb v (Dk.new 40) → Calls Try.prog 24 #[.pointer (some ⟨d, 0, none⟩), .int .u32 id] W fun e w' => e = .returned (.tuple #[.agg #[.int .i64 0, .int .u32 0, .int .u64 0, .string ⟨#[]⟩], .int .i64 30]) ∧ Below W.heap.size W w') := ⟨fun h W d kb sb v hD => by have := pread_any hD id hid; rwa [rdV_new 40 id h] at this⟩
      obtain ⟨J, hJ⟩ : ∃ J : Int, (id : Int) = J := ⟨_, rfl⟩
      rw [hJ] at HRd ⊢
      have hJ0 : 0 ≤ J := by omega
      have HJ : Veil _ := ⟨hJ⟩
      clear hid hJ
      by_cases j1 : J < 2
      · go_wp2
        go_ret
        exact ⟨rfl, HB5.out⟩
      · by_cases j2 : 9 < J
        · go_wp2
          go_ret
          exact ⟨rfl, HB5.out⟩
        · have hr : id * 4 + 3 < 40 := by have := HJ.out; omega
          have hr' : Veil _ := ⟨hr⟩
          clear hr
          go_wp2_with (first
            | (go_at_call 19; refine (new_any 40 (by decide) (by decide) _).mono ?_; rintro e w6 ⟨d, kb, sb, rfl, hD, hb6, -, -, -⟩; have HD6 : Veil _ := ⟨hD⟩; have HB6 : Veil _ := ⟨hb6⟩; clear hD hb6)
            | (go_at_call 24; refine (HRd.out hr'.out _ _ _ _ _ HD6.out).mono ?_; rintro e w7 ⟨rfl, hb7⟩))
          go_ret
          exact ⟨rfl, below_al (below_then (below_then HB5.out HB6.out) hb7) _⟩
  · clear Hc
    go_wp2_with fail
    go_quiet (fail)
    all_goals
      obtain ⟨W5, hW5⟩ : ∃ W5, w4.drewN nq = W5 := ⟨_, rfl⟩
      rw [hW5]
      have HB5 : Veil (Below w.heap.size w W5) := ⟨by rw [← hW5]; exact ⟨HB4.out.os, HB4.out.tape, HB4.out.output, HB4.out.size, HB4.out.block⟩⟩
      clear hW5 z0 z1 z2 z3 hp4 HB4 hb3 hl3 hp3 HE
      have HRd : Veil (id * 4 + 3 < 40 → ∀ (W : World) (d kb sb : Nat) (v : Value), DiskAt W d kb sb v (Dk.new 40) → Calls Try.prog 24 #[.pointer (some ⟨d, 0, none⟩), .int .u32 id] W fun e w' => e = .returned (.tuple #[.agg #[.int .i64 0, .int .u32 0, .int .u64 0, .string ⟨#[]⟩], .int .i64 30]) ∧ Below W.heap.size W w') := ⟨fun h W d kb sb v hD => by have := pread_any hD id hid; rwa [rdV_new 40 id h] at this⟩
      obtain ⟨J, hJ⟩ : ∃ J : Int, (id : Int) = J := ⟨_, rfl⟩
      rw [hJ] at HRd ⊢
      have hJ0 : 0 ≤ J := by omega
      have HJ : Veil _ := ⟨hJ⟩
      clear hid hJ
      by_cases j1 : J < 2
      · go_wp2
        go_ret
        exact ⟨rfl, HB5.out⟩
      · by_cases j2 : 9 < J
        · go_wp2
          go_ret
          exact ⟨rfl, HB5.out⟩
        · have hr : id * 4 + 3 < 40 := by have := HJ.out; omega
          have hr' : Veil _ := ⟨hr⟩
          clear hr
          go_wp2_with (first
            | (go_at_call 19; refine (new_any 40 (by decide) (by decide) _).mono ?_; rintro e w6 ⟨d, kb, sb, rfl, hD, hb6, -, -, -⟩; have HD6 : Veil _ := ⟨hD⟩; have HB6 : Veil _ := ⟨hb6⟩; clear hD hb6)
            | (go_at_call 24; refine (HRd.out hr'.out _ _ _ _ _ HD6.out).mono ?_; rintro e w7 ⟨rfl, hb7⟩))
          go_ret
          exact ⟨rfl, below_al (below_then (below_then HB5.out HB6.out) hb7) _⟩
theorem lo32 {n : Int} (h : (Lit.int IntKind.u32 n).wf = true) : 0 ≤ n := by
  have := (Lit.wf_int_iff .u32 n).1 h
  simp [IntKind.min, IntKind.signed, IntKind.max, IntKind.bits] at this
  omega
theorem hi32 {n : Int} (h : (Lit.int IntKind.u32 n).wf = true) : n < 4294967296 := by
  have := (Lit.wf_int_iff .u32 n).1 h
  simp [IntKind.min, IntKind.signed, IntKind.max, IntKind.bits] at this
  omega
theorem pageSizes_int (p : Pg) (hp : p.In) (J : Int) (h0 : 0 ≤ J) (h1 : J < 4294967296) (w : World) : Calls Try.prog 9 #[p.v, .int .u32 J] w fun e w' => e = .returned (.bool true) ∧ Below w.heap.size w w' := by
  have := pageSizes_any p hp J.toNat (by omega) w
  rwa [show ((J.toNat : Nat) : Int) = J by omega] at this
end Go.Proofs.Ytbmdodkgaehgnaa
