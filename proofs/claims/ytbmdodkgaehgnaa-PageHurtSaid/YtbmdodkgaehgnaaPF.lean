/- The law on pages' bytes: PageBytes. -/
import Derived.Test.YtbmdodkgaehgnaaPB
import Derived.Test.YtbmdodkgaehgnaaPD
namespace Go.Proofs.Ytbmdodkgaehgnaa
open Go Go.RowKit Sm
attribute [local go_sem] Oper.semAt_some

/-- What Encode and the document's answer of a page, in letters. -/
theorem encodes (q : Pg) (hq : q.Ok) : ∃ (E : List UInt8) (C : Int), (∀ w, Calls Try.prog 13 #[q.v] w fun e w' => e = .returned (.tuple #[.string ⟨E.toArray⟩, .int .i64 C]) ∧ Below w.heap.size w w') ∧ (∀ w, Calls Try.prog 14 #[q.v] w fun e w' => e = .returned (.tuple #[.string ⟨E.toArray⟩, .int .i64 C]) ∧ Below w.heap.size w w') := by
  have h1 := fun w => encode_any q ⟨hq⟩ w
  have h2 := fun w => refencode_any q ⟨hq⟩ w
  unfold Pg.encR at h1 h2
  by_cases h : q.right = true
  · rw [if_pos h] at h1 h2
    exact ⟨_, _, h1, h2⟩
  · rw [if_neg h] at h1 h2
    exact ⟨[], _, h1, h2⟩

set_option maxRecDepth 20000 in
set_option maxHeartbeats 2000000 in
theorem pageBytes_any (p : Pg) (hp : p.In) (w : World) : Calls Try.prog 3 #[p.v] w fun e w' => e = .returned (.bool true) ∧ Below w.heap.size w w' := by
  obtain ⟨E, C, hE, hR⟩ := encodes p.small hp.small
  obtain ⟨r, hr⟩ : ∃ r, p.small.right = r := ⟨_, rfl⟩
  have R1 : Veil (∀ w, Calls Try.prog 15 #[p.small.v] w fun e w' => e = .returned (.bool r) ∧ Below w.heap.size w w') := ⟨by rw [← hr]; exact right_any _ ⟨hp.small⟩⟩
  have R2 : Veil (∀ w, Calls Try.prog 16 #[p.small.v] w fun e w' => e = .returned (.bool r) ∧ Below w.heap.size w w') := ⟨by rw [← hr]; exact refright_any _ ⟨hp.small⟩⟩
  have SM : Veil (∀ w, Calls Try.prog 12 #[p.v] w fun e w' => e = .returned p.small.v ∧ Below w.heap.size w w') := ⟨small_any p hp.b⟩
  have HE : Veil _ := ⟨hE⟩
  have HR : Veil _ := ⟨hR⟩
  clear hE hR hr hp
  obtain ⟨k, i, t, b⟩ := p
  unfold Pg.small Pg.v at *
  dsimp only at *
  generalize b.take 250 = bs at *
  generalize (i : Int) = I at *
  generalize (t : Int) = T at *
  generalize (⟨b.toArray⟩ : ByteArray) = b0 at *
  obtain ⟨WB, hWB⟩ : ∃ WB, w.alloc (.cells #[.int .i64 k, .int .u32 I, .int .u64 T, .string b0] 25) = WB := ⟨_, rfl⟩
  have hpB : Veil (WB.heap[w.heap.size]? = some (.cells #[.int .i64 k, .int .u32 I, .int .u64 T, .string b0] 25 (0, 0))) := ⟨by rw [← hWB]; exact heap_alloc_new _ _⟩
  have hlw : Veil (w.heap.size < WB.heap.size) := ⟨by rw [← hWB]; simp⟩
  have hwB : Veil (Below w.heap.size w WB) := ⟨by rw [← hWB]; exact below_al (Below.refl _ _) _⟩
  go_enter Try.func3, Try.ntmps3
  go_wp2_with (first
    | (go_at_call 11; refine (shown3_any _).mono ?_; rintro e w1 ⟨rfl, hb1⟩; have hp1 : Veil _ := ⟨(hb1.block w.heap.size hlw.out).trans hpB.out⟩; obtain ⟨⟨x0, x1, x2, x3⟩, -⟩ := pack4 hp1.out)
    | (go_at_call 12; refine (SM.out _).mono ?_; rintro e w2 ⟨rfl, hb2⟩; have hp2 : Veil _ := ⟨(hb2.block w.heap.size (Nat.lt_of_lt_of_le hlw.out hb1.size)).trans hp1.out⟩; obtain ⟨⟨y0, y1, y2, y3⟩, f0, f1, f2, f3⟩ := pack4 hp2.out; clear x0 x1 x2 x3)
    | fail)
  obtain ⟨W3, hW3⟩ : ∃ W3, ((((w2.setCell ⟨w.heap.size, 0, none⟩ (.int .i64 k)).setCell ⟨w.heap.size, 1, none⟩ (.int .u32 I)).setCell ⟨w.heap.size, 2, none⟩ (.int .u64 T)).setCell ⟨w.heap.size, 3, none⟩ (.string ⟨bs.toArray⟩)) = W3 := ⟨_, rfl⟩
  rw [hW3]
  have hp3 : Veil (W3.heap[w.heap.size]? = some (.cells #[.int .i64 k, .int .u32 I, .int .u64 T, .string ⟨bs.toArray⟩] 25 (0, 0))) := ⟨by rw [← hW3]; exact set4 hp2.out _ _ _ _⟩
  have hl3 : Veil (w.heap.size < W3.heap.size) := ⟨lt_of_heap hp3.out⟩
  have hb3 : Veil (Below w.heap.size w W3) := ⟨by rw [← hW3]; exact turn4 ((hwB.out.trans (hb1.mono (Nat.le_of_lt hlw.out))).trans (hb2.mono (Nat.le_trans (Nat.le_of_lt hlw.out) hb1.size))) (Nat.le_refl _) _ _ _ _⟩
  clear hW3 y0 y1 y2 y3 f0 f1 f2 f3 hp2 hp1 hb1 hb2 hWB hpB hlw hwB SM
  refine (HE.out _).mono ?_
  rintro e w4 ⟨rfl, hb4⟩
  have hp4 : Veil _ := ⟨(hb4.block w.heap.size hl3.out).trans hp3.out⟩
  obtain ⟨⟨z0, z1, z2, z3⟩, -⟩ := pack4 hp4.out
  have HB4 : Veil (Below w.heap.size w w4) := ⟨hb3.out.trans (hb4.mono (Nat.le_of_lt hl3.out))⟩
  clear hb4
  go_wp2_with (go_at_call 14; refine (HR.out _).mono ?_; rintro e w5 ⟨rfl, hb5⟩)
  have hp5 : w5.heap[w.heap.size]? = some (.cells #[.int .i64 k, .int .u32 I, .int .u64 T, .string ⟨bs.toArray⟩] 25 (0, 0)) := (hb5.block w.heap.size (lt_of_heap hp4.out)).trans hp4.out
  have HB5 : Veil (Below w.heap.size w w5) := ⟨HB4.out.trans (hb5.mono HB4.out.size)⟩
  obtain ⟨WR, hWR⟩ : ∃ WR, w5.drew = WR := ⟨_, rfl⟩
  have HBR : Veil (Below w.heap.size w WR) := ⟨by rw [← hWR]; exact HB5.out.drew⟩
  have ST : Veil (∀ W, Below WR.heap.size WR W → W.cell? ⟨w.heap.size, 0, none⟩ = some (.int .i64 k) ∧ W.cell? ⟨w.heap.size, 1, none⟩ = some (.int .u32 I) ∧ W.cell? ⟨w.heap.size, 2, none⟩ = some (.int .u64 T) ∧ W.cell? ⟨w.heap.size, 3, none⟩ = some (.string ⟨bs.toArray⟩)) := ⟨fun W h => by
    have : WR.heap[w.heap.size]? = some (.cells #[.int .i64 k, .int .u32 I, .int .u64 T, .string ⟨bs.toArray⟩] 25 (0, 0)) := by rw [← hWR]; exact hp5
    exact (pack4 ((h.block w.heap.size (lt_of_heap this)).trans this)).1⟩
  have hb0 : Below WR.heap.size WR w5.drew := by rw [hWR]; exact Below.refl _ _
  clear z0 z1 z2 z3 hp5 hb5 HB4 hp4 hb3 hl3 hp3 hWR
  go_region_held3 (fun W => W.cell? ⟨w.heap.size, 0, none⟩ = some (.int .i64 k) ∧ W.cell? ⟨w.heap.size, 1, none⟩ = some (.int .u32 I) ∧ W.cell? ⟨w.heap.size, 2, none⟩ = some (.int .u64 T) ∧ W.cell? ⟨w.heap.size, 3, none⟩ = some (.string ⟨bs.toArray⟩) ∧ Below WR.heap.size WR W) (refine ⟨(ST.out _ ?_).1, (ST.out _ ?_).2.1, (ST.out _ ?_).2.2.1, (ST.out _ ?_).2.2.2, ?_⟩ <;> first | assumption | exact below_then hb0 hb6 | exact below_then5 hb7 (by assumption)) (first
    | (go_at_call 15; refine (R1.out _).mono ?_; rintro e w6 ⟨rfl, hb6⟩)
    | (go_at_call 16; refine (R2.out _).mono ?_; rintro e w7 ⟨rfl, hb7⟩))
  have hf7 : Below WR.heap.size WR w7 := last5 (by assumption)
  have HF7 : Veil (Below w.heap.size w w7) := ⟨HBR.out.trans (hf7.mono HBR.out.size)⟩
  clear hf7 hb7
  go_wp2
  go_ret
  exact ⟨rfl, HF7.out⟩
end Go.Proofs.Ytbmdodkgaehgnaa
