/- The laws on metas' bytes: MetaBytes, MetaDecodes. -/
import Derived.Test.YtghpcjkjhbafnaaKM8
import Derived.Test.YtghpcjkjhbafnaaKMB
import Derived.Test.YtghpcjkjhbafnaaKPE
namespace Go.Proofs.Ytghpcjkjhbafnaa
open Go Go.RowKit Sm
attribute [local go_sem] Oper.semAt_some

/-- What Encode and the document's answer of a meta, in letters. -/
theorem mencodes (m : Mt) (hm : m.Ok) : ∃ (E : List UInt8) (C : Int), (∀ w, Calls Try.prog 30 #[m.v] w fun e w' => e = .returned (.tuple #[.string ⟨E.toArray⟩, .int .i64 C]) ∧ Below w.heap.size w w') ∧ (∀ w, Calls Try.prog 31 #[m.v] w fun e w' => e = .returned (.tuple #[.string ⟨E.toArray⟩, .int .i64 C]) ∧ Below w.heap.size w w') := by
  have h1 := fun w => mencode_any m ⟨hm⟩ w
  have h2 := fun w => refmencode_any m ⟨hm⟩ w
  unfold Mt.encR at h1 h2
  by_cases h : m.right = true
  · rw [if_pos h] at h1 h2
    exact ⟨_, _, h1, h2⟩
  · rw [if_neg h] at h1 h2
    exact ⟨[], _, h1, h2⟩
theorem mdecodes (u : List UInt8) (hu : u.length ≤ 1000000) : ∃ (T A H F C : Int), (∀ w, Calls Try.prog 34 #[.string ⟨u.toArray⟩] w fun e w' => e = .returned (.tuple #[.agg #[.int .u64 T, .int .u32 A, .int .u32 H, .int .u32 F], .int .i64 C]) ∧ Below w.heap.size w w') ∧ (∀ w, Calls Try.prog 35 #[.string ⟨u.toArray⟩] w fun e w' => e = .returned (.tuple #[.agg #[.int .u64 T, .int .u32 A, .int .u32 H, .int .u32 F], .int .i64 C]) ∧ Below w.heap.size w w') :=
  ⟨_, _, _, _, _, mdecode_any u hu, refmdecode_any u hu⟩

set_option maxRecDepth 20000 in
set_option maxHeartbeats 2000000 in
theorem metaBytes_any (m : Mt) (hm : m.Ok) (w : World) : Calls Try.prog 6 #[m.v] w fun e w' => e = .returned (.bool true) ∧ Below w.heap.size w w' := by
  obtain ⟨E, C, hE, hR⟩ := mencodes m hm
  obtain ⟨r, hr⟩ : ∃ r, m.right = r := ⟨_, rfl⟩
  have R1 : Veil (∀ w, Calls Try.prog 32 #[m.v] w fun e w' => e = .returned (.bool r) ∧ Below w.heap.size w w') := ⟨by rw [← hr]; exact mright_any _ ⟨hm⟩⟩
  have R2 : Veil (∀ w, Calls Try.prog 33 #[m.v] w fun e w' => e = .returned (.bool r) ∧ Below w.heap.size w w') := ⟨by rw [← hr]; exact refmright_any _⟩
  have HE : Veil _ := ⟨hE⟩
  have HR : Veil _ := ⟨hR⟩
  clear hE hR hr hm
  obtain ⟨t, a, h, f⟩ := m
  unfold Mt.v at *
  dsimp only at *
  generalize (t : Int) = T at *
  generalize (a : Int) = A at *
  generalize (h : Int) = H at *
  generalize (f : Int) = F at *
  obtain ⟨WB, hWB⟩ : ∃ WB, w.alloc (.cells #[.int .u64 T, .int .u32 A, .int .u32 H, .int .u32 F] 60) = WB := ⟨_, rfl⟩
  have hpB : Veil (WB.heap[w.heap.size]? = some (.cells #[.int .u64 T, .int .u32 A, .int .u32 H, .int .u32 F] 60 (0, 0))) := ⟨by rw [← hWB]; exact heap_alloc_new _ _⟩
  have hlw : Veil (w.heap.size < WB.heap.size) := ⟨by rw [← hWB]; simp⟩
  have hwB : Veil (Below w.heap.size w WB) := ⟨by rw [← hWB]; exact below_al (Below.refl _ _) _⟩
  have ST : Veil (∀ W, Below WB.heap.size WB W → W.cell? ⟨w.heap.size, 0, none⟩ = some (.int .u64 T) ∧ W.cell? ⟨w.heap.size, 1, none⟩ = some (.int .u32 A) ∧ W.cell? ⟨w.heap.size, 2, none⟩ = some (.int .u32 H) ∧ W.cell? ⟨w.heap.size, 3, none⟩ = some (.int .u32 F)) := ⟨fun W h => (pack4 ((h.block w.heap.size hlw.out).trans hpB.out)).1⟩
  go_enter Try.func6, Try.ntmps6
  go_wp2_with (first
    | (go_at_call 29; refine (shown4_any _).mono ?_; rintro e w1 ⟨rfl, hb1⟩; obtain ⟨x0, x1, x2, x3⟩ := ST.out w1 hb1)
    | (go_at_call 30; refine (HE.out _).mono ?_; rintro e w2 ⟨rfl, hb2⟩; have hb12 := blw_then hb1 hb2; obtain ⟨y0, y1, y2, y3⟩ := ST.out w2 hb12; clear x0 x1 x2 x3)
    | (go_at_call 31; refine (HR.out _).mono ?_; rintro e w3 ⟨rfl, hb3⟩))
  have hb13 := blw_then hb12 hb3
  have HB3 : Veil (Below WB.heap.size WB w3) := ⟨hb13⟩
  have hb0 : Below WB.heap.size WB w3.drew := HB3.out.drew
  clear y0 y1 y2 y3 hb1 hb2 hb3 hb12 hb13 hWB
  go_region_held3 (fun W => W.cell? ⟨w.heap.size, 0, none⟩ = some (.int .u64 T) ∧ W.cell? ⟨w.heap.size, 1, none⟩ = some (.int .u32 A) ∧ W.cell? ⟨w.heap.size, 2, none⟩ = some (.int .u32 H) ∧ W.cell? ⟨w.heap.size, 3, none⟩ = some (.int .u32 F) ∧ Below WB.heap.size WB W) (refine ⟨(ST.out _ ?_).1, (ST.out _ ?_).2.1, (ST.out _ ?_).2.2.1, (ST.out _ ?_).2.2.2, ?_⟩ <;> first | assumption | exact below_then hb0 hb6 | exact below_then5 hb7 (by assumption)) (first
    | (go_at_call 32; refine (R1.out _).mono ?_; rintro e w6 ⟨rfl, hb6⟩)
    | (go_at_call 33; refine (R2.out _).mono ?_; rintro e w7 ⟨rfl, hb7⟩))
  have hf7 : Below WB.heap.size WB w7 := last5 (by assumption)
  have HF7 : Veil (Below w.heap.size w w7) := ⟨hwB.out.trans (hf7.mono hwB.out.size)⟩
  clear hf7 hb7
  go_wp2
  go_ret
  exact ⟨rfl, HF7.out⟩

set_option maxRecDepth 20000 in
set_option maxHeartbeats 2000000 in
theorem metaDecodes_any (s : List UInt8) (hs : s.length ≤ 9223372036854775807) (w : World) : Calls Try.prog 7 #[.string ⟨s.toArray⟩] w fun e w' => e = .returned (.bool true) ∧ Below w.heap.size w w' := by
  have hmin : ∀ W, (Builtin.min_ #[3, 3] 3 #[.int .i64 (s.length : Int), .int .i64 70]).run Try.prog W = .ok (.int .i64 ((min s.length 70 : Nat) : Int)) W := min_int s.length 70
  have hx := take_ext s 70
  have hl : (s.take 70).length ≤ 70 := by simp; omega
  obtain ⟨m, hm⟩ : ∃ m, min s.length 70 = m := ⟨_, rfl⟩
  have hmb : m ≤ s.length := by omega
  have hm0 : (0 : Int) ≤ m := by omega
  rw [hm] at hmin hx
  clear hm
  obtain ⟨t, ht⟩ : ∃ t, s.take 70 = t := ⟨_, rfl⟩
  rw [ht] at hx hl
  clear ht
  obtain ⟨T, A, H, F, C, hD, hR⟩ := mdecodes t (by omega)
  have HD : Veil _ := ⟨hD⟩
  have HR : Veil _ := ⟨hR⟩
  clear hD hR
  go_enter Try.func7, Try.ntmps7
  go_wp2_with (first
    | (go_at_call 34; refine (HD.out _).mono ?_; rintro e w2 ⟨rfl, hb2⟩)
    | (go_at_call 35; refine (HR.out _).mono ?_; rintro e w3 ⟨rfl, hb3⟩; obtain ⟨hc3, hf3⟩ := bcell hb3; have hz3 : w2.heap.size < w3.heap.size := (by have := hb3.size; simp at this; omega))
    | (go_at_call 29; refine (shown4_any _).mono ?_; rintro e w1 ⟨rfl, hb1⟩))
  go_ret
  exact ⟨rfl, below_al (below_then (below_al (below_then hb1 hb2) _) hb3) _⟩
end Go.Proofs.Ytghpcjkjhbafnaa
