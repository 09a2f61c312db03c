/- The law on the page of bytes: PageDecodes. -/
import Derived.Test.YtbmdodkgaehgnaaPB
import Derived.Test.YtbmdodkgaehgnaaPD
namespace Go.Proofs.Ytbmdodkgaehgnaa
open Go Go.RowKit Sm
attribute [local go_sem] Oper.semAt_some

theorem min_int (n c : Nat) (W : World) : (Builtin.min_ #[3, 3] 3 #[.int .i64 (n : Int), .int .i64 (c : Int)]).run Try.prog W = .ok (.int .i64 ((min n c : Nat) : Int)) W := by
  rw [run_min_int2]
  by_cases h : (c : Int) < n
  · rw [if_pos h, show min n c = c by omega]
  · rw [if_neg h, show min n c = n by omega]
theorem take_ext (b : List UInt8) (c : Nat) : (⟨b.toArray⟩ : ByteArray).extract 0 (min b.length c) = ⟨(b.take c).toArray⟩ := by
  have h1 : (⟨b.toArray⟩ : ByteArray).extract 0 (min b.length c) = ⟨(b.take (min b.length c)).toArray⟩ := by
    apply ByteArray.ext
    simp [ByteArray.data_extract]
  rw [h1]
  congr 2
  rw [List.take_eq_take_iff]
  omega

/-- What Decode and the document's answer of a text, in letters. -/
theorem decodes (u : List UInt8) (hu : u.length ≤ 1000000) : ∃ (K I T C : Int) (B : List UInt8), (∀ w, Calls Try.prog 17 #[.string ⟨u.toArray⟩] w fun e w' => e = .returned (.tuple #[.agg #[.int .i64 K, .int .u32 I, .int .u64 T, .string ⟨B.toArray⟩], .int .i64 C]) ∧ Below w.heap.size w w') ∧ (∀ w, Calls Try.prog 18 #[.string ⟨u.toArray⟩] w fun e w' => e = .returned (.tuple #[.agg #[.int .i64 K, .int .u32 I, .int .u64 T, .string ⟨B.toArray⟩], .int .i64 C]) ∧ Below w.heap.size w w') :=
  ⟨_, _, _, _, _, decode_any u hu, refdecode_any u hu⟩

set_option maxRecDepth 20000 in
set_option maxHeartbeats 2000000 in
theorem pageDecodes_any (s : List UInt8) (full : Bool) (hs : s.length ≤ 9223372036854775807) (w : World) : Calls Try.prog 4 #[.string ⟨s.toArray⟩, .bool full] w fun e w' => e = .returned (.bool true) ∧ Below w.heap.size w w' := by
  have hmin : ∀ W, (Builtin.min_ #[3, 3] 3 #[.int .i64 (s.length : Int), .int .i64 260]).run Try.prog W = .ok (.int .i64 ((min s.length 260 : Nat) : Int)) W := min_int s.length 260
  have hx := take_ext s 260
  have hl : (s.take 260).length ≤ 260 := by simp; omega
  obtain ⟨m, hm⟩ : ∃ m, min s.length 260 = m := ⟨_, rfl⟩
  have hmb : m ≤ s.length := by omega
  have hm0 : (0 : Int) ≤ m := by omega
  rw [hm] at hmin hx
  clear hm
  obtain ⟨t, ht⟩ : ∃ t, s.take 260 = t := ⟨_, rfl⟩
  rw [ht] at hx hl
  clear ht
  cases full
  · obtain ⟨K, I, T, C, B, hD, hR⟩ := decodes t (by omega)
    have HD : Veil _ := ⟨hD⟩
    have HR : Veil _ := ⟨hR⟩
    clear hD hR
    go_enter Try.func4, Try.ntmps4
    go_wp2_with (first
      | (go_at_call 17; refine (HD.out _).mono ?_; rintro e w2 ⟨rfl, hb2⟩)
      | (go_at_call 18; refine (HR.out _).mono ?_; rintro e w3 ⟨rfl, hb3⟩; obtain ⟨hc3, hf3⟩ := bcell hb3; have hz3 : w2.heap.size < w3.heap.size := (by have := hb3.size; simp at this; omega))
      | (go_at_call 11; refine (shown3_any _).mono ?_; rintro e w1 ⟨rfl, hb1⟩))
    go_ret
    exact ⟨rfl, below_al (below_then (below_al (below_then hb1 hb2) _) hb3) _⟩
  · by_cases h256 : t.length < 256
    · obtain ⟨q, hq⟩ : ∃ q, 256 - t.length = q := ⟨_, rfl⟩
      have hqI : (256 : Int) - (t.length : Int) = (q : Int) := by omega
      have hMK := make_zeros q (by omega)
      have hCV := conv_zeros q
      obtain ⟨zs, hzs⟩ : ∃ zs : List UInt8, List.replicate q 0 = zs := ⟨_, rfl⟩
      have hzl : Veil (zs.length = q) := ⟨by rw [← hzs]; simp⟩
      obtain ⟨Z, hZ⟩ : ∃ Z : Array Value, (List.replicate q (Value.int .u8 0)).toArray = Z := ⟨_, rfl⟩
      rw [hZ] at hMK hCV
      rw [hzs] at hCV
      have hnb : ¬ 9223372036854775807 < t.length + zs.length := by rw [hzl.out]; omega
      obtain ⟨K, I, T, C, B, hD, hR⟩ := decodes (t ++ zs) (by rw [List.length_append, hzl.out]; omega)
      have HD : Veil (∀ w, Calls Try.prog 17 #[.string (⟨t.toArray⟩ ++ ⟨zs.toArray⟩)] w fun e w' => e = .returned (.tuple #[.agg #[.int .i64 K, .int .u32 I, .int .u64 T, .string ⟨B.toArray⟩], .int .i64 C]) ∧ Below w.heap.size w w') := ⟨by rw [str_append]; exact hD⟩
      have HR : Veil (∀ w, Calls Try.prog 18 #[.string (⟨t.toArray⟩ ++ ⟨zs.toArray⟩)] w fun e w' => e = .returned (.tuple #[.agg #[.int .i64 K, .int .u32 I, .int .u64 T, .string ⟨B.toArray⟩], .int .i64 C]) ∧ Below w.heap.size w w') := ⟨by rw [str_append]; exact hR⟩
      have h256' : (t.length : Int) < 256 := by omega
      clear hD hR hzs hZ hq
      go_enter Try.func4, Try.ntmps4
      go_wp2_with (first
        | (go_at_call 17; refine (HD.out _).mono ?_; rintro e w2 ⟨rfl, hb2⟩)
        | (go_at_call 18; refine (HR.out _).mono ?_; rintro e w3 ⟨rfl, hb3⟩; obtain ⟨hc3, hf3⟩ := bcell hb3; have hz3 : w2.heap.size < w3.heap.size := (by have := hb3.size; simp at this; omega))
        | (go_at_call 11; refine (shown3_any _).mono ?_; rintro e w1 ⟨rfl, hb1⟩))
      go_ret
      exact ⟨rfl, below_al (below_then (below_al (below_then (below_al hb1 _) hb2) _) hb3) _⟩
    · obtain ⟨K, I, T, C, B, hD, hR⟩ := decodes t (by omega)
      have HD : Veil _ := ⟨hD⟩
      have HR : Veil _ := ⟨hR⟩
      have h256' : ¬ (t.length : Int) < 256 := by omega
      clear hD hR
      go_enter Try.func4, Try.ntmps4
      go_wp2_with (first
        | (go_at_call 17; refine (HD.out _).mono ?_; rintro e w2 ⟨rfl, hb2⟩)
        | (go_at_call 18; refine (HR.out _).mono ?_; rintro e w3 ⟨rfl, hb3⟩; obtain ⟨hc3, hf3⟩ := bcell hb3; have hz3 : w2.heap.size < w3.heap.size := (by have := hb3.size; simp at this; omega))
        | (go_at_call 11; refine (shown3_any _).mono ?_; rintro e w1 ⟨rfl, hb1⟩))
      go_ret
      exact ⟨rfl, below_al (below_then (below_al (below_then hb1 hb2) _) hb3) _⟩
end Go.Proofs.Ytbmdodkgaehgnaa
