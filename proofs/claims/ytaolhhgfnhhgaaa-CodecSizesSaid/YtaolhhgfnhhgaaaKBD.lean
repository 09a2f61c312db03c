/- The laws on codec: what they share; CodecLong, CodecSizes. -/
import Derived.Test.YtaolhhgfnhhgaaaKB1
import Derived.Test.YtaolhhgfnhhgaaaKB7
import Derived.Test.YtaolhhgfnhhgaaaKCZ
import Derived.Test.YtaolhhgfnhhgaaaKS5
namespace Go.Proofs.Ytaolhhgfnhhgaaa
open Go Go.RowKit Sm
attribute [local go_sem] Oper.semAt_some

theorem cut17_any (s : List UInt8) (_hs : s.length ≤ 9223372036854775807) (w : World) : Calls Try.prog 13 #[.string ⟨s.toArray⟩] w fun e w' => e = .returned (.string ⟨(s.take 60).toArray⟩) ∧ w = w' := by
  have hmin : ∀ W, (Builtin.min_ #[3, 3] 3 #[.int .i64 (s.length : Int), .int .i64 60]).run Try.prog W = .ok (.int .i64 ((min s.length 60 : Nat) : Int)) W := min_two s.length 60
  have HX : Veil _ := ⟨take_extM s 60⟩
  have hk2 : min s.length 60 ≤ s.length := Nat.min_le_left _ _
  generalize s.take 60 = t at HX ⊢
  generalize min s.length 60 = k at hmin HX hk2
  go_enter Try.func13, Try.ntmps13
  go_wp2
  go_ret
  exact ⟨by rw [← HX.out]; rfl, rfl⟩
theorem make_bytes (n : Nat) (hn : n ≤ 1000) (W : World) : (Instr.makeSlice 46 (.int .i64 (n : Int)) (.int .i64 (n : Int))).run Try.prog W = .ok (.slice (some ⟨W.heap.size, 0, none⟩) n n) (W.alloc (.cells (List.replicate n (Value.int .u8 0)).toArray 5)) := by
  obtain ⟨i0, hi, hz0, hz1, hz2⟩ := info_parts info_u8
  have h := run_make (P := Try.prog) W 46 5 i0 (.int .u8 0) Try.underlying46 hi hz0 .i64 .i64 (n : Int) (n : Int) (by omega) (by omega) (by rw [hz2]; omega) (by omega)
  rw [hz1, Nat.mul_one, show ((n : Int).toNat) = n by omega] at h
  rw [← made_zeros]
  exact h
theorem conv_zeros (n : Nat) (hn : n ≤ 1000) (W : World) (g : Nat) (hg : W.heap[g]? = some (.cells (List.replicate n (Value.int .u8 0)).toArray 5 (0, 0))) : (convert 46 9 (.slice (some ⟨g, 0, none⟩) n n)).run Try.prog W = .ok (.string ⟨(List.replicate n (0 : UInt8)).toArray⟩) W := by
  have ho : OwnB W 0 (.slice (some ⟨g, 0, none⟩) n n) (List.replicate n 0) := by
    refine ⟨by simp [u8s], .inr ⟨g, n, _, by simp, Nat.zero_le _, hg, by simp, by unfold maxLen; omega, by simp, ?_⟩⟩
    simp [u8s, u8v]
  exact conv_own ho

set_option maxRecDepth 20000 in
set_option maxHeartbeats 1000000 in
theorem shown17_any (w : World) : Calls Try.prog 9 #[] w fun e w' => e = .returned (.bool true) ∧ Below w.heap.size w w' := by
  have HR : Veil (∀ w, Calls Try.prog 15 #[.agg #[.int .i64 112, .int .i64 0, .int .i64 0]] w fun e w' => e = .returned (.tuple #[.string ⟨#[0, 112, 0, 0, 0, 0, 0, 0, 0, 0, 0, 0, 0, 0, 0, 0, 0, 0]⟩, .int .i64 0]) ∧ Below w.heap.size w w') := ⟨fun w => by
    have h := reply_any ⟨112, 0, 0⟩ w
    have e : repR ⟨112, 0, 0⟩ = ([0, 112, 0, 0, 0, 0, 0, 0, 0, 0, 0, 0, 0, 0, 0, 0, 0, 0], 0) := by decide +kernel
    rw [e] at h
    exact h⟩
  have HP : Veil (∀ w, Calls Try.prog 12 #[.string ⟨#[]⟩] w fun e w' => e = .returned (.tuple #[.agg #[.int .i64 0, .int .u32 0, .int .u32 0, .int .u16 0, .int .i64 0, .int .i64 0], .int .i64 170]) ∧ Below w.heap.size w w') := ⟨fun w => by
    have h := pcmd_any [] (by decide) w
    have e : preqR [] = (Cm.zero, 170) := by unfold preqR; rw [if_neg (fun h => by have := h.1; simp at this)]
    rw [e] at h
    exact h⟩
  have hmk : ∀ W : World, (Instr.makeSlice 46 (.int .i64 16) (.int .i64 16)).run Try.prog W = .ok (.slice (some ⟨W.heap.size, 0, none⟩) 16 16) (W.alloc (.cells (List.replicate 16 (Value.int .u8 0)).toArray 5)) := fun W => make_bytes 16 (by decide) W
  have hcv : ∀ W : World, (convert 46 9 (.slice (some ⟨W.heap.size, 0, none⟩) 16 16)).run Try.prog (W.alloc (.cells (List.replicate 16 (Value.int .u8 0)).toArray 5)) = .ok (.string ⟨#[0, 0, 0, 0, 0, 0, 0, 0, 0, 0, 0, 0, 0, 0, 0, 0]⟩) (W.alloc (.cells (List.replicate 16 (Value.int .u8 0)).toArray 5)) := fun W => conv_zeros 16 (by decide) _ _ (heap_alloc_new _ _)
  generalize (List.replicate 16 (Value.int .u8 0)).toArray = ZZ at hmk hcv
  have hadd : (⟨#[0, 112]⟩ : ByteArray) ++ ⟨#[0, 0, 0, 0, 0, 0, 0, 0, 0, 0, 0, 0, 0, 0, 0, 0]⟩ = ⟨#[0, 112, 0, 0, 0, 0, 0, 0, 0, 0, 0, 0, 0, 0, 0, 0, 0, 0]⟩ := str_add [0, 112] [0, 0, 0, 0, 0, 0, 0, 0, 0, 0, 0, 0, 0, 0, 0, 0]
  have hz : (⟨#[0, 0, 0, 0, 0, 0, 0, 0, 0, 0, 0, 0, 0, 0, 0, 0]⟩ : ByteArray).size = 16 := rfl
  generalize (⟨#[0, 0, 0, 0, 0, 0, 0, 0, 0, 0, 0, 0, 0, 0, 0, 0]⟩ : ByteArray) = Z16 at hcv hadd hz
  generalize (⟨#[0, 112, 0, 0, 0, 0, 0, 0, 0, 0, 0, 0, 0, 0, 0, 0, 0, 0]⟩ : ByteArray) = T18 at HR hadd
  go_enter Try.func9, Try.ntmps9
  go_wp2_with (first
    | (go_at_call 12; refine (HP.out _).mono ?_; rintro e w2 ⟨rfl, hb2⟩; have hcv2 := hcv (w2.alloc (.cells #[.int .i64 0, .int .u32 0, .int .u32 0, .int .u16 0, .int .i64 0, .int .i64 0] 25)); simp only [World.size_alloc] at hcv2)
    | (go_at_call 15; refine (HR.out _).mono ?_; rintro e w1 ⟨rfl, hb1⟩))
  go_ret
  exact ⟨rfl, below_al (below_al (bc_then hb1 hb2) _) _⟩

set_option maxRecDepth 20000 in
set_option maxHeartbeats 2000000 in
theorem codecLong_any (n : Int) (w : World) : Calls Try.prog 7 #[.int .i64 n] w fun e w' => e = .returned (.bool true) ∧ Below w.heap.size w w' := by
  have HS : Veil _ := ⟨shown17_any⟩
  by_cases hn : 0 ≤ n ∧ n ≤ 110
  · obtain ⟨k, rfl⟩ : ∃ k : Nat, n = k := ⟨n.toNat, by omega⟩
    have hk : k ≤ 110 := by omega
    have g1 : ¬ (k : Int) < 0 := by omega
    have g2 : ¬ (k : Int) > 110 := by omega
    have HF : Veil _ := ⟨fun w => frame_any (List.replicate k 0) (by simp; omega) w⟩
    have hmk : ∀ W : World, (Instr.makeSlice 46 (.int .i64 (k : Int)) (.int .i64 (k : Int))).run Try.prog W = .ok (.slice (some ⟨W.heap.size, 0, none⟩) k k) (W.alloc (.cells (List.replicate k (Value.int .u8 0)).toArray 5)) := fun W => make_bytes k (by omega) W
    have hcv : ∀ W : World, (convert 46 9 (.slice (some ⟨W.heap.size, 0, none⟩) k k)).run Try.prog (W.alloc (.cells (List.replicate k (Value.int .u8 0)).toArray 5)) = .ok (.string ⟨(List.replicate k (0 : UInt8)).toArray⟩) (W.alloc (.cells (List.replicate k (Value.int .u8 0)).toArray 5)) := fun W => conv_zeros k (by omega) _ _ (heap_alloc_new _ _)
    by_cases hb : 1 ≤ k ∧ k ≤ 100
    · have e : frameR (List.replicate k 0) = (putB k 2 ++ List.replicate k 0, 0) := by unfold frameR; simp [hb]
      rw [e] at HF
      have hs : (⟨(putB k 2 ++ List.replicate k 0).toArray⟩ : ByteArray).size = k + 2 := by simp [ByteArray.size]; omega
      generalize (⟨(putB k 2 ++ List.replicate k 0).toArray⟩ : ByteArray) = S at HF hs
      generalize (⟨(List.replicate k (0 : UInt8)).toArray⟩ : ByteArray) = Z at HF hcv
      generalize (List.replicate k (Value.int .u8 0)).toArray = ZZ at hmk hcv
      have g3 : 1 ≤ (k : Int) := by omega
      have g4 : (k : Int) ≤ 100 := by omega
      clear e hb hn hk
      dsimp only at HF
      go_enter Try.func7, Try.ntmps7
      go_wp2_with (first
        | (go_at_call 19; refine (HF.out _).mono ?_; rintro e w2 ⟨rfl, hb2⟩)
        | (go_at_call 9; refine (HS.out _).mono ?_; rintro e w1 ⟨rfl, hb1⟩; have hcv1 := hcv w1))
      go_ret
      exact ⟨rfl, bc_then (below_al hb1 _) hb2⟩
    · have e : frameR (List.replicate k 0) = ([], 170) := by unfold frameR; simp; omega
      rw [e] at HF
      generalize (⟨(List.replicate k (0 : UInt8)).toArray⟩ : ByteArray) = Z at HF hcv
      generalize (List.replicate k (Value.int .u8 0)).toArray = ZZ at hmk hcv
      clear e hn hk
      dsimp only at HF
      by_cases h1 : (1 : Int) ≤ k
      · have h2 : ¬ (k : Int) ≤ 100 := by omega
        go_enter Try.func7, Try.ntmps7
        go_wp2_with (first
          | (go_at_call 19; refine (HF.out _).mono ?_; rintro e w2 ⟨rfl, hb2⟩)
          | (go_at_call 9; refine (HS.out _).mono ?_; rintro e w1 ⟨rfl, hb1⟩; have hcv1 := hcv w1))
        go_ret
        exact ⟨by show Ending.returned (Value.bool (!decide ((k : Int) ≤ 100))) = _; rw [decide_eq_false (by omega : ¬ (k : Int) ≤ 100)]; rfl, bc_then (below_al hb1 _) hb2⟩
      · go_enter Try.func7, Try.ntmps7
        go_wp2_with (first
          | (go_at_call 19; refine (HF.out _).mono ?_; rintro e w2 ⟨rfl, hb2⟩)
          | (go_at_call 9; refine (HS.out _).mono ?_; rintro e w1 ⟨rfl, hb1⟩; have hcv1 := hcv w1))
        go_ret
        exact ⟨rfl, bc_then (below_al hb1 _) hb2⟩
  · by_cases h1 : n < 0
    · go_enter Try.func7, Try.ntmps7
      go_wp2_with (go_at_call 9; refine (HS.out _).mono ?_; rintro e w1 ⟨rfl, hb1⟩)
      go_ret
      exact ⟨rfl, hb1⟩
    · have h2 : n > 110 := by omega
      go_enter Try.func7, Try.ntmps7
      go_wp2_with (go_at_call 9; refine (HS.out _).mono ?_; rintro e w1 ⟨rfl, hb1⟩)
      go_ret
      exact ⟨rfl, hb1⟩

set_option maxRecDepth 20000 in
set_option maxHeartbeats 2000000 in
theorem codecSizes_any (s : List UInt8) (hs : s.length ≤ 9223372036854775807) (w : World) : Calls Try.prog 8 #[.string ⟨s.toArray⟩] w fun e w' => e = .returned (.bool true) ∧ Below w.heap.size w w' := by
  have HS : Veil _ := ⟨shown17_any⟩
  have HC : Veil _ := ⟨fun w => cut17_any s hs w⟩
  have ht : (s.take 60).length ≤ 60 := by rw [List.length_take]; omega
  generalize s.take 60 = t at HC ht
  have HQ : Veil _ := ⟨fun w => pcmd_any t (by omega) w⟩
  have HA : Veil _ := ⟨fun w => paw_any t (by omega) w⟩
  have hq : (preqR t).2 = 170 ∨ t.length = 27 ∧ (preqR t).2 = 0 := by
    unfold preqR
    split
    · rename_i h; exact .inr ⟨h.1, rfl⟩
    · exact .inl rfl
  have ha : (prepR t).2 = 170 ∨ t.length = 18 ∧ (prepR t).2 = 0 := by
    unfold prepR
    split
    · rename_i h; exact .inr ⟨h.1, rfl⟩
    · exact .inl rfl
  generalize preqR t = x at HQ hq
  generalize prepR t = y at HA ha
  obtain ⟨⟨c0, c1, c2, c3, c4, c5⟩, xe⟩ := x
  obtain ⟨⟨a0, a1, a2⟩, ye⟩ := y
  unfold Cm.v at HQ
  unfold Aw.v at HA
  dsimp only at *
  have fin : ∀ (Q : Prop), ((xe = 170 ∧ ye = 170) → Q) → ((xe = 170 ∧ ye = 0 ∧ t.length = 18) → Q) → ((xe = 0 ∧ ye = 170 ∧ t.length = 27) → Q) → Q := fun Q k1 k2 k3 => by
    rcases hq with h | ⟨h1, h2⟩
    · rcases ha with h' | ⟨h1', h2'⟩
      · exact k1 ⟨h, h'⟩
      · exact k2 ⟨h, h2', h1'⟩
    · rcases ha with h' | ⟨h1', h2'⟩
      · exact k3 ⟨h2, h', h1⟩
      · omega
  clear hq ha hs
  refine fin _ ?_ ?_ ?_
  all_goals
    clear fin
    first | (rintro ⟨rfl, rfl, hl⟩) | (rintro ⟨rfl, rfl⟩)
    go_enter Try.func8, Try.ntmps8
    go_wp2_with (first
      | (go_at_call 13; refine (HC.out _).mono ?_; rintro e w5 ⟨rfl, rfl⟩)
      | (go_at_call 17; refine (HA.out _).mono ?_; rintro e w3 ⟨rfl, hb3⟩)
      | (go_at_call 12; refine (HQ.out _).mono ?_; rintro e w2 ⟨rfl, hb2⟩)
      | (go_at_call 9; refine (HS.out _).mono ?_; rintro e w1 ⟨rfl, hb1⟩))
  all_goals
    go_ret
    exact ⟨rfl, below_al (bc_then (below_al (bc_then hb1 hb2) _) hb3) _⟩
end Go.Proofs.Ytaolhhgfnhhgaaa
