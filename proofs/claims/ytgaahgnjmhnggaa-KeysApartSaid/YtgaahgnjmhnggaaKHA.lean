/- The laws on keys: shown, KeysApart, KeysMade. -/
import Derived.Deep.RegionHeld3
import Derived.Test.YtgaahgnjmhnggaaKHI
import Derived.Test.YtgaahgnjmhnggaaKCZ
import Derived.Test.YtgaahgnjmhnggaaKN1
namespace Go.Proofs.Ytgaahgnjmhnggaa
open Go Go.RowKit Sm
attribute [local go_sem] Oper.semAt_some

def exPl : Pl := ⟨2, 1, 258, 0⟩
set_option maxRecDepth 20000 in
theorem shown10_any (w : World) : Calls Try.prog 8 #[] w fun e w' => e = .returned (.bool true) ∧ Below w.heap.size w w' := by
  have H1 : Veil (∀ w, Calls Try.prog 9 #[.agg #[.int .i64 2, .int .u32 1, .int .u16 258, .int .u32 0]] w fun e w' => e = .returned (.tuple #[.string ⟨#[105, 0, 0, 0, 1, 1, 2]⟩, .int .i64 0]) ∧ Below w.heap.size w w') := ⟨fun w => by
    have := kykey_any exPl ⟨by simp [exPl, I64], by decide, by decide, by decide⟩ w
    rwa [show exPl.keyR = ([105, 0, 0, 0, 1, 1, 2], 0) by decide +kernel] at this⟩
  have H2 : Veil (∀ w, Calls Try.prog 11 #[.string ⟨#[]⟩] w fun e w' => e = .returned (.tuple #[.agg #[.int .i64 0, .int .u32 0, .int .u16 0, .int .u32 0], .int .i64 100]) ∧ Below w.heap.size w w') := ⟨fun w => by
    have := kyparse_any [] (by decide) w
    rwa [show parseK [] = (Pl.zero, 100) from rfl] at this⟩
  go_enter Try.func8, Try.ntmps8
  go_wp2_with (first
    | (go_at_call 11; refine (H2.out _).mono ?_; rintro e w2 ⟨rfl, hb2⟩)
    | (go_at_call 9; refine (H1.out _).mono ?_; rintro e w1 ⟨rfl, hb1⟩))
  go_ret
  exact ⟨rfl, below_al (bc_then hb1 hb2) _⟩

theorem al_then {B : Nat} {w w1 w2 : World} (h : Below B w w1) (o : Obj) (k : Below (w1.alloc o).heap.size (w1.alloc o) w2) (hB : B ≤ w.heap.size := by exact Nat.le_refl _) : Below B w w2 :=
  have h1 := h.alloc (Nat.le_trans hB h.size) o
  h1.trans (k.mono (Nat.le_trans hB h1.size))
theorem last2 {a b : Prop} (h : a ∧ b) : b := h.2
def Twelve (W : World) (b b4 b5 : Nat) (k1 A I M qk QA QI QM : Int) : Prop := W.cell? ⟨b, 0, none⟩ = some (.int .i64 k1) ∧ W.cell? ⟨b, 1, none⟩ = some (.int .u32 A) ∧ W.cell? ⟨b, 2, none⟩ = some (.int .u16 I) ∧ W.cell? ⟨b, 3, none⟩ = some (.int .u32 M) ∧ W.cell? ⟨b4, 0, none⟩ = some (.int .i64 qk) ∧ W.cell? ⟨b4, 1, none⟩ = some (.int .u32 QA) ∧ W.cell? ⟨b4, 2, none⟩ = some (.int .u16 QI) ∧ W.cell? ⟨b4, 3, none⟩ = some (.int .u32 QM) ∧ W.cell? ⟨b5, 0, none⟩ = some (.int .i64 qk) ∧ W.cell? ⟨b5, 1, none⟩ = some (.int .u32 QA) ∧ W.cell? ⟨b5, 2, none⟩ = some (.int .u16 QI) ∧ W.cell? ⟨b5, 3, none⟩ = some (.int .u32 QM)
theorem twelve {W : World} {b b4 b5 : Nat} {k1 A I M qk QA QI QM : Int} (h1 : PlBox W b k1 A I M) (h2 : PlBox W b4 qk QA QI QM) (h3 : PlBox W b5 qk QA QI QM) : Twelve W b b4 b5 k1 A I M qk QA QI QM :=
  ⟨h1.k, h1.a, h1.i, h1.m, h2.k, h2.a, h2.i, h2.m, h3.k, h3.a, h3.i, h3.m⟩

set_option maxRecDepth 20000 in
set_option maxHeartbeats 2000000 in
theorem keysMade_any (p : Pl) (hp : p.Ok) (s : List UInt8) (hs : s.length ≤ 9223372036854775807) (w : World) : Calls Try.prog 3 #[p.v, .string ⟨s.toArray⟩] w fun e w' => e = .returned (.bool true) ∧ Below w.heap.size w w' := by
  have hmin : ∀ W, (Builtin.min_ #[3, 3] 3 #[.int .i64 (s.length : Int), .int .i64 20]).run Try.prog W = .ok (.int .i64 ((min s.length 20 : Nat) : Int)) W := min_two s.length 20
  have hX := take_extM s 20
  have hk2 : min s.length 20 ≤ s.length := Nat.min_le_left _ _
  have ht : (s.take 20).length ≤ 20 := by rw [List.length_take]; omega
  generalize s.take 20 = t at hX ht
  generalize min s.length 20 = k at hmin hX hk2
  have P1 : Veil _ := ⟨fun w => kykey_any p hp w⟩
  have R1 : Veil _ := ⟨fun w => refkey_any p hp w⟩
  have P2 : Veil _ := ⟨fun w => kyparse_any t (by omega) w⟩
  have R2 : Veil _ := ⟨fun w => refparseK_any t w⟩
  have P3 : Veil _ := ⟨fun w => kyright_any p hp w⟩
  have R3 : Veil _ := ⟨fun w => refplace_any p w⟩
  unfold ParseGoal at R2
  generalize p.keyR = x1 at P1 R1
  generalize parseK t = x2 at P2 R2
  generalize p.right = x3 at P3 R3
  obtain ⟨S, c1⟩ := x1
  obtain ⟨q, c2⟩ := x2
  obtain ⟨qk, qa, qi, qm⟩ := q
  obtain ⟨k1, a, i, m⟩ := p
  unfold Pl.v at *
  dsimp only at *
  generalize (a : Int) = A at *
  generalize (i : Int) = I at *
  generalize (m : Int) = M at *
  generalize (qa : Int) = QA at *
  generalize (qi : Int) = QI at *
  generalize (qm : Int) = QM at *
  have HB : Veil (PlBox (w.alloc (.cells #[.int .i64 k1, .int .u32 A, .int .u16 I, .int .u32 M] 25)) w.heap.size k1 A I M) := ⟨PlBox.new _ _ _ _ _ _⟩
  have HW : Veil (Below w.heap.size w (w.alloc (.cells #[.int .i64 k1, .int .u32 A, .int .u16 I, .int .u32 M] 25))) := ⟨below_al (Below.refl _ _) _⟩
  clear hp
  go_enter Try.func3, Try.ntmps3
  go_wp2_with (first
    | (go_at_call 12; refine (R2.out _).mono ?_; rintro e w5 ⟨rfl, hb5⟩; have hT := bc_then (below_al hT _) hb5)
    | (go_at_call 11; refine (P2.out _).mono ?_; rintro e w4 ⟨rfl, hb4⟩; have hT := bc_then hT hb4)
    | (go_at_call 10; refine (R1.out _).mono ?_; rintro e w3 ⟨rfl, hb3⟩; have hT := bc_then hT hb3; have HQ3 : Veil _ := ⟨HQ2.out.below hb3⟩; obtain ⟨c0, c1, c2, c3⟩ := HQ3.out)
    | (go_at_call 9; refine (P1.out _).mono ?_; rintro e w2 ⟨rfl, hb2⟩; have hT := bc_then hT hb2; have HQ2 : Veil _ := ⟨HQ1.out.below hb2⟩; obtain ⟨c0, c1, c2, c3⟩ := HQ2.out)
    | (go_at_call 8; refine (shown10_any _).mono ?_; rintro e w1 ⟨rfl, hb1⟩; have hT := bc_then HW.out hb1; have HQ1 : Veil _ := ⟨HB.out.below hb1⟩; obtain ⟨c0, c1, c2, c3⟩ := HQ1.out))
  obtain ⟨X, hX⟩ : ∃ X, w5.alloc (.cells #[.int .i64 qk, .int .u32 QA, .int .u16 QI, .int .u32 QM] 25) = X := ⟨_, rfl⟩
  have HZ : Veil (PlBox X w.heap.size k1 A I M ∧ PlBox X w4.heap.size qk QA QI QM ∧ PlBox X w5.heap.size qk QA QI QM ∧ Below w.heap.size w X) := ⟨by
    rw [← hX]
    exact ⟨((HQ3.out.below hb4).below (al_then (Below.refl _ _) _ hb5)).below (below_al (Below.refl _ _) _), ((PlBox.new _ _ _ _ _ _).below hb5).below (below_al (Below.refl _ _) _), PlBox.new _ _ _ _ _ _, below_al hT _⟩⟩
  rw [hX]
  obtain ⟨b4, hb4'⟩ : ∃ b, w4.heap.size = b := ⟨_, rfl⟩
  obtain ⟨b5, hb5'⟩ : ∃ b, w5.heap.size = b := ⟨_, rfl⟩
  rw [hb4', hb5'] at HZ
  rw [hb4', hb5']
  clear hX hb4' hb5' hT hb1 hb2 hb3 hb4 hb5 c0 c1 c2 c3
  have ST : Veil (∀ W, Below X.heap.size X W → Twelve W w.heap.size b4 b5 k1 A I M qk QA QI QM) := ⟨fun W h => twelve (HZ.out.1.below h) (HZ.out.2.1.below h) (HZ.out.2.2.1.below h)⟩
  have hb0 : Below X.heap.size X X.drew := (Below.refl _ _).drew
  unfold Twelve at ST
  go_region_held3 (fun W => (W.cell? ⟨w.heap.size, 0, none⟩ = some (.int .i64 k1) ∧ W.cell? ⟨w.heap.size, 1, none⟩ = some (.int .u32 A) ∧ W.cell? ⟨w.heap.size, 2, none⟩ = some (.int .u16 I) ∧ W.cell? ⟨w.heap.size, 3, none⟩ = some (.int .u32 M) ∧ W.cell? ⟨b4, 0, none⟩ = some (.int .i64 qk) ∧ W.cell? ⟨b4, 1, none⟩ = some (.int .u32 QA) ∧ W.cell? ⟨b4, 2, none⟩ = some (.int .u16 QI) ∧ W.cell? ⟨b4, 3, none⟩ = some (.int .u32 QM) ∧ W.cell? ⟨b5, 0, none⟩ = some (.int .i64 qk) ∧ W.cell? ⟨b5, 1, none⟩ = some (.int .u32 QA) ∧ W.cell? ⟨b5, 2, none⟩ = some (.int .u16 QI) ∧ W.cell? ⟨b5, 3, none⟩ = some (.int .u32 QM)) ∧ Below X.heap.size X W) (refine ⟨ST.out _ ?_, ?_⟩ <;> first | assumption | exact bc_then hb0 hb6 | exact bc_then (last2 (by assumption)) hb7) (first
    | (go_at_call 13; refine (P3.out _).mono ?_; rintro e w6 ⟨rfl, hb6⟩)
    | (go_at_call 14; refine (R3.out _).mono ?_; rintro e w7 ⟨rfl, hb7⟩))
  have hf7 : Below X.heap.size X w7 := last2 (by assumption)
  have HF7 : Veil (Below w.heap.size w w7) := ⟨bc_then HZ.out.2.2.2 hf7⟩
  clear hf7 hb7
  go_wp2
  go_ret
  exact ⟨rfl, HF7.out⟩

/-! ### KeysApart -/
theorem key_apart (p q : Pl) (hp : p.Ok) (hq : q.Ok) : p.keyR.2 ≠ 0 ∨ q.keyR.2 ≠ 0 ∨ (p.keyR.2 = 0 ∧ q.keyR.2 = 0 ∧ (p.keyR.1 = q.keyR.1 ↔ p = q)) := by
  unfold Pl.keyR
  by_cases h1 : p.right = true
  · by_cases h2 : q.right = true
    · rw [if_pos h1, if_pos h2]
      refine .inr (.inr ⟨rfl, rfl, fun h => ?_, fun h => by rw [h]⟩)
      have e1 := p.back hp h1
      have e2 := q.back hq h2
      dsimp only at h
      rw [h, e2] at e1
      simp only [Prod.mk.injEq, and_true] at e1
      exact e1.symm
    · rw [if_neg h2]; exact .inr (.inl (by decide))
  · rw [if_neg h1]; exact .inl (by decide)
end Go.Proofs.Ytgaahgnjmhnggaa

/- The laws on keys: KeysApart, KeysBack. -/
namespace Go.Proofs.Ytgaahgnjmhnggaa
open Go Go.RowKit Sm
attribute [local go_sem] Oper.semAt_some

theorem PlBox.new1 (w : World) (o : Obj) (k A I M : Int) (T : TypeId) : PlBox ((w.alloc o).alloc (.cells #[.int .i64 k, .int .u32 A, .int .u16 I, .int .u32 M] T)) (w.heap.size + 1) k A I M := by
  constructor <;> exact cell_whole (cur := [.int .i64 k, .int .u32 A, .int .u16 I, .int .u32 M]) (heap_alloc2_new _ _ _) _
theorem Pl.apart {p q : Pl} (h : p ≠ q) : p.kind ≠ q.kind ∨ p.kind = q.kind ∧ ((p.a : Int) ≠ (q.a : Int) ∨ (p.a : Int) = (q.a : Int) ∧ ((p.item : Int) ≠ (q.item : Int) ∨ (p.item : Int) = (q.item : Int) ∧ (p.mail : Int) ≠ (q.mail : Int))) := by
  obtain ⟨k, a, i, m⟩ := p
  obtain ⟨k', a', i', m'⟩ := q
  dsimp only
  by_cases h1 : k = k'
  · by_cases h2 : a = a'
    · by_cases h3 : i = i'
      · by_cases h4 : m = m'
        · exact absurd (by rw [h1, h2, h3, h4]) h
        · exact .inr ⟨h1, .inr ⟨by omega, .inr ⟨by omega, by omega⟩⟩⟩
      · exact .inr ⟨h1, .inr ⟨by omega, .inl (by omega)⟩⟩
    · exact .inr ⟨h1, .inl (by omega)⟩
  · exact .inl h1

set_option maxRecDepth 20000 in
set_option maxHeartbeats 2000000 in
theorem keysApart_any (p q : Pl) (hp : p.Ok) (hq : q.Ok) (w : World) : Calls Try.prog 7 #[p.v, q.v] w fun e w' => e = .returned (.bool true) ∧ Below w.heap.size w w' := by
  have P1 : Veil _ := ⟨fun w => kykey_any p hp w⟩
  have P2 : Veil _ := ⟨fun w => kykey_any q hq w⟩
  have F := key_apart p q hp hq
  by_cases hpq : p = q
  · subst hpq
    generalize p.keyR = x1 at P1 P2 F
    obtain ⟨S, c1⟩ := x1
    obtain ⟨k1, a, i, m⟩ := p
    unfold Pl.v at *
    dsimp only at *
    generalize (a : Int) = A at *
    generalize (i : Int) = I at *
    generalize (m : Int) = M at *
    have HB : Veil (PlBox ((w.alloc (.cells #[.int .i64 k1, .int .u32 A, .int .u16 I, .int .u32 M] 25)).alloc (.cells #[.int .i64 k1, .int .u32 A, .int .u16 I, .int .u32 M] 25)) w.heap.size k1 A I M ∧ PlBox ((w.alloc (.cells #[.int .i64 k1, .int .u32 A, .int .u16 I, .int .u32 M] 25)).alloc (.cells #[.int .i64 k1, .int .u32 A, .int .u16 I, .int .u32 M] 25)) (w.heap.size + 1) k1 A I M) := ⟨(PlBox.new _ _ _ _ _ _).below (below_al (Below.refl _ _) _), PlBox.new1 _ _ _ _ _ _ _⟩
    have HW : Veil (Below w.heap.size w ((w.alloc (.cells #[.int .i64 k1, .int .u32 A, .int .u16 I, .int .u32 M] 25)).alloc (.cells #[.int .i64 k1, .int .u32 A, .int .u16 I, .int .u32 M] 25))) := ⟨below_al (below_al (Below.refl _ _) _) _⟩
    clear hp hq F
    by_cases hc : c1 = 0
    · subst hc
      go_enter Try.func7, Try.ntmps7
      go_wp2_with (first
        | (go_at_call 9; (with_reducible refine (P1.out _).mono ?_); rintro e w3 ⟨rfl, hb3⟩; have hT := bc_then hT2 hb3; have HQ : Veil _ := ⟨HQ2.out.1.below hb3⟩; obtain ⟨c0, c1, c2, c3⟩ := HQ.out; have HR : Veil _ := ⟨HQ2.out.2.below hb3⟩; obtain ⟨d0, d1, d2, d3⟩ := HR.out)
        | (go_at_call 9; (with_reducible refine (P1.out _).mono ?_); rintro e w2 ⟨rfl, hb2⟩; have hT2 := bc_then hT1 hb2; have HQ2 : Veil _ := ⟨(⟨HQ1.out.1.below hb2, HQ1.out.2.below hb2⟩ : _ ∧ _)⟩; obtain ⟨⟨c0, c1, c2, c3⟩, d0, d1, d2, d3⟩ := HQ2.out)
        | (go_at_call 8; refine (shown10_any _).mono ?_; rintro e w1 ⟨rfl, hb1⟩; have hT1 := bc_then HW.out hb1; have HQ1 : Veil _ := ⟨(⟨HB.out.1.below hb1, HB.out.2.below hb1⟩ : _ ∧ _)⟩; obtain ⟨⟨c0, c1, c2, c3⟩, d0, d1, d2, d3⟩ := HQ1.out))
      all_goals
        go_ret
        exact ⟨rfl, hT⟩
    · go_enter Try.func7, Try.ntmps7
      go_wp2_with (first
        | (go_at_call 9; (with_reducible refine (P1.out _).mono ?_); rintro e w3 ⟨rfl, hb3⟩; have hT := bc_then hT2 hb3; have HQ : Veil _ := ⟨HQ2.out.1.below hb3⟩; obtain ⟨c0, c1, c2, c3⟩ := HQ.out; have HR : Veil _ := ⟨HQ2.out.2.below hb3⟩; obtain ⟨d0, d1, d2, d3⟩ := HR.out)
        | (go_at_call 9; (with_reducible refine (P1.out _).mono ?_); rintro e w2 ⟨rfl, hb2⟩; have hT2 := bc_then hT1 hb2; have HQ2 : Veil _ := ⟨(⟨HQ1.out.1.below hb2, HQ1.out.2.below hb2⟩ : _ ∧ _)⟩; obtain ⟨⟨c0, c1, c2, c3⟩, d0, d1, d2, d3⟩ := HQ2.out)
        | (go_at_call 8; refine (shown10_any _).mono ?_; rintro e w1 ⟨rfl, hb1⟩; have hT1 := bc_then HW.out hb1; have HQ1 : Veil _ := ⟨(⟨HB.out.1.below hb1, HB.out.2.below hb1⟩ : _ ∧ _)⟩; obtain ⟨⟨c0, c1, c2, c3⟩, d0, d1, d2, d3⟩ := HQ1.out))
      all_goals
        go_ret
        exact ⟨rfl, hT⟩
  · have HN := Pl.apart hpq
    have F' : p.keyR.2 ≠ 0 ∨ p.keyR.2 = 0 ∧ q.keyR.2 ≠ 0 ∨ (p.keyR.2 = 0 ∧ q.keyR.2 = 0 ∧ (p.keyR.1 == q.keyR.1) = false) := by
      by_cases h1 : p.keyR.2 = 0
      · by_cases h2 : q.keyR.2 = 0
        · rcases F with h | h | h
          · exact absurd h1 h
          · exact absurd h2 h
          · exact .inr (.inr ⟨h1, h2, by simpa using fun hh => hpq (h.2.2.1 hh)⟩)
        · exact .inr (.inl ⟨h1, h2⟩)
      · exact .inl h1
    clear hpq F
    generalize p.keyR = x1 at P1 F'
    generalize q.keyR = x2 at P2 F'
    obtain ⟨S, c1⟩ := x1
    obtain ⟨S2, c2⟩ := x2
    obtain ⟨k1, a, i, m⟩ := p
    obtain ⟨k2, a2, i2, m2⟩ := q
    unfold Pl.v at *
    dsimp only at *
    generalize (a : Int) = A at *
    generalize (i : Int) = I at *
    generalize (m : Int) = M at *
    generalize (a2 : Int) = A2 at *
    generalize (i2 : Int) = I2 at *
    generalize (m2 : Int) = M2 at *
    have HB : Veil (PlBox ((w.alloc (.cells #[.int .i64 k1, .int .u32 A, .int .u16 I, .int .u32 M] 25)).alloc (.cells #[.int .i64 k2, .int .u32 A2, .int .u16 I2, .int .u32 M2] 25)) w.heap.size k1 A I M ∧ PlBox ((w.alloc (.cells #[.int .i64 k1, .int .u32 A, .int .u16 I, .int .u32 M] 25)).alloc (.cells #[.int .i64 k2, .int .u32 A2, .int .u16 I2, .int .u32 M2] 25)) (w.heap.size + 1) k2 A2 I2 M2) := ⟨(PlBox.new _ _ _ _ _ _).below (below_al (Below.refl _ _) _), PlBox.new1 _ _ _ _ _ _ _⟩
    have HW : Veil (Below w.heap.size w ((w.alloc (.cells #[.int .i64 k1, .int .u32 A, .int .u16 I, .int .u32 M] 25)).alloc (.cells #[.int .i64 k2, .int .u32 A2, .int .u16 I2, .int .u32 M2] 25))) := ⟨below_al (below_al (Below.refl _ _) _) _⟩
    have HP1 : Veil _ := ⟨HB.out.1⟩
    clear hp hq HP1
    rcases F' with F' | ⟨rfl, F'⟩ | ⟨rfl, rfl, F'⟩
    · clear HN
      go_enter Try.func7, Try.ntmps7
      go_wp2_with (first
        | (go_at_call 9; (with_reducible refine (P2.out _).mono ?_); rintro e w3 ⟨rfl, hb3⟩; have hT := bc_then hT2 hb3; have HQ : Veil _ := ⟨HQ2.out.1.below hb3⟩; obtain ⟨c0, c1, c2, c3⟩ := HQ.out; have HR : Veil _ := ⟨HQ2.out.2.below hb3⟩; obtain ⟨d0, d1, d2, d3⟩ := HR.out)
        | (go_at_call 9; (with_reducible refine (P1.out _).mono ?_); rintro e w2 ⟨rfl, hb2⟩; have hT2 := bc_then hT1 hb2; have HQ2 : Veil _ := ⟨(⟨HQ1.out.1.below hb2, HQ1.out.2.below hb2⟩ : _ ∧ _)⟩; obtain ⟨⟨c0, c1, c2, c3⟩, d0, d1, d2, d3⟩ := HQ2.out)
        | (go_at_call 8; refine (shown10_any _).mono ?_; rintro e w1 ⟨rfl, hb1⟩; have hT1 := bc_then HW.out hb1; have HQ1 : Veil _ := ⟨(⟨HB.out.1.below hb1, HB.out.2.below hb1⟩ : _ ∧ _)⟩; obtain ⟨⟨c0, c1, c2, c3⟩, d0, d1, d2, d3⟩ := HQ1.out))
      all_goals
        go_ret
        exact ⟨rfl, hT⟩
    · clear HN
      go_enter Try.func7, Try.ntmps7
      go_wp2_with (first
        | (go_at_call 9; (with_reducible refine (P2.out _).mono ?_); rintro e w3 ⟨rfl, hb3⟩; have hT := bc_then hT2 hb3; have HQ : Veil _ := ⟨HQ2.out.1.below hb3⟩; obtain ⟨c0, c1, c2, c3⟩ := HQ.out; have HR : Veil _ := ⟨HQ2.out.2.below hb3⟩; obtain ⟨d0, d1, d2, d3⟩ := HR.out)
        | (go_at_call 9; (with_reducible refine (P1.out _).mono ?_); rintro e w2 ⟨rfl, hb2⟩; have hT2 := bc_then hT1 hb2; have HQ2 : Veil _ := ⟨(⟨HQ1.out.1.below hb2, HQ1.out.2.below hb2⟩ : _ ∧ _)⟩; obtain ⟨⟨c0, c1, c2, c3⟩, d0, d1, d2, d3⟩ := HQ2.out)
        | (go_at_call 8; refine (shown10_any _).mono ?_; rintro e w1 ⟨rfl, hb1⟩; have hT1 := bc_then HW.out hb1; have HQ1 : Veil _ := ⟨(⟨HB.out.1.below hb1, HB.out.2.below hb1⟩ : _ ∧ _)⟩; obtain ⟨⟨c0, c1, c2, c3⟩, d0, d1, d2, d3⟩ := HQ1.out))
      all_goals
        go_ret
        exact ⟨rfl, hT⟩
    · rcases HN with HN | ⟨rfl, HN | ⟨rfl, HN | ⟨rfl, HN⟩⟩⟩
      all_goals
        go_enter Try.func7, Try.ntmps7
        go_wp2_with (first
          | (go_at_call 9; (with_reducible refine (P2.out _).mono ?_); rintro e w3 ⟨rfl, hb3⟩; have hT := bc_then hT2 hb3; have HQ : Veil _ := ⟨HQ2.out.1.below hb3⟩; obtain ⟨c0, c1, c2, c3⟩ := HQ.out; have HR : Veil _ := ⟨HQ2.out.2.below hb3⟩; obtain ⟨d0, d1, d2, d3⟩ := HR.out)
          | (go_at_call 9; (with_reducible refine (P1.out _).mono ?_); rintro e w2 ⟨rfl, hb2⟩; have hT2 := bc_then hT1 hb2; have HQ2 : Veil _ := ⟨(⟨HQ1.out.1.below hb2, HQ1.out.2.below hb2⟩ : _ ∧ _)⟩; obtain ⟨⟨c0, c1, c2, c3⟩, d0, d1, d2, d3⟩ := HQ2.out)
          | (go_at_call 8; refine (shown10_any _).mono ?_; rintro e w1 ⟨rfl, hb1⟩; have hT1 := bc_then HW.out hb1; have HQ1 : Veil _ := ⟨(⟨HB.out.1.below hb1, HB.out.2.below hb1⟩ : _ ∧ _)⟩; obtain ⟨⟨c0, c1, c2, c3⟩, d0, d1, d2, d3⟩ := HQ1.out))
        all_goals
          go_ret
          exact ⟨rfl, hT⟩
end Go.Proofs.Ytgaahgnjmhnggaa

/- The law on keys: KeysBack. -/
namespace Go.Proofs.Ytgaahgnjmhnggaa
open Go Go.RowKit Sm
attribute [local go_sem] Oper.semAt_some

theorem keyR_err (p : Pl) : p.keyR.2 = 0 ∨ p.keyR.2 = 100 := by unfold Pl.keyR; split <;> simp
theorem parseK_err (s : List UInt8) : (parseK s).2 = 0 ∨ (parseK s).2 = 100 := by unfold parseK; split <;> simp
theorem keyR_back (p : Pl) (hp : p.Ok) : p.keyR.2 = 0 ∧ parseK p.keyR.1 = (p, 0) ∨ p.keyR.2 = 100 := by
  by_cases h : p.right = true
  · refine .inl ?_
    have e : p.keyR = (p.key, 0) := by unfold Pl.keyR; rw [if_pos h]
    rw [e]
    exact ⟨rfl, p.back hp h⟩
  · refine .inr ?_
    unfold Pl.keyR
    rw [if_neg h]
theorem parseK_ok (s : List UInt8) : (parseK s).1.Ok := by
  unfold parseK
  split
  · exact plOf_ok s
  · exact ⟨by simp [Pl.zero, I64], by decide, by decide, by decide⟩
theorem parseK_back (s : List UInt8) : (parseK s).2 = 0 ∧ (parseK s).1.keyR = (s, 0) ∨ (parseK s).2 = 100 := by
  by_cases h : (plOf s).right = true
  · refine .inl ?_
    have e : parseK s = (plOf s, 0) := by unfold parseK; rw [if_pos h]
    rw [e]
    refine ⟨rfl, ?_⟩
    unfold Pl.keyR
    rw [if_pos h, plOf_key s h]
  · refine .inr ?_
    unfold parseK
    rw [if_neg h]

set_option maxRecDepth 20000 in
set_option maxHeartbeats 2000000 in
theorem keysBack_any (p : Pl) (hp : p.Ok) (s : List UInt8) (hs : s.length ≤ 9223372036854775807) (w : World) : Calls Try.prog 4 #[p.v, .string ⟨s.toArray⟩] w fun e w' => e = .returned (.bool true) ∧ Below w.heap.size w w' := by
  have hmin : ∀ W, (Builtin.min_ #[3, 3] 3 #[.int .i64 (s.length : Int), .int .i64 20]).run Try.prog W = .ok (.int .i64 ((min s.length 20 : Nat) : Int)) W := min_two s.length 20
  have hX := take_extM s 20
  have hk2 : min s.length 20 ≤ s.length := Nat.min_le_left _ _
  have ht : (s.take 20).length ≤ 20 := by rw [List.length_take]; omega
  generalize s.take 20 = t at hX ht
  generalize min s.length 20 = k at hmin hX hk2
  have P1 : Veil _ := ⟨fun w => kykey_any p hp w⟩
  have hSl : p.keyR.1.length ≤ 9 := p.keyR_len
  have P2 : Veil _ := ⟨fun w => kyparse_any p.keyR.1 (by omega) w⟩
  have P3 : Veil _ := ⟨fun w => kyparse_any t (by omega) w⟩
  have P4 : Veil _ := ⟨fun w => kykey_any _ (parseK_ok t) w⟩
  have F1 : p.keyR.2 = 0 ∧ (parseK p.keyR.1).1 = p ∧ (parseK p.keyR.1).2 = 0 ∨ p.keyR.2 = 100 := by
    rcases keyR_back p hp with ⟨h1, h2⟩ | h
    · exact .inl ⟨h1, by rw [h2], by rw [h2]⟩
    · exact .inr h
  have F2 : (parseK t).2 = 0 ∧ (parseK t).1.keyR.1 = t ∧ (parseK t).1.keyR.2 = 0 ∨ (parseK t).2 = 100 := by
    rcases parseK_back t with ⟨h1, h2⟩ | h
    · exact .inl ⟨h1, by rw [h2], by rw [h2]⟩
    · exact .inr h
  generalize p.keyR = x1 at P1 P2 F1 hSl
  obtain ⟨S, c1⟩ := x1
  dsimp only at P1 P2 F1 hSl
  generalize parseK S = x2 at P2 F1
  obtain ⟨q, c2⟩ := x2
  generalize parseK t = x3 at P3 P4 F2
  obtain ⟨r, c3⟩ := x3
  dsimp only at P2 P3 P4 F1 F2
  generalize r.keyR = x4 at P4 F2
  obtain ⟨B, c4⟩ := x4
  dsimp only at P4 F2
  clear hp
  have hSl' : S.length ≤ 24 := by omega
  rcases F1 with ⟨rfl, rfl, rfl⟩ | rfl <;> rcases F2 with ⟨rfl, rfl, rfl⟩ | rfl
  all_goals
    first
      | (obtain ⟨k1, a, i, m⟩ := p; obtain ⟨qk, qa, qi, qm⟩ := q)
      | obtain ⟨k1, a, i, m⟩ := q
    obtain ⟨rk, ra, ri, rm⟩ := r
    unfold Pl.v at *
    dsimp only at *
    generalize (a : Int) = A at *
    generalize (i : Int) = I at *
    generalize (m : Int) = M at *
    generalize (ra : Int) = RA at *
    generalize (ri : Int) = RI at *
    generalize (rm : Int) = RM at *
    try generalize (qa : Int) = QA at *
    try generalize (qi : Int) = QI at *
    try generalize (qm : Int) = QM at *
    have HB : Veil (PlBox (w.alloc (.cells #[.int .i64 k1, .int .u32 A, .int .u16 I, .int .u32 M] 25)) w.heap.size k1 A I M) := ⟨PlBox.new _ _ _ _ _ _⟩
    have HW : Veil (Below w.heap.size w (w.alloc (.cells #[.int .i64 k1, .int .u32 A, .int .u16 I, .int .u32 M] 25))) := ⟨below_al (Below.refl _ _) _⟩
    go_enter Try.func4, Try.ntmps4
    go_wp2_with (first
      | (go_at_call 9; (with_reducible refine (P4.out _).mono ?_); rintro e w5 ⟨rfl, hb5⟩; have hT := bc_then (below_al hT _) hb5)
      | (go_at_call 11; (with_reducible refine (P3.out _).mono ?_); rintro e w4 ⟨rfl, hb4⟩; have hT := bc_then (below_al hT _) hb4)
      | (go_at_call 11; (with_reducible refine (P2.out _).mono ?_); rintro e w3 ⟨rfl, hb3⟩; have hT := bc_then hT hb3; have HQ3 : Veil _ := ⟨HQ2.out.below hb3⟩; obtain ⟨c0, c1, c2, c3⟩ := HQ3.out; have hz := World.block_lt_of_cell? _ _ c0; dsimp only at hz)
      | (go_at_call 9; (with_reducible refine (P1.out _).mono ?_); rintro e w2 ⟨rfl, hb2⟩; have hT := bc_then hT hb2; have HQ2 : Veil _ := ⟨HQ1.out.below hb2⟩; obtain ⟨c0, c1, c2, c3⟩ := HQ2.out)
      | (go_at_call 8; refine (shown10_any _).mono ?_; rintro e w1 ⟨rfl, hb1⟩; have hT := bc_then HW.out hb1; have HQ1 : Veil _ := ⟨HB.out.below hb1⟩; obtain ⟨c0, c1, c2, c3⟩ := HQ1.out))
    go_ret
    exact ⟨rfl, hT⟩
end Go.Proofs.Ytgaahgnjmhnggaa

/- Keys in their order: reckoning. -/
namespace Go.Proofs.Ytgaahgnjmhnggaa
open Go Go.RowKit Sm

theorem putB_mod (v n : Nat) (hn : n ≤ 8) : putB (v % 256 ^ n) n = putB v n := by
  have h1 := putB_getB (putB v n) (by rw [putB_length]; exact hn)
  rw [putB_length] at h1
  have h2 : getB (putB v n) = v % 256 ^ n := by
    unfold getB
    have h8 : 256 ^ n ≤ 256 ^ 8 := Nat.pow_le_pow_right (by decide) hn
    have e8 : (256 : Nat) ^ 8 = 18446744073709551616 := rfl
    rw [foldl_putB v n 0 (by omega), Nat.zero_mul, Nat.zero_add]
  rw [← h2, h1]
theorem lessB_cons (a b : UInt8) (r s : List UInt8) : lessB (a :: r) (b :: s) = if a = b then lessB r s else decide (a.toNat < b.toNat) := rfl
theorem lessB_put : ∀ (n : Nat), n ≤ 8 → ∀ (x y : Nat) (r t : List UInt8), x < 256 ^ n → y < 256 ^ n → lessB (putB x n ++ r) (putB y n ++ t) = if x < y then true else if y < x then false else lessB r t
  | 0, _, x, y, r, t, hx, hy => by
    obtain rfl : x = 0 := by simpa using hx
    obtain rfl : y = 0 := by simpa using hy
    rfl
  | n + 1, hn, x, y, r, t, hx, hy => by
    have ih := lessB_put n (by omega) (x % 256 ^ n) (y % 256 ^ n) r t (Nat.mod_lt _ (Nat.pow_pos (by decide))) (Nat.mod_lt _ (Nat.pow_pos (by decide)))
    rw [putB_mod x n (by omega), putB_mod y n (by omega)] at ih
    have hp : 256 ^ (n + 1) = 256 ^ n * 256 := Nat.pow_succ ..
    have hpos : 0 < 256 ^ n := Nat.pow_pos (by decide)
    rw [hp] at hx hy
    have dx : x / 256 ^ n < 256 := Nat.div_lt_of_lt_mul hx
    have dy : y / 256 ^ n < 256 := Nat.div_lt_of_lt_mul hy
    have bx : (byteAt x n).toNat = x / 256 ^ n := by simp [byteAt, Nat.toUInt8, UInt8.toNat_ofNat']; omega
    have by' : (byteAt y n).toNat = y / 256 ^ n := by simp [byteAt, Nat.toUInt8, UInt8.toNat_ofNat']; omega
    have ex := Nat.div_add_mod x (256 ^ n)
    have ey := Nat.div_add_mod y (256 ^ n)
    have mx := Nat.mod_lt x hpos
    have my := Nat.mod_lt y hpos
    rw [putB_succ, putB_succ, List.cons_append, List.cons_append, lessB_cons]
    by_cases hh : byteAt x n = byteAt y n
    · rw [if_pos hh, ih]
      have hq : x / 256 ^ n = y / 256 ^ n := by rw [← bx, ← by', hh]
      rw [hq] at ex
      generalize 256 ^ n * (y / 256 ^ n) = z at ex ey
      by_cases h1 : x % 256 ^ n < y % 256 ^ n
      · rw [if_pos h1, if_pos (by omega)]
      · rw [if_neg h1, if_neg (by omega : ¬ x < y)]
        by_cases h2 : y % 256 ^ n < x % 256 ^ n
        · rw [if_pos h2, if_pos (by omega)]
        · rw [if_neg h2, if_neg (by omega)]
    · rw [if_neg hh, bx, by']
      have hq : x / 256 ^ n ≠ y / 256 ^ n := fun h => hh (UInt8.toNat_inj.1 (by rw [bx, by', h]))
      by_cases h1 : x / 256 ^ n < y / 256 ^ n
      · have h3 : 256 ^ n * (x / 256 ^ n + 1) ≤ 256 ^ n * (y / 256 ^ n) := Nat.mul_le_mul_left _ h1
        rw [Nat.mul_add, Nat.mul_one] at h3
        rw [decide_eq_true h1, if_pos (by omega)]
      · have h2 : y / 256 ^ n < x / 256 ^ n := by omega
        have h3 : 256 ^ n * (y / 256 ^ n + 1) ≤ 256 ^ n * (x / 256 ^ n) := Nat.mul_le_mul_left _ h2
        rw [Nat.mul_add, Nat.mul_one] at h3
        rw [decide_eq_false h1, if_neg (by omega), if_pos (by omega)]
theorem lessB_none (r : List UInt8) : lessB r [] = false := by cases r <;> rfl
theorem lessB_self : ∀ r : List UInt8, lessB r r = false
  | [] => rfl
  | a :: r => by rw [lessB_cons, if_pos rfl]; exact lessB_self r
theorem lessB_pre : ∀ s r t : List UInt8, lessB (s ++ r) (s ++ t) = lessB r t
  | [], r, t => rfl
  | a :: s, r, t => by rw [List.cons_append, List.cons_append, lessB_cons, if_pos rfl]; exact lessB_pre s r t
theorem lessB_put0 (n x y : Nat) (hn : n ≤ 8) (hx : x < 256 ^ n) (hy : y < 256 ^ n) : lessB (putB x n) (putB y n) = decide (x < y) := by
  have := lessB_put n hn x y [] [] hx hy
  rw [List.append_nil, List.append_nil, lessB_none] at this
  rw [this]
  by_cases h : x < y
  · rw [if_pos h, decide_eq_true h]
  · rw [if_neg h, decide_eq_false h]; split <;> rfl

/-- Between the bounds are just the keys of that kind and account. -/
theorem of_in (p : Pl) (hp : p.Ok) (hr : p.right = true) (k : Int) (a : Nat) (ha : (1 ≤ a ∧ a ≤ 1000000) ∧ (k = 2 ∨ k = 3)) : (!lessB p.key (ofR k a).1 && lessB p.key (ofR k a).2.1) = (decide (p.kind = k) && decide (p.a = a)) := by
  have hof : ofR k a = ((if k = 2 then 105 else 109) :: putB a 4, (if k = 2 then 105 else 109) :: putB (a + 1) 4, 0) := by unfold ofR; rw [if_pos ha]
  rw [hof]
  dsimp only
  obtain ⟨⟨a1, a2⟩, hk⟩ := ha
  have hkind := p.right_kind hr
  have hpa := hp.a
  have same : ∀ (c : UInt8) (r : List UInt8), (!lessB (c :: (putB p.a 4 ++ r)) (c :: putB a 4) && lessB (c :: (putB p.a 4 ++ r)) (c :: putB (a + 1) 4)) = decide (p.a = a) := fun c r => by
    have e1 := lessB_put 4 (by decide) p.a a r [] (by rw [q4]; exact hpa) (by rw [q4]; omega)
    have e2 := lessB_put 4 (by decide) p.a (a + 1) r [] (by rw [q4]; exact hpa) (by rw [q4]; omega)
    rw [List.append_nil, lessB_none] at e1 e2
    rw [lessB_cons, lessB_cons, if_pos rfl, if_pos rfl, e1, e2]
    by_cases h : p.a = a
    · subst h; simp
    · by_cases h2 : p.a < a
      · rw [if_pos h2, decide_eq_false h]; rfl
      · rw [if_neg h2, if_pos (by omega), if_neg (by omega : ¬ p.a < a + 1), decide_eq_false h]; split <;> rfl
  have other : ∀ (c d : UInt8) (s : List UInt8), c ≠ d → (!lessB (c :: s) (d :: putB a 4) && lessB (c :: s) (d :: putB (a + 1) 4)) = false := fun c d s h => by
    rw [lessB_cons, lessB_cons, if_neg h, if_neg h]
    simp
  obtain ⟨pk, pa, pi, pm⟩ := p
  dsimp only at *
  unfold Pl.key
  dsimp only
  have same0 := fun c => same c []
  simp only [List.append_nil] at same0
  rcases hk with rfl | rfl
  · rw [if_pos rfl]
    rcases hkind with rfl | rfl | rfl | rfl | rfl | rfl
    · rw [if_pos rfl, other _ _ _ (by decide)]; rfl
    · rw [if_neg (by decide), if_pos rfl, same]; rfl
    · rw [if_neg (by decide), if_neg (by decide), if_pos rfl, other _ _ _ (by decide)]; rfl
    · rw [if_neg (by decide), if_neg (by decide), if_neg (by decide), if_pos rfl, other _ _ _ (by decide)]; rfl
    · rw [if_neg (by decide), if_neg (by decide), if_neg (by decide), if_neg (by decide), if_pos rfl, other _ _ _ (by decide)]; rfl
    · rw [if_neg (by decide), if_neg (by decide), if_neg (by decide), if_neg (by decide), if_neg (by decide), other _ _ _ (by decide)]; rfl
  · rw [if_neg (by decide : ¬ (3 : Int) = 2)]
    rcases hkind with rfl | rfl | rfl | rfl | rfl | rfl
    · rw [if_pos rfl, other _ _ _ (by decide)]; rfl
    · rw [if_neg (by decide), if_pos rfl, other _ _ _ (by decide)]; rfl
    · rw [if_neg (by decide), if_neg (by decide), if_pos rfl, same]; rfl
    · rw [if_neg (by decide), if_neg (by decide), if_neg (by decide), if_pos rfl, other _ _ _ (by decide)]; rfl
    · rw [if_neg (by decide), if_neg (by decide), if_neg (by decide), if_neg (by decide), if_pos rfl, other _ _ _ (by decide)]; rfl
    · rw [if_neg (by decide), if_neg (by decide), if_neg (by decide), if_neg (by decide), if_neg (by decide), other _ _ _ (by decide)]; rfl

/-- Of one kind and account: keys in the order of their items, mails. -/
theorem key_order (p q : Pl) (hp : p.Ok) (hq : q.Ok) (h1 : p.right = true) (h2 : q.right = true) (hk : p.kind = q.kind) (ha : p.a = q.a) : lessB p.key q.key = (decide (p.item < q.item) || decide (p.mail < q.mail)) := by
  have hkind := p.right_kind h1
  obtain ⟨pk, pa, pi, pm⟩ := p
  obtain ⟨qk, qa, qi, qm⟩ := q
  dsimp only at hk ha hkind
  subst hk ha
  have i1 : pi < 256 ^ 2 := by have := hp.item; rw [q2]; exact this
  have i2 : qi < 256 ^ 2 := by have := hq.item; rw [q2]; exact this
  have m1 : pm < 256 ^ 4 := by have := hp.mail; rw [q4]; exact this
  have m2 : qm < 256 ^ 4 := by have := hq.mail; rw [q4]; exact this
  unfold Pl.right at h1 h2
  unfold Pl.key
  dsimp only at *
  rcases hkind with rfl | rfl | rfl | rfl | rfl | rfl
  · rw [if_pos rfl, decide_eq_true_iff] at h1 h2
    rw [if_pos rfl, if_pos rfl, lessB_self]
    simp; omega
  · rw [if_neg (by decide), if_pos rfl, decide_eq_true_iff] at h1 h2
    rw [if_neg (by decide), if_pos rfl, if_neg (by decide), if_pos rfl, lessB_cons, if_pos rfl, lessB_pre, lessB_put0 2 pi qi (by decide) i1 i2]
    rw [decide_eq_false (by omega : ¬ pm < qm), Bool.or_false]
  · rw [if_neg (by decide), if_neg (by decide), if_pos rfl, decide_eq_true_iff] at h1 h2
    rw [if_neg (by decide), if_neg (by decide), if_pos rfl, if_neg (by decide), if_neg (by decide), if_pos rfl, lessB_cons, if_pos rfl, lessB_pre, lessB_put0 4 pm qm (by decide) m1 m2]
    rw [decide_eq_false (by omega : ¬ pi < qi), Bool.false_or]
  · rw [if_neg (by decide), if_neg (by decide), if_neg (by decide), if_pos rfl, decide_eq_true_iff] at h1 h2
    rw [if_neg (by decide), if_neg (by decide), if_neg (by decide), if_pos rfl, if_neg (by decide), if_neg (by decide), if_neg (by decide), if_pos rfl, lessB_self]
    simp; omega
  · rw [if_neg (by decide), if_neg (by decide), if_neg (by decide), if_neg (by decide), if_pos rfl, decide_eq_true_iff] at h1 h2
    rw [if_neg (by decide), if_neg (by decide), if_neg (by decide), if_neg (by decide), if_pos rfl, if_neg (by decide), if_neg (by decide), if_neg (by decide), if_neg (by decide), if_pos rfl, lessB_self]
    simp; omega
  · rw [if_neg (by decide), if_neg (by decide), if_neg (by decide), if_neg (by decide), if_neg (by decide), if_pos rfl, decide_eq_true_iff] at h1 h2
    rw [if_neg (by decide), if_neg (by decide), if_neg (by decide), if_neg (by decide), if_neg (by decide), if_neg (by decide), if_neg (by decide), if_neg (by decide), if_neg (by decide), if_neg (by decide), lessB_cons, if_pos rfl, lessB_pre, lessB_put0 2 pi qi (by decide) i1 i2]
    rw [decide_eq_false (by omega : ¬ pm < qm), Bool.or_false]
end Go.Proofs.Ytgaahgnjmhnggaa
