/- The walk of Decode. -/
import Derived.Test.YtbmdodkgaehgnaaP9
import Derived.Laws.ResultCell
namespace Go.Proofs.Ytbmdodkgaehgnaa
open Go Go.RowKit Sm
attribute [local go_sem] Oper.semAt_some

def decR (s : List UInt8) : Value := .tuple #[(pgOf s).v, .int .i64 (if isPg s then 0 else 30)]

theorem results_page2 {fn : Func} {p q : Tmp} {tmps : Array Value} {w : World} {g : Nat} {x0 x1 x2 x3 y : Value} (h : fn.results = #[.cell p 25, .tmp q]) (hp : tmps.getD p undef = .pointer (some ⟨g, 0, none⟩)) (hq : tmps.getD q undef = y) (hg : w.heap[g]? = some (.cells #[x0, x1, x2, x3] 25 (0, 0))) :
    (results fn tmps).run Try.prog w = .ok (.tuple #[.agg #[x0, x1, x2, x3], y]) w := by
  rw [results_cell_tmp h]
  have hp' : tmps[p]?.getD undef = .pointer (some ⟨g, 0, none⟩) := by simpa using hp
  have hq' : tmps[q]?.getD undef = y := by simpa using hq
  simp [hp', hq', asAddr, run_loadVar_row w g 25 25 #[x0, x1, x2, x3] (0, 0) _ hg Try.underlying25 rfl info_page]

set_option maxRecDepth 20000 in
set_option maxHeartbeats 2000000 in
theorem decode_any (s : List UInt8) (hs : s.length ≤ 1000000) (w : World) : Calls Try.prog 17 #[.string ⟨s.toArray⟩] w fun e w' => e = .returned (decR s) ∧ Below w.heap.size w w' := by
  have hF : Veil (∀ w, Calls Try.prog 38 #[.string ⟨s.toArray⟩] w fun e w' => e = .returned (pgOf s).v ∧ Below w.heap.size w w') := ⟨found_any s hs⟩
  obtain ⟨W0, hW0⟩ : ∃ W0, w.alloc (.cells #[.int .i64 0, .int .u32 0, .int .u64 0, .string ⟨#[]⟩] 25) = W0 := ⟨_, rfl⟩
  have hp0 : Veil (W0.heap[w.heap.size]? = some (.cells #[.int .i64 0, .int .u32 0, .int .u64 0, .string ⟨#[]⟩] 25 (0, 0))) := ⟨by rw [← hW0]; exact heap_alloc_new _ _⟩
  have hz0 : Veil (w.heap.size < W0.heap.size) := ⟨by rw [← hW0]; simp⟩
  have hb0 : Veil (Below w.heap.size w W0) := ⟨by rw [← hW0]; exact below_al (Below.refl _ _) _⟩
  unfold decR
  cases hi : isPg s
  · have e0 : pgOf s = Pg.zero := by unfold pgOf; simp [hi]
    have hF0 : Veil (∀ w, Calls Try.prog 38 #[.string ⟨s.toArray⟩] w fun e w' => e = .returned (.agg #[.int .i64 0, .int .u32 0, .int .u64 0, .string ⟨#[]⟩]) ∧ Below w.heap.size w w') := ⟨fun w => by have := hF.out w; rw [e0] at this; exact this⟩
    rw [e0]
    show Calls _ _ _ _ fun e w' => e = .returned (.tuple #[.agg #[.int .i64 0, .int .u32 0, .int .u64 0, .string ⟨#[]⟩], .int .i64 30]) ∧ Below w.heap.size w w'
    clear e0 hi hF
    go_enter Try.func17, Try.ntmps17
    go_wp2_with (go_at_call 38; refine (hF0.out _).mono ?_; rintro e w2 ⟨rfl, hb2⟩; have hp2 : Veil _ := ⟨(hb2.block w.heap.size hz0.out).trans hp0.out⟩; have hz2 : w.heap.size < w2.heap.size := Nat.lt_of_lt_of_le hz0.out hb2.size; obtain ⟨⟨q0, q1, q2, q3⟩, f0, f1, f2, f3⟩ := pack4 hp2.out)
    exact bodyPost_ret (results_page2 (g := w.heap.size) rfl rfl rfl (by rw [Below.heap_alloc _ _ _ (by simpa using hz2)]; exact set4 hp2.out _ _ _ _)) rfl ⟨rfl, below_al (turn4 (hb0.out.trans (hb2.mono hb0.out.size)) (Nat.le_refl _) _ _ _ _) _⟩
  · have hr : (Pg.of s).right = true := by simp [isPg] at hi; exact hi.1.2
    have e0 : pgOf s = Pg.of s := by unfold pgOf; simp [hi]
    rw [e0] at hF ⊢
    have ht1 : 1 ≤ (Pg.of s).tx := ((Pg.of s).right_iff.1 hr).2.2.2.2.1
    clear e0 hi hr
    revert hF ht1
    generalize Pg.of s = pg
    intro hF ht1
    obtain ⟨k, i, t, b⟩ := pg
    have ht1 : 1 ≤ t := ht1
    unfold Pg.v at hF ⊢
    dsimp only at hF ⊢
    rw [if_pos rfl]
    obtain ⟨T, hT⟩ : ∃ T : Int, (t : Int) = T := ⟨_, rfl⟩
    have ht0 : (T == 0) = false := by simp; omega
    rw [hT] at hF ⊢
    clear hT ht1
    go_enter Try.func17, Try.ntmps17
    go_wp2_with (go_at_call 38; refine (hF.out _).mono ?_; rintro e w2 ⟨rfl, hb2⟩; have hp2 : Veil _ := ⟨(hb2.block w.heap.size hz0.out).trans hp0.out⟩; have hz2 : w.heap.size < w2.heap.size := Nat.lt_of_lt_of_le hz0.out hb2.size; obtain ⟨⟨q0, q1, q2, q3⟩, f0, f1, f2, f3⟩ := pack4 hp2.out)
    exact bodyPost_ret (results_page2 (g := w.heap.size) rfl rfl rfl (by rw [Below.heap_alloc _ _ _ (by simpa using hz2)]; exact set4 hp2.out _ _ _ _)) rfl ⟨rfl, below_al (turn4 (hb0.out.trans (hb2.mono hb0.out.size)) (Nat.le_refl _) _ _ _ _) _⟩
end Go.Proofs.Ytbmdodkgaehgnaa
