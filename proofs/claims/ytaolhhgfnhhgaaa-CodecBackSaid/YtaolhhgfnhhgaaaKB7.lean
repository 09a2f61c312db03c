/- Codec: ParseRequest, ParseReply. -/
import Derived.Test.YtaolhhgfnhhgaaaKB6
import Derived.Test.YtaolhhgfnhhgaaaKB1
import Derived.Test.YtaolhhgfnhhgaaaKP3
import Derived.Test.YtaolhhgfnhhgaaaKF1
import Derived.Test.YtaolhhgfnhhgaaaKN1
import Derived.Test.YtaolhhgfnhhgaaaKO1
namespace Go.Proofs.Ytaolhhgfnhhgaaa
open Go Go.RowKit Sm
attribute [local go_sem] Oper.semAt_some

/-- The boxes of what is parsed: the answer's, the variable's. -/
structure PzB (T : TypeId) (z vs : Array Value) (w A : World) : Prop where
  r : A.heap[w.heap.size]? = some (.cells z T (0, 0))
  m : A.heap[w.heap.size + 1]? = some (.cells vs T (0, 0))
  t : Below w.heap.size w A
theorem ret_pair {x y : Value} {c : Int} (h : x = y) : Ending.returned (.tuple #[x, .int .i64 c]) = Ending.returned (.tuple #[y, .int .i64 c]) := by rw [h]
theorem PzB.after {T : TypeId} {z vs : Array Value} {w A A' : World} (h : PzB T z vs w A) (hb : Below A.heap.size A A') : PzB T z vs w A' :=
  ⟨(hb.block _ (lt_of_heap h.r)).trans h.r, (hb.block _ (lt_of_heap h.m)).trans h.m, bc_then h.t hb⟩
theorem pkC6 {w : World} {g : Nat} {a0 a1 a2 a3 a4 a5 : Value} {t : TypeId} (h : w.heap[g]? = some (.cells #[a0, a1, a2, a3, a4, a5] t (0, 0))) :
    (w.cell? ⟨g, 0, none⟩ = some a0 ∧ w.cell? ⟨g, 1, none⟩ = some a1 ∧ w.cell? ⟨g, 2, none⟩ = some a2 ∧ w.cell? ⟨g, 3, none⟩ = some a3 ∧ w.cell? ⟨g, 4, none⟩ = some a4 ∧ w.cell? ⟨g, 5, none⟩ = some a5) ∧ w.frozen? ⟨g, 0, none⟩ = false ∧ w.frozen? ⟨g, 1, none⟩ = false ∧ w.frozen? ⟨g, 2, none⟩ = false ∧ w.frozen? ⟨g, 3, none⟩ = false ∧ w.frozen? ⟨g, 4, none⟩ = false ∧ w.frozen? ⟨g, 5, none⟩ = false :=
  ⟨⟨cell_whole h 0, cell_whole h 1, cell_whole h 2, cell_whole h 3, cell_whole h 4, cell_whole h 5⟩, frozen_whole h 0, frozen_whole h 1, frozen_whole h 2, frozen_whole h 3, frozen_whole h 4, frozen_whole h 5⟩
theorem stC6 {w : World} {g : Nat} {a0 a1 a2 a3 a4 a5 : Value} {t : TypeId} (h : w.heap[g]? = some (.cells #[a0, a1, a2, a3, a4, a5] t (0, 0))) (v0 v1 v2 v3 v4 v5 : Value) :
    ((((((w.setCell ⟨g, 0, none⟩ v0).setCell ⟨g, 1, none⟩ v1).setCell ⟨g, 2, none⟩ v2).setCell ⟨g, 3, none⟩ v3).setCell ⟨g, 4, none⟩ v4).setCell ⟨g, 5, none⟩ v5).heap[g]? = some (.cells #[v0, v1, v2, v3, v4, v5] t (0, 0)) := by
  have h0 := heap_setCell_at h 0 v0
  have h1 := heap_setCell_at h0 1 v1
  have h2 := heap_setCell_at h1 2 v2
  have h3 := heap_setCell_at h2 3 v3
  have h4 := heap_setCell_at h3 4 v4
  have h5 := heap_setCell_at h4 5 v5
  simpa using h5
theorem tnC6 {w0 w : World} {g : Nat} (h : Below w0.heap.size w0 w) (hg : w0.heap.size ≤ g) (v0 v1 v2 v3 v4 v5 : Value) : Below w0.heap.size w0 ((((((w.setCell ⟨g, 0, none⟩ v0).setCell ⟨g, 1, none⟩ v1).setCell ⟨g, 2, none⟩ v2).setCell ⟨g, 3, none⟩ v3).setCell ⟨g, 4, none⟩ v4).setCell ⟨g, 5, none⟩ v5) :=
  (((((h.setCell (p := ⟨g, 0, none⟩) hg _).setCell (p := ⟨g, 1, none⟩) hg _).setCell (p := ⟨g, 2, none⟩) hg _).setCell (p := ⟨g, 3, none⟩) hg _).setCell (p := ⟨g, 4, none⟩) hg _).setCell (p := ⟨g, 5, none⟩) hg _
theorem otC6 {w : World} {g k : Nat} (hk : k ≠ g) (v0 v1 v2 v3 v4 v5 : Value) : ((((((w.setCell ⟨g, 0, none⟩ v0).setCell ⟨g, 1, none⟩ v1).setCell ⟨g, 2, none⟩ v2).setCell ⟨g, 3, none⟩ v3).setCell ⟨g, 4, none⟩ v4).setCell ⟨g, 5, none⟩ v5).heap[k]? = w.heap[k]? := by
  rw [Below.heap_setCell _ _ _ _ hk, Below.heap_setCell _ _ _ _ hk, Below.heap_setCell _ _ _ _ hk, Below.heap_setCell _ _ _ _ hk, Below.heap_setCell _ _ _ _ hk, Below.heap_setCell _ _ _ _ hk]
theorem pkC3 {w : World} {g : Nat} {a0 a1 a2 : Value} {t : TypeId} (h : w.heap[g]? = some (.cells #[a0, a1, a2] t (0, 0))) :
    (w.cell? ⟨g, 0, none⟩ = some a0 ∧ w.cell? ⟨g, 1, none⟩ = some a1 ∧ w.cell? ⟨g, 2, none⟩ = some a2) ∧ w.frozen? ⟨g, 0, none⟩ = false ∧ w.frozen? ⟨g, 1, none⟩ = false ∧ w.frozen? ⟨g, 2, none⟩ = false :=
  ⟨⟨cell_whole h 0, cell_whole h 1, cell_whole h 2⟩, frozen_whole h 0, frozen_whole h 1, frozen_whole h 2⟩
theorem stC3 {w : World} {g : Nat} {a0 a1 a2 : Value} {t : TypeId} (h : w.heap[g]? = some (.cells #[a0, a1, a2] t (0, 0))) (v0 v1 v2 : Value) :
    (((w.setCell ⟨g, 0, none⟩ v0).setCell ⟨g, 1, none⟩ v1).setCell ⟨g, 2, none⟩ v2).heap[g]? = some (.cells #[v0, v1, v2] t (0, 0)) := by
  have h0 := heap_setCell_at h 0 v0
  have h1 := heap_setCell_at h0 1 v1
  have h2 := heap_setCell_at h1 2 v2
  simpa using h2
theorem tnC3 {w0 w : World} {g : Nat} (h : Below w0.heap.size w0 w) (hg : w0.heap.size ≤ g) (v0 v1 v2 : Value) : Below w0.heap.size w0 (((w.setCell ⟨g, 0, none⟩ v0).setCell ⟨g, 1, none⟩ v1).setCell ⟨g, 2, none⟩ v2) :=
  ((h.setCell (p := ⟨g, 0, none⟩) hg _).setCell (p := ⟨g, 1, none⟩) hg _).setCell (p := ⟨g, 2, none⟩) hg _
theorem otC3 {w : World} {g k : Nat} (hk : k ≠ g) (v0 v1 v2 : Value) : (((w.setCell ⟨g, 0, none⟩ v0).setCell ⟨g, 1, none⟩ v1).setCell ⟨g, 2, none⟩ v2).heap[k]? = w.heap[k]? := by
  rw [Below.heap_setCell _ _ _ _ hk, Below.heap_setCell _ _ _ _ hk, Below.heap_setCell _ _ _ _ hk]
theorem elsQ6 {w : World} {p : Option Addr} {a0 a1 a2 a3 a4 a5 : Nat} (h : Els elQ w p [a0, a1, a2, a3, a4, a5]) : ∃ b o, p = some ⟨b, o, none⟩ ∧ (∀ W, Below w.heap.size w W → W.cell? ⟨b, o, none⟩ = some (.int .u64 a0) ∧ W.cell? ⟨b, o + 1, none⟩ = some (.int .u64 a1) ∧ W.cell? ⟨b, o + 2, none⟩ = some (.int .u64 a2) ∧ W.cell? ⟨b, o + 3, none⟩ = some (.int .u64 a3) ∧ W.cell? ⟨b, o + 4, none⟩ = some (.int .u64 a4) ∧ W.cell? ⟨b, o + 5, none⟩ = some (.int .u64 a5)) := by
  obtain ⟨b, o, hp, hr⟩ := h (by simp)
  have h0 : w.cell? ⟨b, o, none⟩ = some (.int .u64 a0) := hr 0 0 (by simp) (by decide)
  have h1 : w.cell? ⟨b, o + 1, none⟩ = some (.int .u64 a1) := hr 1 0 (by simp) (by decide)
  have h2 : w.cell? ⟨b, o + 2, none⟩ = some (.int .u64 a2) := hr 2 0 (by simp) (by decide)
  have h3 : w.cell? ⟨b, o + 3, none⟩ = some (.int .u64 a3) := hr 3 0 (by simp) (by decide)
  have h4 : w.cell? ⟨b, o + 4, none⟩ = some (.int .u64 a4) := hr 4 0 (by simp) (by decide)
  have h5 : w.cell? ⟨b, o + 5, none⟩ = some (.int .u64 a5) := hr 5 0 (by simp) (by decide)
  exact ⟨b, o, hp, fun W hb => ⟨(hb.cell (World.block_lt_of_cell? _ _ h0)).trans h0, (hb.cell (World.block_lt_of_cell? _ _ h1)).trans h1, (hb.cell (World.block_lt_of_cell? _ _ h2)).trans h2, (hb.cell (World.block_lt_of_cell? _ _ h3)).trans h3, (hb.cell (World.block_lt_of_cell? _ _ h4)).trans h4, (hb.cell (World.block_lt_of_cell? _ _ h5)).trans h5⟩⟩
theorem elsQ3 {w : World} {p : Option Addr} {a0 a1 a2 : Nat} (h : Els elQ w p [a0, a1, a2]) : ∃ b o, p = some ⟨b, o, none⟩ ∧ (∀ W, Below w.heap.size w W → W.cell? ⟨b, o, none⟩ = some (.int .u64 a0) ∧ W.cell? ⟨b, o + 1, none⟩ = some (.int .u64 a1) ∧ W.cell? ⟨b, o + 2, none⟩ = some (.int .u64 a2)) := by
  obtain ⟨b, o, hp, hr⟩ := h (by simp)
  have h0 : w.cell? ⟨b, o, none⟩ = some (.int .u64 a0) := hr 0 0 (by simp) (by decide)
  have h1 : w.cell? ⟨b, o + 1, none⟩ = some (.int .u64 a1) := hr 1 0 (by simp) (by decide)
  have h2 : w.cell? ⟨b, o + 2, none⟩ = some (.int .u64 a2) := hr 2 0 (by simp) (by decide)
  exact ⟨b, o, hp, fun W hb => ⟨(hb.cell (World.block_lt_of_cell? _ _ h0)).trans h0, (hb.cell (World.block_lt_of_cell? _ _ h1)).trans h1, (hb.cell (World.block_lt_of_cell? _ _ h2)).trans h2⟩⟩
theorem results_pcmd {fn : Func} {p q : Tmp} {tmps : Array Value} {w : World} {g : Nat} {x0 x1 x2 x3 x4 x5 y : Value} (h : fn.results = #[.cell p 25, .tmp q]) (hp : tmps.getD p undef = .pointer (some ⟨g, 0, none⟩)) (hq : tmps.getD q undef = y) (hg : w.heap[g]? = some (.cells #[x0, x1, x2, x3, x4, x5] 25 (0, 0))) :
    (results fn tmps).run Try.prog w = .ok (.tuple #[.agg #[x0, x1, x2, x3, x4, x5], y]) w := by
  rw [results_cell_tmp h]
  have hp' : tmps[p]?.getD undef = .pointer (some ⟨g, 0, none⟩) := by simpa using hp
  have hq' : tmps[q]?.getD undef = y := by simpa using hq
  have hin : (Try.prog.info? 25).map (·.size) = some 6 := by kernel_rfl
  simp [hp', hq', asAddr, run_loadVar_row w g 25 25 #[x0, x1, x2, x3, x4, x5] (0, 0) _ hg Try.underlying25 rfl hin]
theorem pcmd_new (w : World) : PzB 25 #[.int .i64 0, .int .u32 0, .int .u32 0, .int .u16 0, .int .i64 0, .int .i64 0] #[.int .i64 0, .int .u32 0, .int .u32 0, .int .u16 0, .int .i64 0, .int .i64 0] w ((w.alloc (.cells #[.int .i64 0, .int .u32 0, .int .u32 0, .int .u16 0, .int .i64 0, .int .i64 0] 25)).alloc (.cells #[.int .i64 0, .int .u32 0, .int .u32 0, .int .u16 0, .int .i64 0, .int .i64 0] 25)) :=
  ⟨heap_alloc2_old _ _ _, heap_alloc2_new _ _ _, below_al (below_al (Below.refl _ _) _) _⟩
def pcmd_post (s : List UInt8) (e : Ending) (w' : World) : Prop := (s.length = 27 ∧ ∃ p c, e = .returned (.slice p 6 c) ∧ Els elQ w' p [seg s 0 1, seg s 1 4, seg s 5 4, seg s 9 2, seg s 11 8, seg s 19 8]) ∨ (s.length ≠ 27 ∧ e = .returned (.slice none 0 0))
theorem pcmd_row (s : List UInt8) (hs : s.length ≤ 1000000) (W : World) (g : Nat) (hg : g = W.heap.size) : Calls Try.prog 28 #[.string ⟨s.toArray⟩, .slice (some ⟨g, 0, none⟩) 6 6] (W.alloc (.cells #[.int .i64 1, .int .i64 4, .int .i64 4, .int .i64 2, .int .i64 8, .int .i64 8] 3)) (fun e w' => pcmd_post s e w' ∧ Below W.heap.size W w') := by
  subst hg
  refine (cnumbers_any s hs W.heap.size [1, 4, 4, 2, 8, 8] (by decide) (by decide) _ (heap_alloc_new _ _)).mono ?_
  rintro e w' ⟨v, rfl, h, hb⟩
  refine ⟨?_, bc_then (below_al (Below.refl _ _) _) hb⟩
  rcases h with ⟨h1, p, c, rfl, h2⟩ | ⟨h1, rfl⟩
  · exact .inl ⟨h1, p, c, rfl, h2⟩
  · exact .inr ⟨h1, rfl⟩

set_option maxRecDepth 20000 in
set_option maxHeartbeats 4000000 in
theorem pcmd_any (s : List UInt8) (hs : s.length ≤ 1000000) (w : World) : Calls Try.prog 12 #[.string ⟨s.toArray⟩] w fun e w' => e = .returned (.tuple #[(preqR s).1.v, .int .i64 (preqR s).2]) ∧ Below w.heap.size w w' := by
  have HNu : Veil _ := ⟨fun W g hg => pcmd_row s hs W g hg⟩
  have HP0 : Veil _ := ⟨pcmd_new w⟩
  by_cases hl : s.length = 27
  · have HR : Veil (preqR s = if opOk (cmOf s).op = true then (cmOf s, 0) else (Cm.zero, 170)) := ⟨by unfold preqR; simp [hl]⟩
    have HNv : Veil (∀ (e : Ending) (w' : World), pcmd_post s e w' → ∃ p c, e = .returned (.slice p 6 c) ∧ Els elQ w' p [seg s 0 1, seg s 1 4, seg s 5 4, seg s 9 2, seg s 11 8, seg s 19 8]) := ⟨by
      rintro e w' (⟨-, h⟩ | ⟨h, -⟩)
      · exact h
      · exact absurd hl h⟩
    have b0 := seg_lt s 0 1
    have b1 := seg_lt s 1 4
    have b2 := seg_lt s 5 4
    have b3 := seg_lt s 9 2
    have b4 := seg_lt s 11 8
    have b5 := seg_lt s 19 8
    rw [q1] at b0
    rw [q4] at b1
    rw [q4] at b2
    rw [q2] at b3
    rw [q8] at b4
    rw [q8] at b5
    have wr0 : IntKind.i64.wrap ((seg s 0 1 : Nat) : Int) = ((seg s 0 1 : Nat) : Int) := by rw [IntKind.wrap_i64]; omega
    have wr1 : IntKind.u32.wrap ((seg s 1 4 : Nat) : Int) = ((seg s 1 4 : Nat) : Int) := by rw [IntKind.wrap_u32]; omega
    have wr2 : IntKind.u32.wrap ((seg s 5 4 : Nat) : Int) = ((seg s 5 4 : Nat) : Int) := by rw [IntKind.wrap_u32]; omega
    have wr3 : IntKind.u16.wrap ((seg s 9 2 : Nat) : Int) = ((seg s 9 2 : Nat) : Int) := by rw [IntKind.wrap_u16]; omega
    have wr4 : IntKind.i64.wrap ((seg s 11 8 : Nat) : Int) = sgn (seg s 11 8) := sgn_wrap _ b4
    have wr5 : IntKind.i64.wrap ((seg s 19 8 : Nat) : Int) = sgn (seg s 19 8) := sgn_wrap _ b5
    have HIs : Veil _ := ⟨fun w => isop_any ((seg s 0 1 : Nat) : Int) w⟩
    have HFin : Veil ((cmOf s).v = .agg #[.int .i64 (((seg s 0 1 : Nat) : Int)), .int .u32 (((seg s 1 4 : Nat) : Int)), .int .u32 (((seg s 5 4 : Nat) : Int)), .int .u16 (((seg s 9 2 : Nat) : Int)), .int .i64 (sgn (seg s 11 8)), .int .i64 (sgn (seg s 19 8))]) := ⟨rfl⟩
    have HOk : Veil ((cmOf s).op = ((seg s 0 1 : Nat) : Int)) := ⟨rfl⟩
    rw [HOk.out] at HR
    clear hl HOk hs
    revert HNv b0 wr0 HIs HFin HR b1 wr1 b2 wr2 b3 wr3 b4 wr4 b5 wr5
    generalize sgn (seg s 11 8) = c4
    generalize sgn (seg s 19 8) = c5
    generalize seg s 0 1 = n0
    generalize seg s 1 4 = n1
    generalize seg s 5 4 = n2
    generalize seg s 9 2 = n3
    generalize seg s 11 8 = n4
    generalize seg s 19 8 = n5
    intros HR HNv b0 b1 b2 b3 b4 b5 wr0 wr1 wr2 wr3 wr4 wr5 HIs HFin
    obtain ⟨a0, e0⟩ : ∃ a0 : Int, (n0 : Int) = a0 := ⟨_, rfl⟩
    obtain ⟨a1, e1⟩ : ∃ a1 : Int, (n1 : Int) = a1 := ⟨_, rfl⟩
    obtain ⟨a2, e2⟩ : ∃ a2 : Int, (n2 : Int) = a2 := ⟨_, rfl⟩
    obtain ⟨a3, e3⟩ : ∃ a3 : Int, (n3 : Int) = a3 := ⟨_, rfl⟩
    obtain ⟨a4, e4⟩ : ∃ a4 : Int, (n4 : Int) = a4 := ⟨_, rfl⟩
    obtain ⟨a5, e5⟩ : ∃ a5 : Int, (n5 : Int) = a5 := ⟨_, rfl⟩
    rw [e0, e1, e2, e3] at HFin
    rw [e0] at HIs HR
    rw [e0] at wr0
    rw [e1] at wr1
    rw [e2] at wr2
    rw [e3] at wr3
    rw [e4] at wr4
    rw [e5] at wr5
    have HE : Veil (∀ W p, Els elQ W p [n0, n1, n2, n3, n4, n5] → ∃ b o, p = some ⟨b, o, none⟩ ∧ (∀ W', Below W.heap.size W W' → W'.cell? ⟨b, o, none⟩ = some (.int .u64 a0) ∧ W'.cell? ⟨b, o + 1, none⟩ = some (.int .u64 a1) ∧ W'.cell? ⟨b, o + 2, none⟩ = some (.int .u64 a2) ∧ W'.cell? ⟨b, o + 3, none⟩ = some (.int .u64 a3) ∧ W'.cell? ⟨b, o + 4, none⟩ = some (.int .u64 a4) ∧ W'.cell? ⟨b, o + 5, none⟩ = some (.int .u64 a5))) := ⟨fun W p h => by
      have := elsQ6 h
      rw [e0, e1, e2, e3, e4, e5] at this
      exact this⟩
    clear b0 e0 b1 e1 b2 e2 b3 e3 b4 e4 b5 e5
    rw [HR.out]
    clear HR
    generalize opOk a0 = rt at HIs ⊢
    go_enter Try.func12, Try.ntmps12
    go_wp2
    refine wp_scope_ahead 0 rfl ?_
    go_wp2_with (go_at_call 28; refine (HNu.out _ _ (by simp)).mono ?_; rintro e w1 ⟨hpost, hb1⟩; obtain ⟨p, c, rfl, hels⟩ := HNv.out _ _ hpost; have HP1 : Veil _ := ⟨HP0.out.after hb1⟩; obtain ⟨b, o, rfl, hE4⟩ := HE.out _ _ hels; have HE4 : Veil _ := ⟨hE4⟩; clear hels hE4 hpost hb1)
    refine region_new [.is (.slice (some ⟨b, o, none⟩) 6 c), .is (.pointer (some ⟨b, o, none⟩)), .is (.int .u64 a0), .is (.int .i64 a0), .is (.slice (some ⟨b, o, none⟩) 6 c), .is (.pointer (some ⟨b, o + 1, none⟩)), .is (.int .u64 a1), .is (.int .u32 a1), .is (.slice (some ⟨b, o, none⟩) 6 c), .is (.pointer (some ⟨b, o + 2, none⟩)), .is (.int .u64 a2), .is (.int .u32 a2), .is (.slice (some ⟨b, o, none⟩) 6 c), .is (.pointer (some ⟨b, o + 3, none⟩)), .is (.int .u64 a3), .is (.int .u16 a3), .is (.slice (some ⟨b, o, none⟩) 6 c), .is (.pointer (some ⟨b, o + 4, none⟩)), .is (.int .u64 a4), .is (.int .i64 c4), .is (.slice (some ⟨b, o, none⟩) 6 c), .is (.pointer (some ⟨b, o + 5, none⟩)), .is (.int .u64 a5), .is (.int .i64 c5), .is (.agg #[.int .i64 a0, .int .u32 a1, .int .u32 a2, .int .u16 a3, .int .i64 c4, .int .i64 c5])]
      [[], [(0, 12)], [(1, 13)], [(2, 14)], [], [(4, 16)], [(5, 17)], [(6, 18)], [], [(8, 20)], [(9, 21)], [(10, 22)], [], [(12, 24)], [(13, 25)], [(14, 26)], [], [(16, 28)], [(17, 29)], [(18, 30)], [], [(20, 32)], [(21, 33)], [(22, 34)], [(3, 15), (7, 19), (11, 23), (15, 27), (19, 31), (23, 35)]]
      [[], [0], [1], [2], [], [4], [5], [6], [], [8], [9], [10], [], [12], [13], [14], [], [16], [17], [18], [], [20], [21], [22], [3, 7, 11, 15, 19, 23]]
      [(0, 12), (1, 13), (2, 14), (3, 15), (4, 16), (5, 17), (6, 18), (7, 19), (8, 20), (9, 21), (10, 22), (11, 23), (12, 24), (13, 25), (14, 26), (15, 27), (16, 28), (17, 29), (18, 30), (19, 31), (20, 32), (21, 33), (22, 34), (23, 35), (24, 36)] rfl (by kernel_rfl) ⟨?_, ?_, ?_, ?_, ?_, ?_, ?_, ?_, ?_, ?_, ?_, ?_, ?_, ?_, ?_, ?_, ?_, ?_, ?_, ?_, ?_, ?_, ?_, ?_, ?_, trivial⟩ ?_
    · intro vals W hB _
      dsimp only [putsL, slotOf]
      go_wp2
      exact ⟨rfl, Below.refl _ _, rfl⟩
    · intro vals W hB ⟨h0, _⟩
      have h0 : vals 0 = _ := h0
      dsimp only [putsL, slotOf]
      rw [h0]
      go_wp2
      exact ⟨rfl, Below.refl _ _, rfl⟩
    · intro vals W hB ⟨h1, _⟩
      have h1 : vals 1 = _ := h1
      obtain ⟨x0, x1, x2, x3, x4, x5⟩ := HE4.out W hB
      dsimp only [putsL, slotOf]
      rw [h1]
      go_wp2
      exact ⟨rfl, Below.refl _ _, rfl⟩
    · intro vals W hB ⟨h2, _⟩
      have h2 : vals 2 = _ := h2
      dsimp only [putsL, slotOf]
      rw [h2]
      go_wp2
      exact ⟨rfl, Below.refl _ _, rfl⟩
    · intro vals W hB _
      dsimp only [putsL, slotOf]
      go_wp2
      exact ⟨rfl, Below.refl _ _, rfl⟩
    · intro vals W hB ⟨h4, _⟩
      have h4 : vals 4 = _ := h4
      dsimp only [putsL, slotOf]
      rw [h4]
      go_wp2
      exact ⟨rfl, Below.refl _ _, rfl⟩
    · intro vals W hB ⟨h5, _⟩
      have h5 : vals 5 = _ := h5
      obtain ⟨x0, x1, x2, x3, x4, x5⟩ := HE4.out W hB
      dsimp only [putsL, slotOf]
      rw [h5]
      go_wp2
      exact ⟨rfl, Below.refl _ _, rfl⟩
    · intro vals W hB ⟨h6, _⟩
      have h6 : vals 6 = _ := h6
      dsimp only [putsL, slotOf]
      rw [h6]
      go_wp2
      exact ⟨rfl, Below.refl _ _, rfl⟩
    · intro vals W hB _
      dsimp only [putsL, slotOf]
      go_wp2
      exact ⟨rfl, Below.refl _ _, rfl⟩
    · intro vals W hB ⟨h8, _⟩
      have h8 : vals 8 = _ := h8
      dsimp only [putsL, slotOf]
      rw [h8]
      go_wp2
      exact ⟨rfl, Below.refl _ _, rfl⟩
    · intro vals W hB ⟨h9, _⟩
      have h9 : vals 9 = _ := h9
      obtain ⟨x0, x1, x2, x3, x4, x5⟩ := HE4.out W hB
      dsimp only [putsL, slotOf]
      rw [h9]
      go_wp2
      exact ⟨rfl, Below.refl _ _, rfl⟩
    · intro vals W hB ⟨h10, _⟩
      have h10 : vals 10 = _ := h10
      dsimp only [putsL, slotOf]
      rw [h10]
      go_wp2
      exact ⟨rfl, Below.refl _ _, rfl⟩
    · intro vals W hB _
      dsimp only [putsL, slotOf]
      go_wp2
      exact ⟨rfl, Below.refl _ _, rfl⟩
    · intro vals W hB ⟨h12, _⟩
      have h12 : vals 12 = _ := h12
      dsimp only [putsL, slotOf]
      rw [h12]
      go_wp2
      exact ⟨rfl, Below.refl _ _, rfl⟩
    · intro vals W hB ⟨h13, _⟩
      have h13 : vals 13 = _ := h13
      obtain ⟨x0, x1, x2, x3, x4, x5⟩ := HE4.out W hB
      dsimp only [putsL, slotOf]
      rw [h13]
      go_wp2
      exact ⟨rfl, Below.refl _ _, rfl⟩
    · intro vals W hB ⟨h14, _⟩
      have h14 : vals 14 = _ := h14
      dsimp only [putsL, slotOf]
      rw [h14]
      go_wp2
      exact ⟨rfl, Below.refl _ _, rfl⟩
    · intro vals W hB _
      dsimp only [putsL, slotOf]
      go_wp2
      exact ⟨rfl, Below.refl _ _, rfl⟩
    · intro vals W hB ⟨h16, _⟩
      have h16 : vals 16 = _ := h16
      dsimp only [putsL, slotOf]
      rw [h16]
      go_wp2
      exact ⟨rfl, Below.refl _ _, rfl⟩
    · intro vals W hB ⟨h17, _⟩
      have h17 : vals 17 = _ := h17
      obtain ⟨x0, x1, x2, x3, x4, x5⟩ := HE4.out W hB
      dsimp only [putsL, slotOf]
      rw [h17]
      go_wp2
      exact ⟨rfl, Below.refl _ _, rfl⟩
    · intro vals W hB ⟨h18, _⟩
      have h18 : vals 18 = _ := h18
      dsimp only [putsL, slotOf]
      rw [h18]
      go_wp2
      exact ⟨rfl, Below.refl _ _, rfl⟩
    · intro vals W hB _
      dsimp only [putsL, slotOf]
      go_wp2
      exact ⟨rfl, Below.refl _ _, rfl⟩
    · intro vals W hB ⟨h20, _⟩
      have h20 : vals 20 = _ := h20
      dsimp only [putsL, slotOf]
      rw [h20]
      go_wp2
      exact ⟨rfl, Below.refl _ _, rfl⟩
    · intro vals W hB ⟨h21, _⟩
      have h21 : vals 21 = _ := h21
      obtain ⟨x0, x1, x2, x3, x4, x5⟩ := HE4.out W hB
      dsimp only [putsL, slotOf]
      rw [h21]
      go_wp2
      exact ⟨rfl, Below.refl _ _, rfl⟩
    · intro vals W hB ⟨h22, _⟩
      have h22 : vals 22 = _ := h22
      dsimp only [putsL, slotOf]
      rw [h22]
      go_wp2
      exact ⟨rfl, Below.refl _ _, rfl⟩
    · intro vals W hB ⟨h3, h7, h11, h15, h19, h23, _⟩
      have h3 : vals 3 = _ := h3
      have h7 : vals 7 = _ := h7
      have h11 : vals 11 = _ := h11
      have h15 : vals 15 = _ := h15
      have h19 : vals 19 = _ := h19
      have h23 : vals 23 = _ := h23
      dsimp only [putsL, slotOf]
      rw [h3, h7, h11, h15, h19, h23]
      go_wp2
      exact ⟨rfl, Below.refl _ _, rfl⟩
    rintro vals W hB ⟨q0, q1, q2, q3, q4, q5, q6, q7, q8, q9, q10, q11, q12, q13, q14, q15, q16, q17, q18, q19, q20, q21, q22, q23, q24, -⟩
    have h0 : vals 0 = _ := q0
    have h1 : vals 1 = _ := q1
    have h2 : vals 2 = _ := q2
    have h3 : vals 3 = _ := q3
    have h4 : vals 4 = _ := q4
    have h5 : vals 5 = _ := q5
    have h6 : vals 6 = _ := q6
    have h7 : vals 7 = _ := q7
    have h8 : vals 8 = _ := q8
    have h9 : vals 9 = _ := q9
    have h10 : vals 10 = _ := q10
    have h11 : vals 11 = _ := q11
    have h12 : vals 12 = _ := q12
    have h13 : vals 13 = _ := q13
    have h14 : vals 14 = _ := q14
    have h15 : vals 15 = _ := q15
    have h16 : vals 16 = _ := q16
    have h17 : vals 17 = _ := q17
    have h18 : vals 18 = _ := q18
    have h19 : vals 19 = _ := q19
    have h20 : vals 20 = _ := q20
    have h21 : vals 21 = _ := q21
    have h22 : vals 22 = _ := q22
    have h23 : vals 23 = _ := q23
    have h24 : vals 24 = _ := q24
    dsimp only [putsL]
    rw [h0, h1, h2, h3, h4, h5, h6, h7, h8, h9, h10, h11, h12, h13, h14, h15, h16, h17, h18, h19, h20, h21, h22, h23, h24]
    clear h0 q0 h1 q1 h2 q2 h3 q3 h4 q4 h5 q5 h6 q6 h7 q7 h8 q8 h9 q9 h10 q10 h11 q11 h12 q12 h13 q13 h14 q14 h15 q15 h16 q16 h17 q17 h18 q18 h19 q19 h20 q20 h21 q21 h22 q22 h23 q23 h24 q24
    simp only [List.length_cons, List.length_nil, Nat.reduceAdd, List.drop_succ_cons, List.drop_zero, List.setIfInBounds_toArray, List.set_cons_succ, List.set_cons_zero]
    have HP2 : Veil _ := ⟨HP1.out.after hB⟩
    clear hB wr0 wr1 wr2 wr3 wr4 wr5
    obtain ⟨⟨y0, y1, y2, y3, y4, y5⟩, f0, f1, f2, f3, f4, f5⟩ := pkC6 HP2.out.m
    have HM3 : Veil _ := ⟨stC6 HP2.out.m (.int .i64 a0) (.int .u32 a1) (.int .u32 a2) (.int .u16 a3) (.int .i64 c4) (.int .i64 c5)⟩
    have HR3 : Veil _ := ⟨(otC6 (w := W) (g := w.heap.size + 1) (k := w.heap.size) (by omega) (.int .i64 a0) (.int .u32 a1) (.int .u32 a2) (.int .u16 a3) (.int .i64 c4) (.int .i64 c5)).trans HP2.out.r⟩
    have HT3 : Veil _ := ⟨tnC6 HP2.out.t (g := w.heap.size + 1) (by omega) (.int .i64 a0) (.int .u32 a1) (.int .u32 a2) (.int .u16 a3) (.int .i64 c4) (.int .i64 c5)⟩
    obtain ⟨⟨z0, z1, z2, z3, z4, z5⟩, k0, k1, k2, k3, k4, k5⟩ := pkC6 HR3.out
    obtain ⟨⟨u0, u1, u2, u3, u4, u5⟩, -⟩ := pkC6 HM3.out
    cases rt
    · go_wp2_with (go_at_call 24; refine (HIs.out _).mono ?_; rintro e w3 ⟨rfl, rfl⟩)
      go_step3
      refine jump_goto ?_
      go_wp2
      rw [Exit.noGoto_ret]
      exact bodyPost_ret (results_pcmd (g := w.heap.size) rfl rfl rfl (stC6 HR3.out _ _ _ _ _ _)) rfl ⟨rfl, tnC6 HT3.out (Nat.le_refl _) _ _ _ _ _ _⟩
    · go_wp2_with (go_at_call 24; refine (HIs.out _).mono ?_; rintro e w3 ⟨rfl, rfl⟩)
      refine jump_ret ?_
      exact bodyPost_ret (results_pcmd (g := w.heap.size) rfl rfl rfl (stC6 HR3.out _ _ _ _ _ _)) rfl ⟨ret_pair HFin.out.symm, tnC6 HT3.out (Nat.le_refl _) _ _ _ _ _ _⟩
  · have hR : preqR s = (Cm.zero, 170) := by unfold preqR; rw [if_neg (fun h => hl h.1)]
    rw [hR]
    have HNv : Veil (∀ (e : Ending) (w' : World), pcmd_post s e w' → e = .returned (.slice none 0 0)) := ⟨by
      rintro e w' (⟨h, -⟩ | ⟨-, h⟩)
      · exact absurd h hl
      · exact h⟩
    clear hR hl hs
    dsimp only [Cm.zero, Cm.v]
    go_enter Try.func12, Try.ntmps12
    go_wp2
    refine wp_scope_ahead 0 rfl ?_
    go_wp2_with (go_at_call 28; refine (HNu.out _ _ (by simp)).mono ?_; rintro e w1 ⟨hpost, hb1⟩; have hN := HNv.out _ _ hpost; subst hN; have HP4 : Veil _ := ⟨HP0.out.after hb1⟩; clear hpost hb1; obtain ⟨⟨z0, z1, z2, z3, z4, z5⟩, k0, k1, k2, k3, k4, k5⟩ := pkC6 HP4.out.r)
    go_step3
    refine jump_goto ?_
    go_wp2
    rw [Exit.noGoto_ret]
    exact bodyPost_ret (results_pcmd (g := w.heap.size) rfl rfl rfl (stC6 HP4.out.r _ _ _ _ _ _)) rfl ⟨rfl, tnC6 HP4.out.t (Nat.le_refl _) _ _ _ _ _ _⟩
theorem results_paw {fn : Func} {p q : Tmp} {tmps : Array Value} {w : World} {g : Nat} {x0 x1 x2 y : Value} (h : fn.results = #[.cell p 28, .tmp q]) (hp : tmps.getD p undef = .pointer (some ⟨g, 0, none⟩)) (hq : tmps.getD q undef = y) (hg : w.heap[g]? = some (.cells #[x0, x1, x2] 28 (0, 0))) :
    (results fn tmps).run Try.prog w = .ok (.tuple #[.agg #[x0, x1, x2], y]) w := by
  rw [results_cell_tmp h]
  have hp' : tmps[p]?.getD undef = .pointer (some ⟨g, 0, none⟩) := by simpa using hp
  have hq' : tmps[q]?.getD undef = y := by simpa using hq
  have hin : (Try.prog.info? 28).map (·.size) = some 3 := by kernel_rfl
  simp [hp', hq', asAddr, run_loadVar_row w g 28 28 #[x0, x1, x2] (0, 0) _ hg Try.underlying28 rfl hin]
theorem paw_new (w : World) : PzB 28 #[.int .i64 0, .int .i64 0, .int .i64 0] #[.int .i64 0, .int .i64 0, .int .i64 0] w ((w.alloc (.cells #[.int .i64 0, .int .i64 0, .int .i64 0] 28)).alloc (.cells #[.int .i64 0, .int .i64 0, .int .i64 0] 28)) :=
  ⟨heap_alloc2_old _ _ _, heap_alloc2_new _ _ _, below_al (below_al (Below.refl _ _) _) _⟩
def paw_post (s : List UInt8) (e : Ending) (w' : World) : Prop := (s.length = 18 ∧ ∃ p c, e = .returned (.slice p 3 c) ∧ Els elQ w' p [seg s 0 2, seg s 2 8, seg s 10 8]) ∨ (s.length ≠ 18 ∧ e = .returned (.slice none 0 0))
theorem paw_row (s : List UInt8) (hs : s.length ≤ 1000000) (W : World) (g : Nat) (hg : g = W.heap.size) : Calls Try.prog 28 #[.string ⟨s.toArray⟩, .slice (some ⟨g, 0, none⟩) 3 3] (W.alloc (.cells #[.int .i64 2, .int .i64 8, .int .i64 8] 3)) (fun e w' => paw_post s e w' ∧ Below W.heap.size W w') := by
  subst hg
  refine (cnumbers_any s hs W.heap.size [2, 8, 8] (by decide) (by decide) _ (heap_alloc_new _ _)).mono ?_
  rintro e w' ⟨v, rfl, h, hb⟩
  refine ⟨?_, bc_then (below_al (Below.refl _ _) _) hb⟩
  rcases h with ⟨h1, p, c, rfl, h2⟩ | ⟨h1, rfl⟩
  · exact .inl ⟨h1, p, c, rfl, h2⟩
  · exact .inr ⟨h1, rfl⟩

set_option maxRecDepth 20000 in
set_option maxHeartbeats 4000000 in
theorem paw_any (s : List UInt8) (hs : s.length ≤ 1000000) (w : World) : Calls Try.prog 17 #[.string ⟨s.toArray⟩] w fun e w' => e = .returned (.tuple #[(prepR s).1.v, .int .i64 (prepR s).2]) ∧ Below w.heap.size w w' := by
  have HNu : Veil _ := ⟨fun W g hg => paw_row s hs W g hg⟩
  have HP0 : Veil _ := ⟨paw_new w⟩
  by_cases hl : s.length = 18
  · have HR : Veil (prepR s = if erOk (awOf s).e = true then (awOf s, 0) else (Aw.zero, 170)) := ⟨by unfold prepR; simp [hl]⟩
    have HNv : Veil (∀ (e : Ending) (w' : World), paw_post s e w' → ∃ p c, e = .returned (.slice p 3 c) ∧ Els elQ w' p [seg s 0 2, seg s 2 8, seg s 10 8]) := ⟨by
      rintro e w' (⟨-, h⟩ | ⟨h, -⟩)
      · exact h
      · exact absurd hl h⟩
    have b0 := seg_lt s 0 2
    have b1 := seg_lt s 2 8
    have b2 := seg_lt s 10 8
    rw [q2] at b0
    rw [q8] at b1
    rw [q8] at b2
    have wr0 : IntKind.i64.wrap ((seg s 0 2 : Nat) : Int) = ((seg s 0 2 : Nat) : Int) := by rw [IntKind.wrap_i64]; omega
    have wr1 : IntKind.i64.wrap ((seg s 2 8 : Nat) : Int) = sgn (seg s 2 8) := sgn_wrap _ b1
    have wr2 : IntKind.i64.wrap ((seg s 10 8 : Nat) : Int) = sgn (seg s 10 8) := sgn_wrap _ b2
    have HIs : Veil _ := ⟨fun w => iserr_any ((seg s 0 2 : Nat) : Int) w⟩
    have HFin : Veil ((awOf s).v = .agg #[.int .i64 (((seg s 0 2 : Nat) : Int)), .int .i64 (sgn (seg s 2 8)), .int .i64 (sgn (seg s 10 8))]) := ⟨rfl⟩
    have HOk : Veil ((awOf s).e = ((seg s 0 2 : Nat) : Int)) := ⟨rfl⟩
    rw [HOk.out] at HR
    clear hl HOk hs
    revert HNv b0 wr0 HIs HFin HR b1 wr1 b2 wr2
    generalize sgn (seg s 2 8) = c1
    generalize sgn (seg s 10 8) = c2
    generalize seg s 0 2 = n0
    generalize seg s 2 8 = n1
    generalize seg s 10 8 = n2
    intros HR HNv b0 b1 b2 wr0 wr1 wr2 HIs HFin
    obtain ⟨a0, e0⟩ : ∃ a0 : Int, (n0 : Int) = a0 := ⟨_, rfl⟩
    obtain ⟨a1, e1⟩ : ∃ a1 : Int, (n1 : Int) = a1 := ⟨_, rfl⟩
    obtain ⟨a2, e2⟩ : ∃ a2 : Int, (n2 : Int) = a2 := ⟨_, rfl⟩
    rw [e0] at HFin
    rw [e0] at HIs HR
    rw [e0] at wr0
    rw [e1] at wr1
    rw [e2] at wr2
    have HE : Veil (∀ W p, Els elQ W p [n0, n1, n2] → ∃ b o, p = some ⟨b, o, none⟩ ∧ (∀ W', Below W.heap.size W W' → W'.cell? ⟨b, o, none⟩ = some (.int .u64 a0) ∧ W'.cell? ⟨b, o + 1, none⟩ = some (.int .u64 a1) ∧ W'.cell? ⟨b, o + 2, none⟩ = some (.int .u64 a2))) := ⟨fun W p h => by
      have := elsQ3 h
      rw [e0, e1, e2] at this
      exact this⟩
    clear b0 e0 b1 e1 b2 e2
    rw [HR.out]
    clear HR
    generalize erOk a0 = rt at HIs ⊢
    go_enter Try.func17, Try.ntmps17
    go_wp2
    refine wp_scope_ahead 0 rfl ?_
    go_wp2_with (go_at_call 28; refine (HNu.out _ _ (by simp)).mono ?_; rintro e w1 ⟨hpost, hb1⟩; obtain ⟨p, c, rfl, hels⟩ := HNv.out _ _ hpost; have HP1 : Veil _ := ⟨HP0.out.after hb1⟩; obtain ⟨b, o, rfl, hE4⟩ := HE.out _ _ hels; have HE4 : Veil _ := ⟨hE4⟩; clear hels hE4 hpost hb1)
    refine region_new [.is (.slice (some ⟨b, o, none⟩) 3 c), .is (.pointer (some ⟨b, o, none⟩)), .is (.int .u64 a0), .is (.int .i64 a0), .is (.slice (some ⟨b, o, none⟩) 3 c), .is (.pointer (some ⟨b, o + 1, none⟩)), .is (.int .u64 a1), .is (.int .i64 c1), .is (.slice (some ⟨b, o, none⟩) 3 c), .is (.pointer (some ⟨b, o + 2, none⟩)), .is (.int .u64 a2), .is (.int .i64 c2), .is (.agg #[.int .i64 a0, .int .i64 c1, .int .i64 c2])]
      [[], [(0, 12)], [(1, 13)], [(2, 14)], [], [(4, 16)], [(5, 17)], [(6, 18)], [], [(8, 20)], [(9, 21)], [(10, 22)], [(3, 15), (7, 19), (11, 23)]]
      [[], [0], [1], [2], [], [4], [5], [6], [], [8], [9], [10], [3, 7, 11]]
      [(0, 12), (1, 13), (2, 14), (3, 15), (4, 16), (5, 17), (6, 18), (7, 19), (8, 20), (9, 21), (10, 22), (11, 23), (12, 24)] rfl (by kernel_rfl) ⟨?_, ?_, ?_, ?_, ?_, ?_, ?_, ?_, ?_, ?_, ?_, ?_, ?_, trivial⟩ ?_
    · intro vals W hB _
      dsimp only [putsL, slotOf]
      go_wp2
      exact ⟨rfl, Below.refl _ _, rfl⟩
    · intro vals W hB ⟨h0, _⟩
      have h0 : vals 0 = _ := h0
      dsimp only [putsL, slotOf]
      rw [h0]
      go_wp2
      exact ⟨rfl, Below.refl _ _, rfl⟩
    · intro vals W hB ⟨h1, _⟩
      have h1 : vals 1 = _ := h1
      obtain ⟨x0, x1, x2⟩ := HE4.out W hB
      dsimp only [putsL, slotOf]
      rw [h1]
      go_wp2
      exact ⟨rfl, Below.refl _ _, rfl⟩
    · intro vals W hB ⟨h2, _⟩
      have h2 : vals 2 = _ := h2
      dsimp only [putsL, slotOf]
      rw [h2]
      go_wp2
      exact ⟨rfl, Below.refl _ _, rfl⟩
    · intro vals W hB _
      dsimp only [putsL, slotOf]
      go_wp2
      exact ⟨rfl, Below.refl _ _, rfl⟩
    · intro vals W hB ⟨h4, _⟩
      have h4 : vals 4 = _ := h4
      dsimp only [putsL, slotOf]
      rw [h4]
      go_wp2
      exact ⟨rfl, Below.refl _ _, rfl⟩
    · intro vals W hB ⟨h5, _⟩
      have h5 : vals 5 = _ := h5
      obtain ⟨x0, x1, x2⟩ := HE4.out W hB
      dsimp only [putsL, slotOf]
      rw [h5]
      go_wp2
      exact ⟨rfl, Below.refl _ _, rfl⟩
    · intro vals W hB ⟨h6, _⟩
      have h6 : vals 6 = _ := h6
      dsimp only [putsL, slotOf]
      rw [h6]
      go_wp2
      exact ⟨rfl, Below.refl _ _, rfl⟩
    · intro vals W hB _
      dsimp only [putsL, slotOf]
      go_wp2
      exact ⟨rfl, Below.refl _ _, rfl⟩
    · intro vals W hB ⟨h8, _⟩
      have h8 : vals 8 = _ := h8
      dsimp only [putsL, slotOf]
      rw [h8]
      go_wp2
      exact ⟨rfl, Below.refl _ _, rfl⟩
    · intro vals W hB ⟨h9, _⟩
      have h9 : vals 9 = _ := h9
      obtain ⟨x0, x1, x2⟩ := HE4.out W hB
      dsimp only [putsL, slotOf]
      rw [h9]
      go_wp2
      exact ⟨rfl, Below.refl _ _, rfl⟩
    · intro vals W hB ⟨h10, _⟩
      have h10 : vals 10 = _ := h10
      dsimp only [putsL, slotOf]
      rw [h10]
      go_wp2
      exact ⟨rfl, Below.refl _ _, rfl⟩
    · intro vals W hB ⟨h3, h7, h11, _⟩
      have h3 : vals 3 = _ := h3
      have h7 : vals 7 = _ := h7
      have h11 : vals 11 = _ := h11
      dsimp only [putsL, slotOf]
      rw [h3, h7, h11]
      go_wp2
      exact ⟨rfl, Below.refl _ _, rfl⟩
    rintro vals W hB ⟨q0, q1, q2, q3, q4, q5, q6, q7, q8, q9, q10, q11, q12, -⟩
    have h0 : vals 0 = _ := q0
    have h1 : vals 1 = _ := q1
    have h2 : vals 2 = _ := q2
    have h3 : vals 3 = _ := q3
    have h4 : vals 4 = _ := q4
    have h5 : vals 5 = _ := q5
    have h6 : vals 6 = _ := q6
    have h7 : vals 7 = _ := q7
    have h8 : vals 8 = _ := q8
    have h9 : vals 9 = _ := q9
    have h10 : vals 10 = _ := q10
    have h11 : vals 11 = _ := q11
    have h12 : vals 12 = _ := q12
    dsimp only [putsL]
    rw [h0, h1, h2, h3, h4, h5, h6, h7, h8, h9, h10, h11, h12]
    clear h0 q0 h1 q1 h2 q2 h3 q3 h4 q4 h5 q5 h6 q6 h7 q7 h8 q8 h9 q9 h10 q10 h11 q11 h12 q12
    simp only [List.length_cons, List.length_nil, Nat.reduceAdd, List.drop_succ_cons, List.drop_zero, List.setIfInBounds_toArray, List.set_cons_succ, List.set_cons_zero]
    have HP2 : Veil _ := ⟨HP1.out.after hB⟩
    clear hB wr0 wr1 wr2
    obtain ⟨⟨y0, y1, y2⟩, f0, f1, f2⟩ := pkC3 HP2.out.m
    have HM3 : Veil _ := ⟨stC3 HP2.out.m (.int .i64 a0) (.int .i64 c1) (.int .i64 c2)⟩
    have HR3 : Veil _ := ⟨(otC3 (w := W) (g := w.heap.size + 1) (k := w.heap.size) (by omega) (.int .i64 a0) (.int .i64 c1) (.int .i64 c2)).trans HP2.out.r⟩
    have HT3 : Veil _ := ⟨tnC3 HP2.out.t (g := w.heap.size + 1) (by omega) (.int .i64 a0) (.int .i64 c1) (.int .i64 c2)⟩
    obtain ⟨⟨z0, z1, z2⟩, k0, k1, k2⟩ := pkC3 HR3.out
    obtain ⟨⟨u0, u1, u2⟩, -⟩ := pkC3 HM3.out
    cases rt
    · go_wp2_with (go_at_call 30; refine (HIs.out _).mono ?_; rintro e w3 ⟨rfl, rfl⟩)
      go_step3
      refine jump_goto ?_
      go_wp2
      rw [Exit.noGoto_ret]
      exact bodyPost_ret (results_paw (g := w.heap.size) rfl rfl rfl (stC3 HR3.out _ _ _)) rfl ⟨rfl, tnC3 HT3.out (Nat.le_refl _) _ _ _⟩
    · go_wp2_with (go_at_call 30; refine (HIs.out _).mono ?_; rintro e w3 ⟨rfl, rfl⟩)
      refine jump_ret ?_
      exact bodyPost_ret (results_paw (g := w.heap.size) rfl rfl rfl (stC3 HR3.out _ _ _)) rfl ⟨ret_pair HFin.out.symm, tnC3 HT3.out (Nat.le_refl _) _ _ _⟩
  · have hR : prepR s = (Aw.zero, 170) := by unfold prepR; rw [if_neg (fun h => hl h.1)]
    rw [hR]
    have HNv : Veil (∀ (e : Ending) (w' : World), paw_post s e w' → e = .returned (.slice none 0 0)) := ⟨by
      rintro e w' (⟨h, -⟩ | ⟨-, h⟩)
      · exact absurd h hl
      · exact h⟩
    clear hR hl hs
    dsimp only [Aw.zero, Aw.v]
    go_enter Try.func17, Try.ntmps17
    go_wp2
    refine wp_scope_ahead 0 rfl ?_
    go_wp2_with (go_at_call 28; refine (HNu.out _ _ (by simp)).mono ?_; rintro e w1 ⟨hpost, hb1⟩; have hN := HNv.out _ _ hpost; subst hN; have HP4 : Veil _ := ⟨HP0.out.after hb1⟩; clear hpost hb1; obtain ⟨⟨z0, z1, z2⟩, k0, k1, k2⟩ := pkC3 HP4.out.r)
    go_step3
    refine jump_goto ?_
    go_wp2
    rw [Exit.noGoto_ret]
    exact bodyPost_ret (results_paw (g := w.heap.size) rfl rfl rfl (stC3 HP4.out.r _ _ _)) rfl ⟨rfl, tnC3 HP4.out.t (Nat.le_refl _) _ _ _⟩
end Go.Proofs.Ytaolhhgfnhhgaaa

/- Codec: the document's own Frame, ParseRequest, ParseReply. -/
namespace Go.Proofs.Ytaolhhgfnhhgaaa
open Go Go.RowKit Sm
attribute [local go_sem] Oper.semAt_some

set_option maxRecDepth 20000 in
set_option maxHeartbeats 1000000 in
theorem refframe_any (s : List UInt8) (hs : s.length ≤ 1000000) (w : World) : Calls Try.prog 20 #[.string ⟨s.toArray⟩] w fun e w' => e = .returned (.tuple #[.string ⟨(frameR s).1.toArray⟩, .int .i64 (frameR s).2]) ∧ Below w.heap.size w w' := by
  by_cases h : 1 ≤ s.length ∧ s.length ≤ 100
  · have e : frameR s = (putB s.length 2 ++ s, 0) := by unfold frameR; rw [if_pos h]
    rw [e]
    have HP : Veil (∀ w, Calls Try.prog 27 #[.int .u64 s.length, .int .i64 2] w fun e w' => e = .returned (.string ⟨(putB s.length 2).toArray⟩) ∧ Below w.heap.size w w') := ⟨fun w => put_any s.length 2 (by decide) w⟩
    have hwr : IntKind.u64.wrap (s.length : Int) = s.length := by rw [IntKind.wrap_u64]; omega
    have h1 : ¬ ((s.length : Int) < 1) := by omega
    have h2 : ¬ ((s.length : Int) > 100) := by omega
    have hp : (putB s.length 2).length + s.length ≤ 1000 := by rw [putB_length]; omega
    clear h e
    generalize putB s.length 2 = P at *
    dsimp only
    go_enter Try.func20, Try.ntmps20
    go_wp2_with (go_at_call 27; refine (HP.out _).mono ?_; rintro e w4 ⟨rfl, hb4⟩)
    go_ret2
    exact ⟨rfl, hb4⟩
  · have e : frameR s = ([], 170) := by unfold frameR; rw [if_neg h]
    rw [e]
    clear e
    by_cases h1 : (s.length : Int) < 1
    · go_enter Try.func20, Try.ntmps20
      go_wp2
      go_ret2
      exact ⟨rfl, Below.refl _ _⟩
    · have h2 : (s.length : Int) > 100 := by omega
      go_enter Try.func20, Try.ntmps20
      go_wp2
      go_ret2
      exact ⟨rfl, Below.refl _ _⟩
theorem seg_get (s : List UInt8) (hs : s.length ≤ 1000000) (a b : Nat) (h : a ≤ b) (w : World) : Calls Try.prog 29 #[.string ((⟨s.toArray⟩ : ByteArray).extract a b)] w fun e w' => e = .returned (.int .u64 (seg s a (b - a) : Nat)) ∧ w = w' := by
  rw [extM]
  exact get_any _ (by rw [List.length_take]; have := List.length_drop (l := s) (i := a); omega) w
theorem seg_first (s : List UInt8) (h : 0 < s.length) : seg s 0 1 = (s.getD 0 0).toNat := by
  unfold seg
  have e : (s.drop 0).take 1 = [s.getD 0 0] := by
    cases s with
    | nil => simp at h
    | cons a r => simp
  rw [e]
  show 0 * 256 % 18446744073709551616 + (s.getD 0 0).toNat = _
  omega
theorem head_byte (s : List UInt8) (c : UInt8) (h : 0 < s.length) (hc : s.getD 0 0 = c) : (⟨s.toArray⟩ : ByteArray)[0]'(by simpa [ByteArray.size] using h) = c := by
  rw [← hc]
  simp [List.getD, h]; rfl
theorem head_index (s : List UInt8) (c : UInt8) (h : 0 < s.length) (hc : (⟨s.toArray⟩ : ByteArray)[0]'(by simpa [ByteArray.size] using h) = c) (W : World) : (Instr.index 9 (.string ⟨s.toArray⟩) (.int .i64 0)).run Try.prog W = .ok (.int .u8 c.toNat) W := by
  rw [run_index_string _ _ _ _ _ Try.underlying9]
  have h' : (0 : Int) ≤ 0 ∧ (0 : Int) < ((⟨s.toArray⟩ : ByteArray).size : Int) := by simp only [ByteArray.size, List.size_toArray]; omega
  rw [dif_pos h']
  have : (⟨s.toArray⟩ : ByteArray)[(0 : Int).toNat]'(by simpa [ByteArray.size] using h) = c := hc
  rw [this]

set_option maxRecDepth 20000 in
set_option maxHeartbeats 4000000 in
theorem refpcmd_any (s : List UInt8) (hs : s.length ≤ 1000000) (w : World) : Calls Try.prog 14 #[.string ⟨s.toArray⟩] w fun e w' => e = .returned (.tuple #[(preqR s).1.v, .int .i64 (preqR s).2]) ∧ Below w.heap.size w w' := by
  have HM : Veil _ := ⟨heap_alloc_new w (.cells #[.int .i64 0, .int .u32 0, .int .u32 0, .int .u16 0, .int .i64 0, .int .i64 0] 25)⟩
  have HBl : Veil _ := ⟨below_al (Below.refl _ w) (.cells #[.int .i64 0, .int .u32 0, .int .u32 0, .int .u16 0, .int .i64 0, .int .i64 0] 25)⟩
  obtain ⟨⟨z0, z1, z2, z3, z4, z5⟩, k0, k1, k2, k3, k4, k5⟩ := pkC6 HM.out
  by_cases hl : s.length = 27
  · have hf := seg_first s (by omega)
    have HR : Veil (preqR s = if opOk ((seg s 0 1 : Nat) : Int) = true then (cmOf s, 0) else (Cm.zero, 170)) := ⟨by unfold preqR; simp [hl]; rfl⟩
    rw [hf] at HR
    have HFin : Veil ((cmOf s).v = .agg #[.int .i64 ((seg s 0 1 : Nat) : Int), .int .u32 (((seg s 1 4 : Nat) : Int)), .int .u32 (((seg s 5 4 : Nat) : Int)), .int .u16 (((seg s 9 2 : Nat) : Int)), .int .i64 (sgn (seg s 11 8)), .int .i64 (sgn (seg s 19 8))]) := ⟨rfl⟩
    rw [hf] at HFin
    obtain ⟨c, hc⟩ : ∃ c, s.getD 0 0 = c := ⟨_, rfl⟩
    have hci := head_byte s c (by omega) hc
    rw [hc] at HR HFin
    have HOk : Veil _ := ⟨opOk_iff (c.toNat : Int)⟩
    have hcl := c.toNat_lt
    clear hf hc
    have G0 : Veil (∀ w, Calls Try.prog 29 #[.string ((⟨s.toArray⟩ : ByteArray).extract 1 5)] w fun e w' => e = .returned (.int .u64 (seg s 1 4 : Nat)) ∧ w = w') := ⟨fun w => seg_get s (by omega) 1 5 (by decide) w⟩
    have G1 : Veil (∀ w, Calls Try.prog 29 #[.string ((⟨s.toArray⟩ : ByteArray).extract 5 9)] w fun e w' => e = .returned (.int .u64 (seg s 5 4 : Nat)) ∧ w = w') := ⟨fun w => seg_get s (by omega) 5 9 (by decide) w⟩
    have G2 : Veil (∀ w, Calls Try.prog 29 #[.string ((⟨s.toArray⟩ : ByteArray).extract 9 11)] w fun e w' => e = .returned (.int .u64 (seg s 9 2 : Nat)) ∧ w = w') := ⟨fun w => seg_get s (by omega) 9 11 (by decide) w⟩
    have G3 : Veil (∀ w, Calls Try.prog 29 #[.string ((⟨s.toArray⟩ : ByteArray).extract 11 19)] w fun e w' => e = .returned (.int .u64 (seg s 11 8 : Nat)) ∧ w = w') := ⟨fun w => seg_get s (by omega) 11 19 (by decide) w⟩
    have G4 : Veil (∀ w, Calls Try.prog 29 #[.string ((⟨s.toArray⟩ : ByteArray).extract 19 27)] w fun e w' => e = .returned (.int .u64 (seg s 19 8 : Nat)) ∧ w = w') := ⟨fun w => seg_get s (by omega) 19 27 (by decide) w⟩
    have b0 := seg_lt s 1 4
    rw [q4] at b0
    have wr0 : IntKind.u32.wrap ((seg s 1 4 : Nat) : Int) = (seg s 1 4 : Nat) := by rw [IntKind.wrap_u32]; omega
    have b1 := seg_lt s 5 4
    rw [q4] at b1
    have wr1 : IntKind.u32.wrap ((seg s 5 4 : Nat) : Int) = (seg s 5 4 : Nat) := by rw [IntKind.wrap_u32]; omega
    have b2 := seg_lt s 9 2
    rw [q2] at b2
    have wr2 : IntKind.u16.wrap ((seg s 9 2 : Nat) : Int) = (seg s 9 2 : Nat) := by rw [IntKind.wrap_u16]; omega
    have b3 := seg_lt s 11 8
    rw [q8] at b3
    have wr3 : IntKind.i64.wrap ((seg s 11 8 : Nat) : Int) = sgn (seg s 11 8) := sgn_wrap _ b3
    have b4 := seg_lt s 19 8
    rw [q8] at b4
    have wr4 : IntKind.i64.wrap ((seg s 19 8 : Nat) : Int) = sgn (seg s 19 8) := sgn_wrap _ b4
    clear b0 b1 b2 b3 b4
    obtain ⟨S, hS⟩ : ∃ S : ByteArray, (⟨s.toArray⟩ : ByteArray) = S := ⟨_, rfl⟩
    have hsz : S.size = 27 := by rw [← hS]; simpa [ByteArray.size] using hl
    obtain ⟨C, hC⟩ : ∃ C : Int, ((c.toNat : Nat) : Int) = C := ⟨_, rfl⟩
    rw [hC] at HR HFin HOk
    have hC0 : 0 ≤ C ∧ C < 256 := by omega
    obtain ⟨hC0, hC1⟩ := hC0
    have wC : IntKind.i64.wrap C = C := by rw [IntKind.wrap_i64]; omega
    have hix : ∀ W, (Instr.index 9 (.string S) (.int .i64 0)).run Try.prog W = .ok (.int .u8 C) W := by
      intro W
      rw [← hS, ← hC]
      exact head_index s c (by omega) hci W
    rw [hS]
    rw [hS] at G0 G1 G2 G3 G4
    clear hci hS hC hcl hl hs
    rw [HR.out]
    clear HR
    by_cases hop : opOk C = true
    · rw [hop]
      rw [if_pos rfl]
      obtain ⟨o1, o2⟩ := HOk.out.1 hop
      have hn1 : ¬ C < 1 := by omega
      have hn2 : ¬ C > 21 := by omega
      clear HOk hop
      generalize sgn (seg s 11 8) = c3 at *
      generalize sgn (seg s 19 8) = c4 at *
      generalize hn0 : (seg s 1 4 : Nat) = m0 at *
      obtain ⟨n0, e0⟩ : ∃ n0 : Int, (m0 : Int) = n0 := ⟨_, rfl⟩
      rw [e0] at G0
      rw [e0] at wr0
      rw [e0] at HFin
      clear e0 hn0
      generalize hn1 : (seg s 5 4 : Nat) = m1 at *
      obtain ⟨n1, e1⟩ : ∃ n1 : Int, (m1 : Int) = n1 := ⟨_, rfl⟩
      rw [e1] at G1
      rw [e1] at wr1
      rw [e1] at HFin
      clear e1 hn1
      generalize hn2 : (seg s 9 2 : Nat) = m2 at *
      obtain ⟨n2, e2⟩ : ∃ n2 : Int, (m2 : Int) = n2 := ⟨_, rfl⟩
      rw [e2] at G2
      rw [e2] at wr2
      rw [e2] at HFin
      clear e2 hn2
      generalize hn3 : (seg s 11 8 : Nat) = m3 at *
      obtain ⟨n3, e3⟩ : ∃ n3 : Int, (m3 : Int) = n3 := ⟨_, rfl⟩
      rw [e3] at G3
      rw [e3] at wr3
      clear e3 hn3
      generalize hn4 : (seg s 19 8 : Nat) = m4 at *
      obtain ⟨n4, e4⟩ : ∃ n4 : Int, (m4 : Int) = n4 := ⟨_, rfl⟩
      rw [e4] at G4
      rw [e4] at wr4
      clear e4 hn4
      go_enter Try.func14, Try.ntmps14
      go_wp2
      refine region_new [.is (.string S), .is (.int .u8 C), .is (.int .i64 C), .is (.string S), .is (.string (S.extract 1 5)), .is (.int .u64 n0), .is (.int .u32 n0), .is (.string S), .is (.string (S.extract 5 9)), .is (.int .u64 n1), .is (.int .u32 n1), .is (.string S), .is (.string (S.extract 9 11)), .is (.int .u64 n2), .is (.int .u16 n2), .is (.string S), .is (.string (S.extract 11 19)), .is (.int .u64 n3), .is (.int .i64 c3), .is (.string S), .is (.string (S.extract 19 27)), .is (.int .u64 n4), .is (.int .i64 c4), .is (.agg #[.int .i64 C, .int .u32 n0, .int .u32 n1, .int .u16 n2, .int .i64 c3, .int .i64 c4])]
        [[], [(0, 18)], [(1, 19)], [], [(3, 21)], [(4, 22)], [(5, 23)], [], [(7, 25)], [(8, 26)], [(9, 27)], [], [(11, 29)], [(12, 30)], [(13, 31)], [], [(15, 33)], [(16, 34)], [(17, 35)], [], [(19, 37)], [(20, 38)], [(21, 39)], [(2, 20), (6, 24), (10, 28), (14, 32), (18, 36), (22, 40)]]
        [[], [0], [1], [], [3], [4], [5], [], [7], [5, 8], [9], [], [11], [9, 12], [13], [], [15], [13, 16], [17], [], [19], [17, 20], [21], [2, 6, 10, 14, 18, 22]]
        [(0, 18), (1, 19), (2, 20), (3, 21), (4, 22), (5, 23), (6, 24), (7, 25), (8, 26), (9, 27), (10, 28), (11, 29), (12, 30), (13, 31), (14, 32), (15, 33), (16, 34), (17, 35), (18, 36), (19, 37), (20, 38), (21, 39), (22, 40), (23, 41)] rfl (by kernel_rfl) ⟨?_, ?_, ?_, ?_, ?_, ?_, ?_, ?_, ?_, ?_, ?_, ?_, ?_, ?_, ?_, ?_, ?_, ?_, ?_, ?_, ?_, ?_, ?_, ?_, trivial⟩ ?_
      · intro vals W hB _
        dsimp only [putsL, slotOf]
        go_wp2
        exact ⟨rfl, Below.refl _ _, rfl⟩
      · intro vals W hB ⟨h0, _⟩
        have h0 : vals 0 = _ := h0
        dsimp only [putsL, slotOf]
        rw [h0]
        go_wp2
        exact ⟨rfl, Below.refl _ _, rfl⟩
      · intro vals W hB ⟨h1, _⟩
        have h1 : vals 1 = _ := h1
        dsimp only [putsL, slotOf]
        rw [h1]
        go_wp2
        exact ⟨rfl, Below.refl _ _, rfl⟩
      · intro vals W hB _
        dsimp only [putsL, slotOf]
        go_wp2
        exact ⟨rfl, Below.refl _ _, rfl⟩
      · intro vals W hB ⟨h3, _⟩
        have h3 : vals 3 = _ := h3
        dsimp only [putsL, slotOf]
        rw [h3]
        go_wp2
        exact ⟨rfl, Below.refl _ _, rfl⟩
      · intro vals W hB ⟨h4, _⟩
        have h4 : vals 4 = _ := h4
        dsimp only [putsL, slotOf]
        rw [h4]
        go_wp2_with ((go_at_call 29; (with_reducible refine (G0.out _).mono ?_); rintro e w4 ⟨rfl, hw4⟩; subst hw4; have hb4 := Below.refl W.heap.size W))
        exact ⟨rfl, hb4, rfl⟩
      · intro vals W hB ⟨h5, _⟩
        have h5 : vals 5 = _ := h5
        dsimp only [putsL, slotOf]
        rw [h5]
        go_wp2
        exact ⟨rfl, Below.refl _ _, rfl⟩
      · intro vals W hB _
        dsimp only [putsL, slotOf]
        go_wp2
        exact ⟨rfl, Below.refl _ _, rfl⟩
      · intro vals W hB ⟨h7, _⟩
        have h7 : vals 7 = _ := h7
        dsimp only [putsL, slotOf]
        rw [h7]
        go_wp2
        exact ⟨rfl, Below.refl _ _, rfl⟩
      · intro vals W hB ⟨h5, h8, _⟩
        have h8 : vals 8 = _ := h8
        dsimp only [putsL, slotOf]
        rw [h8]
        go_wp2_with ((go_at_call 29; (with_reducible refine (G1.out _).mono ?_); rintro e w4 ⟨rfl, hw4⟩; subst hw4; have hb4 := Below.refl W.heap.size W))
        exact ⟨rfl, hb4, rfl⟩
      · intro vals W hB ⟨h9, _⟩
        have h9 : vals 9 = _ := h9
        dsimp only [putsL, slotOf]
        rw [h9]
        go_wp2
        exact ⟨rfl, Below.refl _ _, rfl⟩
      · intro vals W hB _
        dsimp only [putsL, slotOf]
        go_wp2
        exact ⟨rfl, Below.refl _ _, rfl⟩
      · intro vals W hB ⟨h11, _⟩
        have h11 : vals 11 = _ := h11
        dsimp only [putsL, slotOf]
        rw [h11]
        go_wp2
        exact ⟨rfl, Below.refl _ _, rfl⟩
      · intro vals W hB ⟨h9, h12, _⟩
        have h12 : vals 12 = _ := h12
        dsimp only [putsL, slotOf]
        rw [h12]
        go_wp2_with ((go_at_call 29; (with_reducible refine (G2.out _).mono ?_); rintro e w4 ⟨rfl, hw4⟩; subst hw4; have hb4 := Below.refl W.heap.size W))
        exact ⟨rfl, hb4, rfl⟩
      · intro vals W hB ⟨h13, _⟩
        have h13 : vals 13 = _ := h13
        dsimp only [putsL, slotOf]
        rw [h13]
        go_wp2
        exact ⟨rfl, Below.refl _ _, rfl⟩
      · intro vals W hB _
        dsimp only [putsL, slotOf]
        go_wp2
        exact ⟨rfl, Below.refl _ _, rfl⟩
      · intro vals W hB ⟨h15, _⟩
        have h15 : vals 15 = _ := h15
        dsimp only [putsL, slotOf]
        rw [h15]
        go_wp2
        exact ⟨rfl, Below.refl _ _, rfl⟩
      · intro vals W hB ⟨h13, h16, _⟩
        have h16 : vals 16 = _ := h16
        dsimp only [putsL, slotOf]
        rw [h16]
        go_wp2_with ((go_at_call 29; (with_reducible refine (G3.out _).mono ?_); rintro e w4 ⟨rfl, hw4⟩; subst hw4; have hb4 := Below.refl W.heap.size W))
        exact ⟨rfl, hb4, rfl⟩
      · intro vals W hB ⟨h17, _⟩
        have h17 : vals 17 = _ := h17
        dsimp only [putsL, slotOf]
        rw [h17]
        go_wp2
        exact ⟨rfl, Below.refl _ _, rfl⟩
      · intro vals W hB _
        dsimp only [putsL, slotOf]
        go_wp2
        exact ⟨rfl, Below.refl _ _, rfl⟩
      · intro vals W hB ⟨h19, _⟩
        have h19 : vals 19 = _ := h19
        dsimp only [putsL, slotOf]
        rw [h19]
        go_wp2
        exact ⟨rfl, Below.refl _ _, rfl⟩
      · intro vals W hB ⟨h17, h20, _⟩
        have h20 : vals 20 = _ := h20
        dsimp only [putsL, slotOf]
        rw [h20]
        go_wp2_with ((go_at_call 29; (with_reducible refine (G4.out _).mono ?_); rintro e w4 ⟨rfl, hw4⟩; subst hw4; have hb4 := Below.refl W.heap.size W))
        exact ⟨rfl, hb4, rfl⟩
      · intro vals W hB ⟨h21, _⟩
        have h21 : vals 21 = _ := h21
        dsimp only [putsL, slotOf]
        rw [h21]
        go_wp2
        exact ⟨rfl, Below.refl _ _, rfl⟩
      · intro vals W hB ⟨h2, h6, h10, h14, h18, h22, _⟩
        have h2 : vals 2 = _ := h2
        have h6 : vals 6 = _ := h6
        have h10 : vals 10 = _ := h10
        have h14 : vals 14 = _ := h14
        have h18 : vals 18 = _ := h18
        have h22 : vals 22 = _ := h22
        dsimp only [putsL, slotOf]
        rw [h2, h6, h10, h14, h18, h22]
        go_wp2
        exact ⟨rfl, Below.refl _ _, rfl⟩
      rintro vals W hB ⟨q0, q1, q2, q3, q4, q5, q6, q7, q8, q9, q10, q11, q12, q13, q14, q15, q16, q17, q18, q19, q20, q21, q22, q23, -⟩
      have h0 : vals 0 = _ := q0
      have h1 : vals 1 = _ := q1
      have h2 : vals 2 = _ := q2
      have h3 : vals 3 = _ := q3
      have h4 : vals 4 = _ := q4
      have h5 : vals 5 = _ := q5
      have h6 : vals 6 = _ := q6
      have h7 : vals 7 = _ := q7
      have h8 : vals 8 = _ := q8
      have h9 : vals 9 = _ := q9
      have h10 : vals 10 = _ := q10
      have h11 : vals 11 = _ := q11
      have h12 : vals 12 = _ := q12
      have h13 : vals 13 = _ := q13
      have h14 : vals 14 = _ := q14
      have h15 : vals 15 = _ := q15
      have h16 : vals 16 = _ := q16
      have h17 : vals 17 = _ := q17
      have h18 : vals 18 = _ := q18
      have h19 : vals 19 = _ := q19
      have h20 : vals 20 = _ := q20
      have h21 : vals 21 = _ := q21
      have h22 : vals 22 = _ := q22
      have h23 : vals 23 = _ := q23
      dsimp only [putsL]
      rw [h0, h1, h2, h3, h4, h5, h6, h7, h8, h9, h10, h11, h12, h13, h14, h15, h16, h17, h18, h19, h20, h21, h22, h23]
      clear h0 q0 h1 q1 h2 q2 h3 q3 h4 q4 h5 q5 h6 q6 h7 q7 h8 q8 h9 q9 h10 q10 h11 q11 h12 q12 h13 q13 h14 q14 h15 q15 h16 q16 h17 q17 h18 q18 h19 q19 h20 q20 h21 q21 h22 q22 h23 q23
      simp only [List.length_cons, List.length_nil, Nat.reduceAdd, List.drop_succ_cons, List.drop_zero, List.setIfInBounds_toArray, List.set_cons_succ, List.set_cons_zero]
      have HM2 : Veil _ := ⟨(hB.block _ (lt_of_heap HM.out)).trans HM.out⟩
      have HB2 : Veil _ := ⟨bc_then HBl.out hB⟩
      clear hB
      obtain ⟨⟨y0, y1, y2, y3, y4, y5⟩, f0, f1, f2, f3, f4, f5⟩ := pkC6 HM2.out
      go_wp2
      exact bodyPost_ret (results_pcmd (g := w.heap.size) rfl rfl rfl (stC6 HM2.out _ _ _ _ _ _)) rfl ⟨ret_pair HFin.out.symm, tnC6 HB2.out (Nat.le_refl _) _ _ _ _ _ _⟩
    · rw [if_neg hop]
      rw [HOk.out] at hop
      dsimp only [Cm.zero, Cm.v]
      clear HOk HFin G0 G1 G2 G3 G4 wr0 wr1 wr2 wr3 wr4
      by_cases h1 : C < 1
      · go_enter Try.func14, Try.ntmps14
        go_wp2
        exact bodyPost_ret (results_pcmd (g := w.heap.size) rfl rfl rfl HM.out) rfl ⟨rfl, HBl.out⟩
      · have h2 : C > 21 := by omega
        go_enter Try.func14, Try.ntmps14
        go_wp2
        exact bodyPost_ret (results_pcmd (g := w.heap.size) rfl rfl rfl HM.out) rfl ⟨rfl, HBl.out⟩
  · have e : preqR s = (Cm.zero, 170) := by unfold preqR; rw [if_neg (fun h => hl h.1)]
    rw [e]
    dsimp only [Cm.zero, Cm.v]
    have hne : ((s.length : Int) != 27) = true := by simp; omega
    clear e
    go_enter Try.func14, Try.ntmps14
    go_wp2
    exact bodyPost_ret (results_pcmd (g := w.heap.size) rfl rfl rfl HM.out) rfl ⟨rfl, HBl.out⟩

set_option maxRecDepth 20000 in
set_option maxHeartbeats 4000000 in
theorem refpaw_any (s : List UInt8) (hs : s.length ≤ 1000000) (w : World) : Calls Try.prog 18 #[.string ⟨s.toArray⟩] w fun e w' => e = .returned (.tuple #[(prepR s).1.v, .int .i64 (prepR s).2]) ∧ Below w.heap.size w w' := by
  have HM : Veil _ := ⟨heap_alloc_new w (.cells #[.int .i64 0, .int .i64 0, .int .i64 0] 28)⟩
  have HBl : Veil _ := ⟨below_al (Below.refl _ w) (.cells #[.int .i64 0, .int .i64 0, .int .i64 0] 28)⟩
  obtain ⟨⟨z0, z1, z2⟩, k0, k1, k2⟩ := pkC3 HM.out
  by_cases hl : s.length = 18
  · have HR : Veil (prepR s = if erOk ((seg s 0 2 : Nat) : Int) = true then (awOf s, 0) else (Aw.zero, 170)) := ⟨by unfold prepR; simp [hl]; rfl⟩
    have HFin : Veil ((awOf s).v = .agg #[.int .i64 ((seg s 0 2 : Nat) : Int), .int .i64 (sgn (seg s 2 8)), .int .i64 (sgn (seg s 10 8))]) := ⟨rfl⟩
    have HOk : Veil _ := ⟨erOk_iff ((seg s 0 2 : Nat) : Int)⟩
    have hcl := seg_lt s 0 2
    rw [q2] at hcl
    have GF : Veil (∀ w, Calls Try.prog 29 #[.string ((⟨s.toArray⟩ : ByteArray).extract 0 2)] w fun e w' => e = .returned (.int .u64 (seg s 0 2 : Nat)) ∧ w = w') := ⟨fun w => seg_get s (by omega) 0 2 (by decide) w⟩
    have G0 : Veil (∀ w, Calls Try.prog 29 #[.string ((⟨s.toArray⟩ : ByteArray).extract 2 10)] w fun e w' => e = .returned (.int .u64 (seg s 2 8 : Nat)) ∧ w = w') := ⟨fun w => seg_get s (by omega) 2 10 (by decide) w⟩
    have G1 : Veil (∀ w, Calls Try.prog 29 #[.string ((⟨s.toArray⟩ : ByteArray).extract 10 18)] w fun e w' => e = .returned (.int .u64 (seg s 10 8 : Nat)) ∧ w = w') := ⟨fun w => seg_get s (by omega) 10 18 (by decide) w⟩
    have b0 := seg_lt s 2 8
    rw [q8] at b0
    have wr0 : IntKind.i64.wrap ((seg s 2 8 : Nat) : Int) = sgn (seg s 2 8) := sgn_wrap _ b0
    have b1 := seg_lt s 10 8
    rw [q8] at b1
    have wr1 : IntKind.i64.wrap ((seg s 10 8 : Nat) : Int) = sgn (seg s 10 8) := sgn_wrap _ b1
    clear b0 b1
    obtain ⟨S, hS⟩ : ∃ S : ByteArray, (⟨s.toArray⟩ : ByteArray) = S := ⟨_, rfl⟩
    have hsz : S.size = 18 := by rw [← hS]; simpa [ByteArray.size] using hl
    generalize hc : (seg s 0 2 : Nat) = c at *
    obtain ⟨C, hC⟩ : ∃ C : Int, ((c : Nat) : Int) = C := ⟨_, rfl⟩
    rw [hC] at HR HFin HOk GF
    have hC0 : 0 ≤ C ∧ C < 65536 := by omega
    obtain ⟨hC0, hC1⟩ := hC0
    have wC : IntKind.i64.wrap C = C := by rw [IntKind.wrap_i64]; omega
    rw [hS]
    rw [hS] at G0 G1 GF
    clear hS hC hcl hc hl hs
    rw [HR.out]
    clear HR
    by_cases hop : erOk C = true
    · rw [hop]
      rw [if_pos rfl]
      obtain ⟨o1, o2⟩ := HOk.out.1 hop
      have hn2 : ¬ C > 999 := by omega
      clear HOk hop
      generalize sgn (seg s 2 8) = c0 at *
      generalize sgn (seg s 10 8) = c1 at *
      generalize hn0 : (seg s 2 8 : Nat) = m0 at *
      obtain ⟨n0, e0⟩ : ∃ n0 : Int, (m0 : Int) = n0 := ⟨_, rfl⟩
      rw [e0] at G0
      rw [e0] at wr0
      clear e0 hn0
      generalize hn1 : (seg s 10 8 : Nat) = m1 at *
      obtain ⟨n1, e1⟩ : ∃ n1 : Int, (m1 : Int) = n1 := ⟨_, rfl⟩
      rw [e1] at G1
      rw [e1] at wr1
      clear e1 hn1
      go_enter Try.func18, Try.ntmps18
      go_wp2_with (go_at_call 29; (with_reducible refine (GF.out _).mono ?_); rintro e w4 ⟨rfl, rfl⟩)
      refine region_new [.is (.int .u64 C), .is (.int .i64 C), .is (.string S), .is (.string (S.extract 2 10)), .is (.int .u64 n0), .is (.int .i64 c0), .is (.string S), .is (.string (S.extract 10 18)), .is (.int .u64 n1), .is (.int .i64 c1), .is (.agg #[.int .i64 C, .int .i64 c0, .int .i64 c1])]
        [[], [(0, 15)], [], [(2, 17)], [(3, 18)], [(4, 19)], [], [(6, 21)], [(7, 22)], [(8, 23)], [(1, 16), (5, 20), (9, 24)]]
        [[], [0], [], [2], [3], [4], [], [6], [4, 7], [8], [1, 5, 9]]
        [(0, 15), (1, 16), (2, 17), (3, 18), (4, 19), (5, 20), (6, 21), (7, 22), (8, 23), (9, 24), (10, 25)] rfl (by kernel_rfl) ⟨?_, ?_, ?_, ?_, ?_, ?_, ?_, ?_, ?_, ?_, ?_, trivial⟩ ?_
      · intro vals W hB _
        dsimp only [putsL, slotOf]
        go_wp2
        exact ⟨rfl, Below.refl _ _, rfl⟩
      · intro vals W hB ⟨h0, _⟩
        have h0 : vals 0 = _ := h0
        dsimp only [putsL, slotOf]
        rw [h0]
        go_wp2
        exact ⟨rfl, Below.refl _ _, rfl⟩
      · intro vals W hB _
        dsimp only [putsL, slotOf]
        go_wp2
        exact ⟨rfl, Below.refl _ _, rfl⟩
      · intro vals W hB ⟨h2, _⟩
        have h2 : vals 2 = _ := h2
        dsimp only [putsL, slotOf]
        rw [h2]
        go_wp2
        exact ⟨rfl, Below.refl _ _, rfl⟩
      · intro vals W hB ⟨h3, _⟩
        have h3 : vals 3 = _ := h3
        dsimp only [putsL, slotOf]
        rw [h3]
        go_wp2_with ((go_at_call 29; (with_reducible refine (G0.out _).mono ?_); rintro e w4 ⟨rfl, hw4⟩; subst hw4; have hb4 := Below.refl W.heap.size W))
        exact ⟨rfl, hb4, rfl⟩
      · intro vals W hB ⟨h4, _⟩
        have h4 : vals 4 = _ := h4
        dsimp only [putsL, slotOf]
        rw [h4]
        go_wp2
        exact ⟨rfl, Below.refl _ _, rfl⟩
      · intro vals W hB _
        dsimp only [putsL, slotOf]
        go_wp2
        exact ⟨rfl, Below.refl _ _, rfl⟩
      · intro vals W hB ⟨h6, _⟩
        have h6 : vals 6 = _ := h6
        dsimp only [putsL, slotOf]
        rw [h6]
        go_wp2
        exact ⟨rfl, Below.refl _ _, rfl⟩
      · intro vals W hB ⟨h4, h7, _⟩
        have h7 : vals 7 = _ := h7
        dsimp only [putsL, slotOf]
        rw [h7]
        go_wp2_with ((go_at_call 29; (with_reducible refine (G1.out _).mono ?_); rintro e w4 ⟨rfl, hw4⟩; subst hw4; have hb4 := Below.refl W.heap.size W))
        exact ⟨rfl, hb4, rfl⟩
      · intro vals W hB ⟨h8, _⟩
        have h8 : vals 8 = _ := h8
        dsimp only [putsL, slotOf]
        rw [h8]
        go_wp2
        exact ⟨rfl, Below.refl _ _, rfl⟩
      · intro vals W hB ⟨h1, h5, h9, _⟩
        have h1 : vals 1 = _ := h1
        have h5 : vals 5 = _ := h5
        have h9 : vals 9 = _ := h9
        dsimp only [putsL, slotOf]
        rw [h1, h5, h9]
        go_wp2
        exact ⟨rfl, Below.refl _ _, rfl⟩
      rintro vals W hB ⟨q0, q1, q2, q3, q4, q5, q6, q7, q8, q9, q10, -⟩
      have h0 : vals 0 = _ := q0
      have h1 : vals 1 = _ := q1
      have h2 : vals 2 = _ := q2
      have h3 : vals 3 = _ := q3
      have h4 : vals 4 = _ := q4
      have h5 : vals 5 = _ := q5
      have h6 : vals 6 = _ := q6
      have h7 : vals 7 = _ := q7
      have h8 : vals 8 = _ := q8
      have h9 : vals 9 = _ := q9
      have h10 : vals 10 = _ := q10
      dsimp only [putsL]
      rw [h0, h1, h2, h3, h4, h5, h6, h7, h8, h9, h10]
      clear h0 q0 h1 q1 h2 q2 h3 q3 h4 q4 h5 q5 h6 q6 h7 q7 h8 q8 h9 q9 h10 q10
      simp only [List.length_cons, List.length_nil, Nat.reduceAdd, List.drop_succ_cons, List.drop_zero, List.setIfInBounds_toArray, List.set_cons_succ, List.set_cons_zero]
      have HM2 : Veil _ := ⟨(hB.block _ (lt_of_heap HM.out)).trans HM.out⟩
      have HB2 : Veil _ := ⟨bc_then HBl.out hB⟩
      clear hB
      obtain ⟨⟨y0, y1, y2⟩, f0, f1, f2⟩ := pkC3 HM2.out
      go_wp2
      exact bodyPost_ret (results_paw (g := w.heap.size) rfl rfl rfl (stC3 HM2.out _ _ _)) rfl ⟨ret_pair HFin.out.symm, tnC3 HB2.out (Nat.le_refl _) _ _ _⟩
    · rw [if_neg hop]
      rw [HOk.out] at hop
      dsimp only [Aw.zero, Aw.v]
      have h2 : C > 999 := by omega
      clear HOk HFin G0 G1 wr0 wr1
      go_enter Try.func18, Try.ntmps18
      go_wp2_with (go_at_call 29; (with_reducible refine (GF.out _).mono ?_); rintro e w4 ⟨rfl, rfl⟩)
      exact bodyPost_ret (results_paw (g := w.heap.size) rfl rfl rfl HM.out) rfl ⟨rfl, HBl.out⟩
  · have e : prepR s = (Aw.zero, 170) := by unfold prepR; rw [if_neg (fun h => hl h.1)]
    rw [e]
    dsimp only [Aw.zero, Aw.v]
    have hne : ((s.length : Int) != 18) = true := by simp; omega
    clear e
    go_enter Try.func18, Try.ntmps18
    go_wp2
    exact bodyPost_ret (results_paw (g := w.heap.size) rfl rfl rfl HM.out) rfl ⟨rfl, HBl.out⟩
end Go.Proofs.Ytaolhhgfnhhgaaa

/- Codec: the document's own Split, and whether two lists of texts are the same. -/
namespace Go.Proofs.Ytaolhhgfnhhgaaa
open Go Go.RowKit Sm
attribute [local go_sem] Oper.semAt_some

def RSplPost (s : List UInt8) (w : World) (e : Ending) (w' : World) : Prop := ∃ p c, e = .returned (.tuple #[.slice p (splR s).1.length c, .string ⟨(splR s).2.1.toArray⟩, .int .i64 (splR s).2.2]) ∧ Els elK w' p (splR s).1 ∧ Below w.heap.size w w'

set_option maxRecDepth 20000 in
set_option maxHeartbeats 4000000 in
theorem refsplit_any (s : List UInt8) (hs : s.length ≤ 1000000) (w : World) : Calls Try.prog 22 #[.string ⟨s.toArray⟩] w (RSplPost s w) := by
  obtain ⟨R0, hR0⟩ : ∃ R0, s = R0 := ⟨_, rfl⟩
  have HR0 : Veil _ := ⟨hR0⟩
  rw [show (Value.string ⟨s.toArray⟩) = Value.string ⟨R0.toArray⟩ by rw [hR0]]
  clear hR0
  go_enter Try.func22, Try.ntmps22
  go_wp2
  go_loopw [0, 5, 6] (fun r l _ wr => ∃ (R : List UInt8) (L : List (List UInt8)), r = .string ⟨R.toArray⟩ ∧ Veil (splR s = (L ++ (splR R).1, (splR R).2) ∧ L.length + R.length ≤ s.length) ∧ Veil (OwnE elK wr w.heap.size l L ∧ Below w.heap.size w wr)) (fun r _ _ _ => sizeV r)
  case atStart => exact ⟨R0, [], rfl, ⟨by rw [HR0.out]; rfl, by rw [HR0.out]; simp⟩, ⟨OwnE.nil _ _ _, Below.refl _ _⟩⟩
  case round =>
    obtain ⟨R, L, rfl, HS, HO⟩ := hrel
    obtain ⟨pn, cn, ev, hel, -⟩ := HO.out.1.form
    subst ev
    have HEl : Veil _ := ⟨hel⟩
    clear hel
    have hRl : R.length ≤ 1000000 := by have := HS.out.2; omega
    by_cases h2 : 2 ≤ R.length
    · have hhd := hdS_lt R
      have HG : Veil (∀ w, Calls Try.prog 29 #[.string ((⟨R.toArray⟩ : ByteArray).extract 0 2)] w fun e w' => e = .returned (.int .u64 (hdS R : Nat)) ∧ w = w') := ⟨fun w => by
        have h := seg_get R (by omega) 0 2 (by decide) w
        exact h⟩
      have HBad : Veil (hdS R < 1 ∨ 100 < hdS R → splR s = (L, R, 170)) := ⟨fun h => by rw [HS.out.1, splR_bad R h2 h, List.append_nil]⟩
      have HPart : Veil (¬ (hdS R < 1 ∨ 100 < hdS R) → R.length < 2 + hdS R → splR s = (L, R, 0)) := ⟨fun h h3 => by rw [HS.out.1, splR_part R h2 h h3, List.append_nil]⟩
      have HNext : Veil (¬ (hdS R < 1 ∨ 100 < hdS R) → 2 + hdS R ≤ R.length → splR s = ((L ++ [(R.drop 2).take (hdS R)]) ++ (splR (R.drop (2 + hdS R))).1, (splR (R.drop (2 + hdS R))).2) ∧ (L ++ [(R.drop 2).take (hdS R)]).length + (R.drop (2 + hdS R)).length ≤ s.length) := ⟨fun h h3 => by
        constructor
        · rw [HS.out.1, splR_next R h2 h h3]; simp
        · have := HS.out.2
          rw [List.length_append, List.length_drop]; simp only [List.length_cons, List.length_nil]; omega⟩
      have HPc : Veil ((⟨R.toArray⟩ : ByteArray).extract 2 (2 + hdS R) = ⟨((R.drop 2).take (hdS R)).toArray⟩) := ⟨by rw [extM, Nat.add_sub_cancel_left]⟩
      have HRs : Veil ((⟨R.toArray⟩ : ByteArray).extract (2 + hdS R) R.length = ⟨(R.drop (2 + hdS R)).toArray⟩) := ⟨by
        rw [extM, List.take_of_length_le (by rw [List.length_drop]; omega)]⟩
      have hR' : (R.drop (2 + hdS R)).length = R.length - (2 + hdS R) := by rw [List.length_drop]
      have HLL : Veil (L.length ≤ 1000000) := ⟨by have := HS.out.2; omega⟩
      have hwr : IntKind.i64.wrap ((hdS R : Nat) : Int) = (hdS R : Nat) := by rw [IntKind.wrap_i64]; omega
      clear HS
      revert hhd HG HBad HPart HNext HPc HRs hR' hwr
      generalize R.drop (2 + hdS R) = R'
      generalize (R.drop 2).take (hdS R) = P
      generalize hdS R = hd
      intro hhd HG HBad HPart HNext HPc HRs hR' hwr
      have hR2 : Veil _ := ⟨hR'⟩
      clear hR'
      by_cases hb : hd < 1 ∨ 100 < hd
      · have HB2 : Veil _ := ⟨HBad.out hb⟩
        clear HBad HPart HNext HPc HRs
        by_cases h1 : hd < 1
        · have g1 : (hd : Int) < 1 := by omega
          clear hb
          go_wp2_with (go_at_call 29; refine (HG.out _).mono ?_; rintro e w4 ⟨rfl, rfl⟩)
          exact bodyPost_ret (results_three rfl rfl rfl rfl) rfl ⟨pn, cn, by rw [HB2.out]; rfl, by rw [HB2.out]; exact HEl.out, HO.out.2⟩
        · have g1 : ¬ (hd : Int) < 1 := by omega
          have g2 : (hd : Int) > 100 := by omega
          clear hb
          go_wp2_with (go_at_call 29; refine (HG.out _).mono ?_; rintro e w4 ⟨rfl, rfl⟩)
          exact bodyPost_ret (results_three rfl rfl rfl rfl) rfl ⟨pn, cn, by rw [HB2.out]; rfl, by rw [HB2.out]; exact HEl.out, HO.out.2⟩
      · have g1 : ¬ (hd : Int) < 1 := by omega
        have g2 : ¬ (hd : Int) > 100 := by omega
        have w2 : IntKind.i64.wrap (2 + (hd : Int)) = ((2 + hd : Nat) : Int) := by rw [IntKind.wrap_i64]; omega
        by_cases hl : R.length < 2 + hd
        · have HP2 : Veil _ := ⟨HPart.out hb hl⟩
          clear HBad HPart HNext HPc HRs hb
          go_wp2_with (go_at_call 29; refine (HG.out _).mono ?_; rintro e w4 ⟨rfl, rfl⟩)
          exact bodyPost_ret (results_three rfl rfl rfl rfl) rfl ⟨pn, cn, by rw [HP2.out]; rfl, by rw [HP2.out]; exact HEl.out, HO.out.2⟩
        · have HN2 : Veil _ := ⟨HNext.out hb (by omega)⟩
          clear HBad HPart HNext hb
          go_wp2_with (first
            | (at_builtin; refine wpList_append_el elK rfl (.tmp 29) (.tmp 34) rfl w.heap.size (.slice pn L.length cn) L P rfl (HO.out.1.below (below_al (Below.refl _ _) _)) wr.heap.size rfl (by rw [HPc.out]; exact heap_alloc_new _ _) HLL.out (by have := HO.out.2.size; simp; omega) ?_; intro v' w9 hown9 hgrow hfrom)
            | (go_at_call 29; refine (HG.out _).mono ?_; rintro e w4 ⟨rfl, rfl⟩))
          rw [HRs.out]
          refine ⟨⟨R', L ++ [P], rfl, ⟨HN2.out.1, HN2.out.2⟩, ⟨hown9, ?_⟩⟩, ?_⟩
          · exact ownE_grown (below_al HO.out.2 _) (Nat.le_refl _) (HO.out.1.below (below_al (Below.refl _ _) _)) hgrow
          · simp only [sizeV_list]
            have := hR2.out
            omega
    · have HE : Veil (splR s = (L, R, 0)) := ⟨by rw [HS.out.1, splR_short R (by omega), List.append_nil]⟩
      clear HS
      go_wp2
      exact bodyPost_ret (results_three rfl rfl rfl rfl) rfl ⟨pn, cn, by rw [HE.out]; rfl, by rw [HE.out]; exact HEl.out, HO.out.2⟩

theorem bel_drewN {w w1 : World} (n : Nat) (h : Below w.heap.size w w1) : Below w.heap.size w (w1.drewN n) := ⟨h.os, h.tape, h.output, h.size, h.block⟩
theorem els_textK {w : World} {p : Option Addr} {L : List (List UInt8)} (h : Els elK w p L) (hn : 0 < L.length) : ∃ b o, p = some ⟨b, o, none⟩ ∧ ∀ k, k < L.length → w.cell? ⟨b, o + k, none⟩ = some (.string ⟨(L.getD k []).toArray⟩) := by
  obtain ⟨b, o, hp, hr⟩ := h (fun e => by rw [e] at hn; exact absurd hn (by decide))
  exact ⟨b, o, hp, fun k hk => by
    have := hr k 0 hk (by decide)
    rw [show o + k * elK.z + 0 = o + k by rw [show elK.z = 1 from rfl]; omega] at this
    exact this⟩
theorem same_take {L M : List (List UInt8)} {k : Nat} (h : L.take k = M.take k) (h1 : k < L.length) (h2 : k < M.length) (e : L.getD k [] = M.getD k []) : L.take (k + 1) = M.take (k + 1) := by
  rw [List.take_succ_eq_append_getElem h1, List.take_succ_eq_append_getElem h2, h]
  have e1 : L.getD k [] = L[k] := by simp [List.getD, h1]
  have e2 : M.getD k [] = M[k] := by simp [List.getD, h2]
  rw [← e1, ← e2, e]

set_option maxRecDepth 20000 in
set_option maxHeartbeats 4000000 in
theorem texts_any (p q : Option Addr) (c d : Nat) (L M : List (List UInt8)) (w : World) (hL : Els elK w p L) (hM : Els elK w q M) (hl : L.length ≤ 1000000) (_hm : M.length ≤ 1000000) :
    Calls Try.prog 23 #[.slice p L.length c, .slice q M.length d] w fun e w' => e = .returned (.bool (decide (L = M))) ∧ Below w.heap.size w w' := by
  by_cases he : L.length = M.length
  · have HD : Veil (L.take L.length = M.take L.length ↔ L = M) := ⟨by rw [List.take_length, he, List.take_length]⟩
    have HL : Veil (0 < L.length → ∃ b o, p = some ⟨b, o, none⟩ ∧ ∀ k, k < L.length → w.cell? ⟨b, o + k, none⟩ = some (.string ⟨(L.getD k []).toArray⟩)) := ⟨els_textK hL⟩
    have HM : Veil (0 < L.length → ∃ b o, q = some ⟨b, o, none⟩ ∧ ∀ k, k < L.length → w.cell? ⟨b, o + k, none⟩ = some (.string ⟨(M.getD k []).toArray⟩)) := ⟨by rw [he]; exact els_textK hM⟩
    have HT : Veil (∀ k, L.take k = M.take k → k < L.length → L.getD k [] = M.getD k [] → L.take (k + 1) = M.take (k + 1)) := ⟨fun k h1 h2 h3 => same_take h1 h2 (by omega) h3⟩
    have HN : Veil (∀ k, k < L.length → L.getD k [] ≠ M.getD k [] → L ≠ M) := ⟨fun k _ h e => h (by rw [e])⟩
    rw [← he]
    obtain ⟨n, hn⟩ : ∃ n, L.length = n := ⟨_, rfl⟩
    rw [hn] at HD HL HM HT HN hl ⊢
    obtain ⟨r, hr⟩ : ∃ r, decide (L = M) = r := ⟨_, rfl⟩
    have HR : Veil _ := ⟨hr⟩
    rw [hr]
    clear he hn hr hL hM
    go_enter Try.func23, Try.ntmps23
    go_wp2
    go_loopw [5] (fun i wr => ∃ k : Nat, k ≤ n ∧ i = .int .i64 k ∧ Veil (L.take k = M.take k) ∧ Veil (Below w.heap.size w wr)) (fun i _ => n - (intOf i).toNat)
    case atStart => exact ⟨0, Nat.zero_le _, rfl, ⟨rfl⟩, ⟨Below.refl _ _⟩⟩
    case round =>
      obtain ⟨k, hk, rfl, HK, HB⟩ := hrel
      by_cases hlt : k < n
      · obtain ⟨b, o, rfl, hc⟩ := HL.out (by omega)
        obtain ⟨b2, o2, rfl, hc2⟩ := HM.out (by omega)
        have h1 := hc k hlt
        have h2 := hc2 k hlt
        have c1 : wr.cell? ⟨b, o + k, none⟩ = _ := (HB.out.cell (World.block_lt_of_cell? _ _ h1)).trans h1
        have c2 : wr.cell? ⟨b2, o2 + k, none⟩ = _ := (HB.out.cell (World.block_lt_of_cell? _ _ h2)).trans h2
        have HTk : Veil _ := ⟨HT.out k HK.out hlt⟩
        have HNk : Veil _ := ⟨HN.out k hlt⟩
        clear hc hc2 h1 h2 HT HN HL HM
        revert c1 c2 HTk HNk
        generalize L.getD k [] = x
        generalize M.getD k [] = y
        intro c1 c2 HTk HNk
        by_cases hxy : x = y
        · subst hxy
          have HT1 : Veil _ := ⟨HTk.out rfl⟩
          clear HTk HNk
          go_wp2
          go_quiet (fail)
          go_wp2
          refine ⟨⟨k + 1, by omega, by go_num, HT1, ⟨bel_drewN nq HB.out⟩⟩, ?_⟩
          simp only [intOf]; omega
        · go_wp2
          have hxb : (x == y) = false := by simpa using hxy
          have HF : Veil (r = false) := ⟨by rw [← HR.out]; exact decide_eq_false (HNk.out hxy)⟩
          clear HTk HNk
          go_quiet (fail)
          go_wp2
          go_ret
          exact ⟨by rw [HF.out]; rfl, bel_drewN nq HB.out⟩
      · obtain rfl : k = n := by omega
        have HE : Veil (r = true) := ⟨by rw [← HR.out]; exact decide_eq_true (HD.out.1 HK.out)⟩
        go_wp2
        go_ret
        exact ⟨by rw [HE.out]; rfl, HB.out⟩
  · have hd : decide (L = M) = false := by
      rw [decide_eq_false_iff_not]
      intro e
      exact he (by rw [e])
    rw [hd]
    have hne : ((L.length : Int) != (M.length : Int)) = true := by simp; omega
    clear hd
    go_enter Try.func23, Try.ntmps23
    go_wp2
    go_ret
    exact ⟨rfl, Below.refl _ _⟩
theorem texts_same (p q : Option Addr) (c d : Nat) (L : List (List UInt8)) (w : World) (hL : Els elK w p L) (hM : Els elK w q L) (hl : L.length ≤ 1000000) :
    Calls Try.prog 23 #[.slice p L.length c, .slice q L.length d] w fun e w' => e = .returned (.bool true) ∧ Below w.heap.size w w' := by
  have h := texts_any p q c d L L w hL hM hl hl
  rwa [decide_eq_true (rfl : L = L)] at h
end Go.Proofs.Ytaolhhgfnhhgaaa
