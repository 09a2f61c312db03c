/- Keys: the document's own Parse. -/
import Derived.Deep.RegionHeld3
import Derived.Test.YtgaahgnjmhnggaaKH2
import Derived.Test.YtgaahgnjmhnggaaKS2
namespace Go.Proofs.Ytgaahgnjmhnggaa
open Go Go.RowKit Sm
attribute [local go_sem] Oper.semAt_some

theorem info_place : (Try.prog.info? 25).map (·.size) = some 4 := by kernel_rfl
theorem wrap_u16v (n : Int) : IntKind.u16.wrap n = n % 65536 := by simp [IntKind.wrap, IntKind.bits, IntKind.signed]
theorem n0 : ((0 : Nat) : Int) = 0 := rfl
theorem results_place2 {fn : Func} {p q : Tmp} {tmps : Array Value} {w : World} {g : Nat} {x0 x1 x2 x3 y : Value} (h : fn.results = #[.cell p 25, .tmp q]) (hp : tmps.getD p undef = .pointer (some ⟨g, 0, none⟩)) (hq : tmps.getD q undef = y) (hg : w.heap[g]? = some (.cells #[x0, x1, x2, x3] 25 (0, 0))) :
    (results fn tmps).run Try.prog w = .ok (.tuple #[.agg #[x0, x1, x2, x3], y]) w := by
  rw [results_cell_tmp h]
  have hp' : tmps[p]?.getD undef = .pointer (some ⟨g, 0, none⟩) := by simpa using hp
  have hq' : tmps[q]?.getD undef = y := by simpa using hq
  simp [hp', hq', asAddr, run_loadVar_row w g 25 25 #[x0, x1, x2, x3] (0, 0) _ hg Try.underlying25 rfl info_place]
theorem pk4 {w : World} {g : Nat} {a0 a1 a2 a3 : Value} {t : TypeId} (h : w.heap[g]? = some (.cells #[a0, a1, a2, a3] t (0, 0))) :
    (w.cell? ⟨g, 0, none⟩ = some a0 ∧ w.cell? ⟨g, 1, none⟩ = some a1 ∧ w.cell? ⟨g, 2, none⟩ = some a2 ∧ w.cell? ⟨g, 3, none⟩ = some a3) ∧ (w.frozen? ⟨g, 0, none⟩ = false ∧ w.frozen? ⟨g, 1, none⟩ = false ∧ w.frozen? ⟨g, 2, none⟩ = false ∧ w.frozen? ⟨g, 3, none⟩ = false) := by
  have h' : w.heap[g]? = some (.cells [a0, a1, a2, a3].toArray t (0, 0)) := h
  exact ⟨⟨cell_whole h' 0, cell_whole h' 1, cell_whole h' 2, cell_whole h' 3⟩, frozen_whole h _, frozen_whole h _, frozen_whole h _, frozen_whole h _⟩
theorem st4 {w : World} {g : Nat} {a0 a1 a2 a3 : Value} {t : TypeId} (h : w.heap[g]? = some (.cells #[a0, a1, a2, a3] t (0, 0))) (v0 v1 v2 v3 : Value) :
    ((((w.setCell ⟨g, 0, none⟩ v0).setCell ⟨g, 1, none⟩ v1).setCell ⟨g, 2, none⟩ v2).setCell ⟨g, 3, none⟩ v3).heap[g]? = some (.cells #[v0, v1, v2, v3] t (0, 0)) :=
  heap_setCell_at (heap_setCell_at (heap_setCell_at (heap_setCell_at h 0 v0) 1 v1) 2 v2) 3 v3
theorem tn4 {w0 w : World} {g : Nat} (h : Below w0.heap.size w0 w) (hg : w0.heap.size ≤ g) (v0 v1 v2 v3 : Value) :
    Below w0.heap.size w0 ((((w.setCell ⟨g, 0, none⟩ v0).setCell ⟨g, 1, none⟩ v1).setCell ⟨g, 2, none⟩ v2).setCell ⟨g, 3, none⟩ v3) :=
  (((h.setCell hg v0).setCell hg v1).setCell hg v2).setCell hg v3

/-- The result's block, and that of the place, behind a call. -/
structure TwoB (w W : World) (k A I M : Int) : Prop where
  res : W.heap[w.heap.size]? = some (.cells #[.int .i64 0, .int .u32 0, .int .u16 0, .int .u32 0] 25 (0, 0))
  box : W.heap[w.heap.size + 1]? = some (.cells #[.int .i64 k, .int .u32 A, .int .u16 I, .int .u32 M] 25 (0, 0))
  below : Below w.heap.size w W
theorem TwoB.new (w : World) (k A I M : Int) : TwoB w ((w.alloc (.cells #[.int .i64 0, .int .u32 0, .int .u16 0, .int .u32 0] 25)).alloc (.cells #[.int .i64 k, .int .u32 A, .int .u16 I, .int .u32 M] 25)) k A I M :=
  ⟨heap_alloc2_old _ _ _, heap_alloc2_new _ _ _, below_al (below_al (Below.refl _ _) _) _⟩
theorem TwoB.after {w W W' : World} {k A I M : Int} (h : TwoB w W k A I M) (hb : Below W.heap.size W W') : TwoB w W' k A I M :=
  ⟨(hb.block _ (lt_of_heap h.res)).trans h.res, (hb.block _ (lt_of_heap h.box)).trans h.box, bc_then h.below hb⟩
theorem TwoB.drewN {w W : World} {k A I M : Int} (h : TwoB w W k A I M) : TwoB w W.drew k A I M := ⟨h.res, h.box, h.below.drew⟩

/-- What bytes tell of, with what Right says of that. -/
def ParseGoal (s : List UInt8) (w : World) : Prop := Calls Try.prog 12 #[.string ⟨s.toArray⟩] w fun e w' => e = .returned (.tuple #[(parseK s).1.v, .int .i64 (parseK s).2]) ∧ Below w.heap.size w w'
theorem parseK_cases (s : List UInt8) (P : Pl) (h : plOf s = P) : P.right = true ∧ parseK s = (P, 0) ∨ P.right = false ∧ parseK s = (Pl.zero, 100) := by
  unfold parseK
  rw [h]
  cases hr : P.right
  · exact .inr ⟨rfl, by simp⟩
  · exact .inl ⟨rfl, by simp⟩
theorem head_of (s : List UInt8) (c : UInt8) (h : 0 < s.length) (hc : s.getD 0 0 = c) : (⟨s.toArray⟩ : ByteArray)[0]'(by simpa [ByteArray.size] using h) = c := by
  rw [← hc]
  simp [List.getD, h]; rfl
theorem second_of (s : List UInt8) (h : 1 < s.length) : (⟨s.toArray⟩ : ByteArray)[1]'(by simpa [ByteArray.size] using h) = s.getD 1 0 := by
  simp [List.getD, h]; rfl
theorem seg_one (s : List UInt8) (h : 1 < s.length) : seg s 1 1 = (s.getD 1 0).toNat := by
  unfold seg
  have e : (s.drop 1).take 1 = [s.getD 1 0] := by
    cases s with
    | nil => simp at h
    | cons a r => cases r with
      | nil => simp at h
      | cons b t => simp
  rw [e]
  have := (s.getD 1 0).toNat_lt
  simp [getB, shl64]

set_option maxRecDepth 20000 in
set_option maxHeartbeats 1000000 in
theorem parseK_a (s : List UInt8) (hc : s.getD 0 0 = 97) (hn : s.length = 5) (e : plOf s = ⟨1, seg s 1 4, 0, 0⟩) (w : World) : ParseGoal s w := by
  have hci : (⟨s.toArray⟩ : ByteArray)[0]'(by simp [ByteArray.size]; omega) = 97 := head_of s 97 (by omega) hc
  have HG0 : Veil (∀ w, Calls Try.prog 22 #[.string ⟨((s.drop 1).take 4).toArray⟩] w fun e w' => e = .returned (.int .u64 (seg s 1 4)) ∧ w = w') := ⟨fun w => get_any _ (by simp; omega) w⟩
  have X0 : (⟨s.toArray⟩ : ByteArray).extract 1 5 = ⟨((s.drop 1).take 4).toArray⟩ := extM s 1 5
  have hl0 := seg_lt s 1 4
  rw [q4] at hl0
  have hne : s.isEmpty = false := by cases s with | nil => simp at hn | cons a r => rfl
  have hcs := parseK_cases s _ e
  have RR : Veil _ := ⟨fun w => refplace_any (plOf s) w⟩
  rw [e] at RR
  unfold ParseGoal
  obtain ⟨r, hr⟩ : ∃ r, parseK s = r := ⟨_, rfl⟩
  rw [hr] at hcs ⊢
  clear hr e hc
  revert hcs; revert RR
  revert hl0; revert X0; revert HG0
  generalize seg s 1 4 = x
  generalize (s.drop 1).take 4 = u0
  intro HG0 X0 hl0
  intro RR hcs
  have w0 : IntKind.u32.wrap (x : Int) = (x : Int) := by rw [IntKind.wrap_u32']; omega
  unfold Pl.v at *
  dsimp only at RR hcs
  rw [n0] at RR
  have HCS : Veil _ := ⟨hcs⟩
  clear hcs
  obtain ⟨b, hb⟩ : ∃ b, (⟨1, x, 0, 0⟩ : Pl).right = b := ⟨_, rfl⟩
  rw [hb] at RR HCS
  clear hb
  cases b
  · have HE : Veil (r = (Pl.zero, 100)) := ⟨by rcases HCS.out with h | h <;> simp at h <;> exact h⟩
    have e1 := HE.out
    subst e1
    clear HCS HE
    dsimp only [Pl.zero]
    go_enter Try.func12, Try.ntmps12
    go_wp2_with (first | (go_at_call 22; (with_reducible refine (HG0.out _).mono ?_); rintro e w2 ⟨rfl, rfl⟩) | (go_at_call 14; (with_reducible refine (RR.out _).mono ?_); rintro e w5 ⟨rfl, hb5⟩; have HT : Veil (TwoB w w5 _ _ _ _) := ⟨TwoB.after (by first | exact TwoB.new _ _ _ _ _ | exact (TwoB.new _ _ _ _ _).drewN) hb5⟩; obtain ⟨⟨z0, z1, z2, z3⟩, -⟩ := pk4 HT.out.box; obtain ⟨-, f0, f1, f2, f3⟩ := pk4 HT.out.res; obtain ⟨⟨y0, y1, y2, y3⟩, -⟩ := pk4 HT.out.res))
    all_goals exact bodyPost_ret (results_place2 (g := w.heap.size) rfl rfl rfl (st4 HT.out.res _ _ _ _)) rfl ⟨rfl, tn4 HT.out.below (Nat.le_refl _) _ _ _ _⟩
  · have HE : Veil (r = (⟨1, x, 0, 0⟩, 0)) := ⟨by rcases HCS.out with h | h <;> simp at h <;> exact h⟩
    have e1 := HE.out
    subst e1
    clear HCS HE
    dsimp only [Pl.zero]
    go_enter Try.func12, Try.ntmps12
    go_wp2_with (first | (go_at_call 22; (with_reducible refine (HG0.out _).mono ?_); rintro e w2 ⟨rfl, rfl⟩) | (go_at_call 14; (with_reducible refine (RR.out _).mono ?_); rintro e w5 ⟨rfl, hb5⟩; have HT : Veil (TwoB w w5 _ _ _ _) := ⟨TwoB.after (by first | exact TwoB.new _ _ _ _ _ | exact (TwoB.new _ _ _ _ _).drewN) hb5⟩; obtain ⟨⟨z0, z1, z2, z3⟩, -⟩ := pk4 HT.out.box; obtain ⟨-, f0, f1, f2, f3⟩ := pk4 HT.out.res; obtain ⟨⟨y0, y1, y2, y3⟩, -⟩ := pk4 HT.out.res))
    all_goals exact bodyPost_ret (results_place2 (g := w.heap.size) rfl rfl rfl (st4 HT.out.res _ _ _ _)) rfl ⟨rfl, tn4 HT.out.below (Nat.le_refl _) _ _ _ _⟩

set_option maxRecDepth 20000 in
set_option maxHeartbeats 1000000 in
theorem parseK_s (s : List UInt8) (hc : s.getD 0 0 = 115) (hn : s.length = 5) (e : plOf s = ⟨4, seg s 1 4, 0, 0⟩) (w : World) : ParseGoal s w := by
  have hci : (⟨s.toArray⟩ : ByteArray)[0]'(by simp [ByteArray.size]; omega) = 115 := head_of s 115 (by omega) hc
  have HG0 : Veil (∀ w, Calls Try.prog 22 #[.string ⟨((s.drop 1).take 4).toArray⟩] w fun e w' => e = .returned (.int .u64 (seg s 1 4)) ∧ w = w') := ⟨fun w => get_any _ (by simp; omega) w⟩
  have X0 : (⟨s.toArray⟩ : ByteArray).extract 1 5 = ⟨((s.drop 1).take 4).toArray⟩ := extM s 1 5
  have hl0 := seg_lt s 1 4
  rw [q4] at hl0
  have hne : s.isEmpty = false := by cases s with | nil => simp at hn | cons a r => rfl
  have hcs := parseK_cases s _ e
  have RR : Veil _ := ⟨fun w => refplace_any (plOf s) w⟩
  rw [e] at RR
  unfold ParseGoal
  obtain ⟨r, hr⟩ : ∃ r, parseK s = r := ⟨_, rfl⟩
  rw [hr] at hcs ⊢
  clear hr e hc
  revert hcs; revert RR
  revert hl0; revert X0; revert HG0
  generalize seg s 1 4 = x
  generalize (s.drop 1).take 4 = u0
  intro HG0 X0 hl0
  intro RR hcs
  have w0 : IntKind.u32.wrap (x : Int) = (x : Int) := by rw [IntKind.wrap_u32']; omega
  unfold Pl.v at *
  dsimp only at RR hcs
  rw [n0] at RR
  have HCS : Veil _ := ⟨hcs⟩
  clear hcs
  obtain ⟨b, hb⟩ : ∃ b, (⟨4, x, 0, 0⟩ : Pl).right = b := ⟨_, rfl⟩
  rw [hb] at RR HCS
  clear hb
  cases b
  · have HE : Veil (r = (Pl.zero, 100)) := ⟨by rcases HCS.out with h | h <;> simp at h <;> exact h⟩
    have e1 := HE.out
    subst e1
    clear HCS HE
    dsimp only [Pl.zero]
    go_enter Try.func12, Try.ntmps12
    go_wp2_with (first | (go_at_call 22; (with_reducible refine (HG0.out _).mono ?_); rintro e w2 ⟨rfl, rfl⟩) | (go_at_call 14; (with_reducible refine (RR.out _).mono ?_); rintro e w5 ⟨rfl, hb5⟩; have HT : Veil (TwoB w w5 _ _ _ _) := ⟨TwoB.after (by first | exact TwoB.new _ _ _ _ _ | exact (TwoB.new _ _ _ _ _).drewN) hb5⟩; obtain ⟨⟨z0, z1, z2, z3⟩, -⟩ := pk4 HT.out.box; obtain ⟨-, f0, f1, f2, f3⟩ := pk4 HT.out.res; obtain ⟨⟨y0, y1, y2, y3⟩, -⟩ := pk4 HT.out.res))
    all_goals exact bodyPost_ret (results_place2 (g := w.heap.size) rfl rfl rfl (st4 HT.out.res _ _ _ _)) rfl ⟨rfl, tn4 HT.out.below (Nat.le_refl _) _ _ _ _⟩
  · have HE : Veil (r = (⟨4, x, 0, 0⟩, 0)) := ⟨by rcases HCS.out with h | h <;> simp at h <;> exact h⟩
    have e1 := HE.out
    subst e1
    clear HCS HE
    dsimp only [Pl.zero]
    go_enter Try.func12, Try.ntmps12
    go_wp2_with (first | (go_at_call 22; (with_reducible refine (HG0.out _).mono ?_); rintro e w2 ⟨rfl, rfl⟩) | (go_at_call 14; (with_reducible refine (RR.out _).mono ?_); rintro e w5 ⟨rfl, hb5⟩; have HT : Veil (TwoB w w5 _ _ _ _) := ⟨TwoB.after (by first | exact TwoB.new _ _ _ _ _ | exact (TwoB.new _ _ _ _ _).drewN) hb5⟩; obtain ⟨⟨z0, z1, z2, z3⟩, -⟩ := pk4 HT.out.box; obtain ⟨-, f0, f1, f2, f3⟩ := pk4 HT.out.res; obtain ⟨⟨y0, y1, y2, y3⟩, -⟩ := pk4 HT.out.res))
    all_goals exact bodyPost_ret (results_place2 (g := w.heap.size) rfl rfl rfl (st4 HT.out.res _ _ _ _)) rfl ⟨rfl, tn4 HT.out.below (Nat.le_refl _) _ _ _ _⟩

set_option maxRecDepth 20000 in
set_option maxHeartbeats 1000000 in
theorem parseK_i (s : List UInt8) (hc : s.getD 0 0 = 105) (hn : s.length = 7) (e : plOf s = ⟨2, seg s 1 4, seg s 5 2, 0⟩) (w : World) : ParseGoal s w := by
  have hci : (⟨s.toArray⟩ : ByteArray)[0]'(by simp [ByteArray.size]; omega) = 105 := head_of s 105 (by omega) hc
  have HG0 : Veil (∀ w, Calls Try.prog 22 #[.string ⟨((s.drop 1).take 4).toArray⟩] w fun e w' => e = .returned (.int .u64 (seg s 1 4)) ∧ w = w') := ⟨fun w => get_any _ (by simp; omega) w⟩
  have X0 : (⟨s.toArray⟩ : ByteArray).extract 1 5 = ⟨((s.drop 1).take 4).toArray⟩ := extM s 1 5
  have hl0 := seg_lt s 1 4
  rw [q4] at hl0
  have HG1 : Veil (∀ w, Calls Try.prog 22 #[.string ⟨((s.drop 5).take 2).toArray⟩] w fun e w' => e = .returned (.int .u64 (seg s 5 2)) ∧ w = w') := ⟨fun w => get_any _ (by simp; omega) w⟩
  have X1 : (⟨s.toArray⟩ : ByteArray).extract 5 7 = ⟨((s.drop 5).take 2).toArray⟩ := extM s 5 7
  have hl1 := seg_lt s 5 2
  rw [q2] at hl1
  have hne : s.isEmpty = false := by cases s with | nil => simp at hn | cons a r => rfl
  have hcs := parseK_cases s _ e
  have RR : Veil _ := ⟨fun w => refplace_any (plOf s) w⟩
  rw [e] at RR
  unfold ParseGoal
  obtain ⟨r, hr⟩ : ∃ r, parseK s = r := ⟨_, rfl⟩
  rw [hr] at hcs ⊢
  clear hr e hc
  revert hcs; revert RR
  revert hl1; revert X1; revert HG1
  revert hl0; revert X0; revert HG0
  generalize seg s 1 4 = x
  generalize (s.drop 1).take 4 = u0
  generalize seg s 5 2 = y
  generalize (s.drop 5).take 2 = u1
  intro HG0 X0 hl0
  intro HG1 X1 hl1
  intro RR hcs
  have w0 : IntKind.u32.wrap (x : Int) = (x : Int) := by rw [IntKind.wrap_u32']; omega
  have w1 : IntKind.u16.wrap (y : Int) = (y : Int) := by rw [wrap_u16v]; omega
  unfold Pl.v at *
  dsimp only at RR hcs
  rw [n0] at RR
  have HCS : Veil _ := ⟨hcs⟩
  clear hcs
  obtain ⟨b, hb⟩ : ∃ b, (⟨2, x, y, 0⟩ : Pl).right = b := ⟨_, rfl⟩
  rw [hb] at RR HCS
  clear hb
  cases b
  · have HE : Veil (r = (Pl.zero, 100)) := ⟨by rcases HCS.out with h | h <;> simp at h <;> exact h⟩
    have e1 := HE.out
    subst e1
    clear HCS HE
    dsimp only [Pl.zero]
    go_enter Try.func12, Try.ntmps12
    go_wp2
    go_region_held3 (fun W => Below w.heap.size w W) (first | assumption | exact (below_al (below_al (Below.refl _ _) _) _).drew) (first | (go_at_call 22; (with_reducible refine (HG0.out _).mono ?_); rintro e w2 ⟨rfl, rfl⟩) | (go_at_call 22; (with_reducible refine (HG1.out _).mono ?_); rintro e w2 ⟨rfl, rfl⟩))
    all_goals
      go_wp2_with (go_at_call 14; (with_reducible refine (RR.out _).mono ?_); rintro e w5 ⟨rfl, hb5⟩; have HT : Veil (TwoB w w5 _ _ _ _) := ⟨TwoB.after (by first | exact TwoB.new _ _ _ _ _ | exact (TwoB.new _ _ _ _ _).drewN) hb5⟩; obtain ⟨⟨z0, z1, z2, z3⟩, -⟩ := pk4 HT.out.box; obtain ⟨-, f0, f1, f2, f3⟩ := pk4 HT.out.res; obtain ⟨⟨y0, y1, y2, y3⟩, -⟩ := pk4 HT.out.res)
    all_goals exact bodyPost_ret (results_place2 (g := w.heap.size) rfl rfl rfl (st4 HT.out.res _ _ _ _)) rfl ⟨rfl, tn4 HT.out.below (Nat.le_refl _) _ _ _ _⟩
  · have HE : Veil (r = (⟨2, x, y, 0⟩, 0)) := ⟨by rcases HCS.out with h | h <;> simp at h <;> exact h⟩
    have e1 := HE.out
    subst e1
    clear HCS HE
    dsimp only [Pl.zero]
    go_enter Try.func12, Try.ntmps12
    go_wp2
    go_region_held3 (fun W => Below w.heap.size w W) (first | assumption | exact (below_al (below_al (Below.refl _ _) _) _).drew) (first | (go_at_call 22; (with_reducible refine (HG0.out _).mono ?_); rintro e w2 ⟨rfl, rfl⟩) | (go_at_call 22; (with_reducible refine (HG1.out _).mono ?_); rintro e w2 ⟨rfl, rfl⟩))
    all_goals
      go_wp2_with (go_at_call 14; (with_reducible refine (RR.out _).mono ?_); rintro e w5 ⟨rfl, hb5⟩; have HT : Veil (TwoB w w5 _ _ _ _) := ⟨TwoB.after (by first | exact TwoB.new _ _ _ _ _ | exact (TwoB.new _ _ _ _ _).drewN) hb5⟩; obtain ⟨⟨z0, z1, z2, z3⟩, -⟩ := pk4 HT.out.box; obtain ⟨-, f0, f1, f2, f3⟩ := pk4 HT.out.res; obtain ⟨⟨y0, y1, y2, y3⟩, -⟩ := pk4 HT.out.res)
    all_goals exact bodyPost_ret (results_place2 (g := w.heap.size) rfl rfl rfl (st4 HT.out.res _ _ _ _)) rfl ⟨rfl, tn4 HT.out.below (Nat.le_refl _) _ _ _ _⟩

set_option maxRecDepth 20000 in
set_option maxHeartbeats 1000000 in
theorem parseK_m (s : List UInt8) (hc : s.getD 0 0 = 109) (hn : s.length = 9) (e : plOf s = ⟨3, seg s 1 4, 0, seg s 5 4⟩) (w : World) : ParseGoal s w := by
  have hci : (⟨s.toArray⟩ : ByteArray)[0]'(by simp [ByteArray.size]; omega) = 109 := head_of s 109 (by omega) hc
  have HG0 : Veil (∀ w, Calls Try.prog 22 #[.string ⟨((s.drop 1).take 4).toArray⟩] w fun e w' => e = .returned (.int .u64 (seg s 1 4)) ∧ w = w') := ⟨fun w => get_any _ (by simp; omega) w⟩
  have X0 : (⟨s.toArray⟩ : ByteArray).extract 1 5 = ⟨((s.drop 1).take 4).toArray⟩ := extM s 1 5
  have hl0 := seg_lt s 1 4
  rw [q4] at hl0
  have HG1 : Veil (∀ w, Calls Try.prog 22 #[.string ⟨((s.drop 5).take 4).toArray⟩] w fun e w' => e = .returned (.int .u64 (seg s 5 4)) ∧ w = w') := ⟨fun w => get_any _ (by simp; omega) w⟩
  have X1 : (⟨s.toArray⟩ : ByteArray).extract 5 9 = ⟨((s.drop 5).take 4).toArray⟩ := extM s 5 9
  have hl1 := seg_lt s 5 4
  rw [q4] at hl1
  have hne : s.isEmpty = false := by cases s with | nil => simp at hn | cons a r => rfl
  have hcs := parseK_cases s _ e
  have RR : Veil _ := ⟨fun w => refplace_any (plOf s) w⟩
  rw [e] at RR
  unfold ParseGoal
  obtain ⟨r, hr⟩ : ∃ r, parseK s = r := ⟨_, rfl⟩
  rw [hr] at hcs ⊢
  clear hr e hc
  revert hcs; revert RR
  revert hl1; revert X1; revert HG1
  revert hl0; revert X0; revert HG0
  generalize seg s 1 4 = x
  generalize (s.drop 1).take 4 = u0
  generalize seg s 5 4 = y
  generalize (s.drop 5).take 4 = u1
  intro HG0 X0 hl0
  intro HG1 X1 hl1
  intro RR hcs
  have w0 : IntKind.u32.wrap (x : Int) = (x : Int) := by rw [IntKind.wrap_u32']; omega
  have w1 : IntKind.u32.wrap (y : Int) = (y : Int) := by rw [IntKind.wrap_u32']; omega
  unfold Pl.v at *
  dsimp only at RR hcs
  rw [n0] at RR
  have HCS : Veil _ := ⟨hcs⟩
  clear hcs
  obtain ⟨b, hb⟩ : ∃ b, (⟨3, x, 0, y⟩ : Pl).right = b := ⟨_, rfl⟩
  rw [hb] at RR HCS
  clear hb
  cases b
  · have HE : Veil (r = (Pl.zero, 100)) := ⟨by rcases HCS.out with h | h <;> simp at h <;> exact h⟩
    have e1 := HE.out
    subst e1
    clear HCS HE
    dsimp only [Pl.zero]
    go_enter Try.func12, Try.ntmps12
    go_wp2
    go_region_held3 (fun W => Below w.heap.size w W) (first | assumption | exact (below_al (below_al (Below.refl _ _) _) _).drew) (first | (go_at_call 22; (with_reducible refine (HG0.out _).mono ?_); rintro e w2 ⟨rfl, rfl⟩) | (go_at_call 22; (with_reducible refine (HG1.out _).mono ?_); rintro e w2 ⟨rfl, rfl⟩))
    all_goals
      go_wp2_with (go_at_call 14; (with_reducible refine (RR.out _).mono ?_); rintro e w5 ⟨rfl, hb5⟩; have HT : Veil (TwoB w w5 _ _ _ _) := ⟨TwoB.after (by first | exact TwoB.new _ _ _ _ _ | exact (TwoB.new _ _ _ _ _).drewN) hb5⟩; obtain ⟨⟨z0, z1, z2, z3⟩, -⟩ := pk4 HT.out.box; obtain ⟨-, f0, f1, f2, f3⟩ := pk4 HT.out.res; obtain ⟨⟨y0, y1, y2, y3⟩, -⟩ := pk4 HT.out.res)
    all_goals exact bodyPost_ret (results_place2 (g := w.heap.size) rfl rfl rfl (st4 HT.out.res _ _ _ _)) rfl ⟨rfl, tn4 HT.out.below (Nat.le_refl _) _ _ _ _⟩
  · have HE : Veil (r = (⟨3, x, 0, y⟩, 0)) := ⟨by rcases HCS.out with h | h <;> simp at h <;> exact h⟩
    have e1 := HE.out
    subst e1
    clear HCS HE
    dsimp only [Pl.zero]
    go_enter Try.func12, Try.ntmps12
    go_wp2
    go_region_held3 (fun W => Below w.heap.size w W) (first | assumption | exact (below_al (below_al (Below.refl _ _) _) _).drew) (first | (go_at_call 22; (with_reducible refine (HG0.out _).mono ?_); rintro e w2 ⟨rfl, rfl⟩) | (go_at_call 22; (with_reducible refine (HG1.out _).mono ?_); rintro e w2 ⟨rfl, rfl⟩))
    all_goals
      go_wp2_with (go_at_call 14; (with_reducible refine (RR.out _).mono ?_); rintro e w5 ⟨rfl, hb5⟩; have HT : Veil (TwoB w w5 _ _ _ _) := ⟨TwoB.after (by first | exact TwoB.new _ _ _ _ _ | exact (TwoB.new _ _ _ _ _).drewN) hb5⟩; obtain ⟨⟨z0, z1, z2, z3⟩, -⟩ := pk4 HT.out.box; obtain ⟨-, f0, f1, f2, f3⟩ := pk4 HT.out.res; obtain ⟨⟨y0, y1, y2, y3⟩, -⟩ := pk4 HT.out.res)
    all_goals exact bodyPost_ret (results_place2 (g := w.heap.size) rfl rfl rfl (st4 HT.out.res _ _ _ _)) rfl ⟨rfl, tn4 HT.out.below (Nat.le_refl _) _ _ _ _⟩

set_option maxRecDepth 20000 in
set_option maxHeartbeats 1000000 in
theorem parseK_n (s : List UInt8) (hc : s.getD 0 0 = 110) (hn : s.length = 2) (e : plOf s = ⟨5, seg s 1 1, 0, 0⟩) (w : World) : ParseGoal s w := by
  have hci : (⟨s.toArray⟩ : ByteArray)[0]'(by simp [ByteArray.size]; omega) = 110 := head_of s 110 (by omega) hc
  have hsi : (⟨s.toArray⟩ : ByteArray)[1]'(by simp [ByteArray.size]; omega) = s.getD 1 0 := second_of s (by omega)
  have hl0 := (s.getD 1 0).toNat_lt
  rw [seg_one s (by omega)] at e
  have hne : s.isEmpty = false := by cases s with | nil => simp at hn | cons a r => rfl
  have hcs := parseK_cases s _ e
  have RR : Veil _ := ⟨fun w => refplace_any (plOf s) w⟩
  rw [e] at RR
  unfold ParseGoal
  obtain ⟨r, hr⟩ : ∃ r, parseK s = r := ⟨_, rfl⟩
  rw [hr] at hcs ⊢
  clear hr e hc
  revert hcs; revert RR
  revert hl0; revert hsi
  generalize s.getD 1 0 = x
  intro hsi hl0
  intro RR hcs
  have w0 : IntKind.u32.wrap (x.toNat : Int) = (x.toNat : Int) := by rw [IntKind.wrap_u32']; omega
  unfold Pl.v at *
  dsimp only at RR hcs
  rw [n0] at RR
  have HCS : Veil _ := ⟨hcs⟩
  clear hcs
  obtain ⟨b, hb⟩ : ∃ b, (⟨5, x.toNat, 0, 0⟩ : Pl).right = b := ⟨_, rfl⟩
  rw [hb] at RR HCS
  clear hb
  cases b
  · have HE : Veil (r = (Pl.zero, 100)) := ⟨by rcases HCS.out with h | h <;> simp at h <;> exact h⟩
    have e1 := HE.out
    subst e1
    clear HCS HE
    dsimp only [Pl.zero]
    go_enter Try.func12, Try.ntmps12
    go_wp2_with (first | (go_at_call 14; (with_reducible refine (RR.out _).mono ?_); rintro e w5 ⟨rfl, hb5⟩; have HT : Veil (TwoB w w5 _ _ _ _) := ⟨TwoB.after (by first | exact TwoB.new _ _ _ _ _ | exact (TwoB.new _ _ _ _ _).drewN) hb5⟩; obtain ⟨⟨z0, z1, z2, z3⟩, -⟩ := pk4 HT.out.box; obtain ⟨-, f0, f1, f2, f3⟩ := pk4 HT.out.res; obtain ⟨⟨y0, y1, y2, y3⟩, -⟩ := pk4 HT.out.res))
    all_goals exact bodyPost_ret (results_place2 (g := w.heap.size) rfl rfl rfl (st4 HT.out.res _ _ _ _)) rfl ⟨rfl, tn4 HT.out.below (Nat.le_refl _) _ _ _ _⟩
  · have HE : Veil (r = (⟨5, x.toNat, 0, 0⟩, 0)) := ⟨by rcases HCS.out with h | h <;> simp at h <;> exact h⟩
    have e1 := HE.out
    subst e1
    clear HCS HE
    dsimp only [Pl.zero]
    go_enter Try.func12, Try.ntmps12
    go_wp2_with (first | (go_at_call 14; (with_reducible refine (RR.out _).mono ?_); rintro e w5 ⟨rfl, hb5⟩; have HT : Veil (TwoB w w5 _ _ _ _) := ⟨TwoB.after (by first | exact TwoB.new _ _ _ _ _ | exact (TwoB.new _ _ _ _ _).drewN) hb5⟩; obtain ⟨⟨z0, z1, z2, z3⟩, -⟩ := pk4 HT.out.box; obtain ⟨-, f0, f1, f2, f3⟩ := pk4 HT.out.res; obtain ⟨⟨y0, y1, y2, y3⟩, -⟩ := pk4 HT.out.res))
    all_goals exact bodyPost_ret (results_place2 (g := w.heap.size) rfl rfl rfl (st4 HT.out.res _ _ _ _)) rfl ⟨rfl, tn4 HT.out.below (Nat.le_refl _) _ _ _ _⟩

set_option maxRecDepth 20000 in
set_option maxHeartbeats 1000000 in
theorem parseK_t (s : List UInt8) (hc : s.getD 0 0 = 116) (hn : s.length = 4) (e : plOf s = ⟨6, seg s 1 1, seg s 2 2, 0⟩) (w : World) : ParseGoal s w := by
  have hci : (⟨s.toArray⟩ : ByteArray)[0]'(by simp [ByteArray.size]; omega) = 116 := head_of s 116 (by omega) hc
  have hsi : (⟨s.toArray⟩ : ByteArray)[1]'(by simp [ByteArray.size]; omega) = s.getD 1 0 := second_of s (by omega)
  have hl0 := (s.getD 1 0).toNat_lt
  rw [seg_one s (by omega)] at e
  have HG1 : Veil (∀ w, Calls Try.prog 22 #[.string ⟨((s.drop 2).take 2).toArray⟩] w fun e w' => e = .returned (.int .u64 (seg s 2 2)) ∧ w = w') := ⟨fun w => get_any _ (by simp; omega) w⟩
  have X1 : (⟨s.toArray⟩ : ByteArray).extract 2 4 = ⟨((s.drop 2).take 2).toArray⟩ := extM s 2 4
  have hl1 := seg_lt s 2 2
  rw [q2] at hl1
  have hne : s.isEmpty = false := by cases s with | nil => simp at hn | cons a r => rfl
  have hcs := parseK_cases s _ e
  have RR : Veil _ := ⟨fun w => refplace_any (plOf s) w⟩
  rw [e] at RR
  unfold ParseGoal
  obtain ⟨r, hr⟩ : ∃ r, parseK s = r := ⟨_, rfl⟩
  rw [hr] at hcs ⊢
  clear hr e hc
  revert hcs; revert RR
  revert hl1; revert X1; revert HG1
  revert hl0; revert hsi
  generalize s.getD 1 0 = x
  generalize seg s 2 2 = y
  generalize (s.drop 2).take 2 = u1
  intro hsi hl0
  intro HG1 X1 hl1
  intro RR hcs
  have w0 : IntKind.u32.wrap (x.toNat : Int) = (x.toNat : Int) := by rw [IntKind.wrap_u32']; omega
  have w1 : IntKind.u16.wrap (y : Int) = (y : Int) := by rw [wrap_u16v]; omega
  unfold Pl.v at *
  dsimp only at RR hcs
  rw [n0] at RR
  have HCS : Veil _ := ⟨hcs⟩
  clear hcs
  obtain ⟨b, hb⟩ : ∃ b, (⟨6, x.toNat, y, 0⟩ : Pl).right = b := ⟨_, rfl⟩
  rw [hb] at RR HCS
  clear hb
  cases b
  · have HE : Veil (r = (Pl.zero, 100)) := ⟨by rcases HCS.out with h | h <;> simp at h <;> exact h⟩
    have e1 := HE.out
    subst e1
    clear HCS HE
    dsimp only [Pl.zero]
    go_enter Try.func12, Try.ntmps12
    go_wp2
    go_region_held3 (fun W => Below w.heap.size w W) (first | assumption | exact (below_al (below_al (Below.refl _ _) _) _).drew) (first | (go_at_call 22; (with_reducible refine (HG1.out _).mono ?_); rintro e w2 ⟨rfl, rfl⟩))
    all_goals
      go_wp2_with (go_at_call 14; (with_reducible refine (RR.out _).mono ?_); rintro e w5 ⟨rfl, hb5⟩; have HT : Veil (TwoB w w5 _ _ _ _) := ⟨TwoB.after (by first | exact TwoB.new _ _ _ _ _ | exact (TwoB.new _ _ _ _ _).drewN) hb5⟩; obtain ⟨⟨z0, z1, z2, z3⟩, -⟩ := pk4 HT.out.box; obtain ⟨-, f0, f1, f2, f3⟩ := pk4 HT.out.res; obtain ⟨⟨y0, y1, y2, y3⟩, -⟩ := pk4 HT.out.res)
    all_goals exact bodyPost_ret (results_place2 (g := w.heap.size) rfl rfl rfl (st4 HT.out.res _ _ _ _)) rfl ⟨rfl, tn4 HT.out.below (Nat.le_refl _) _ _ _ _⟩
  · have HE : Veil (r = (⟨6, x.toNat, y, 0⟩, 0)) := ⟨by rcases HCS.out with h | h <;> simp at h <;> exact h⟩
    have e1 := HE.out
    subst e1
    clear HCS HE
    dsimp only [Pl.zero]
    go_enter Try.func12, Try.ntmps12
    go_wp2
    go_region_held3 (fun W => Below w.heap.size w W) (first | assumption | exact (below_al (below_al (Below.refl _ _) _) _).drew) (first | (go_at_call 22; (with_reducible refine (HG1.out _).mono ?_); rintro e w2 ⟨rfl, rfl⟩))
    all_goals
      go_wp2_with (go_at_call 14; (with_reducible refine (RR.out _).mono ?_); rintro e w5 ⟨rfl, hb5⟩; have HT : Veil (TwoB w w5 _ _ _ _) := ⟨TwoB.after (by first | exact TwoB.new _ _ _ _ _ | exact (TwoB.new _ _ _ _ _).drewN) hb5⟩; obtain ⟨⟨z0, z1, z2, z3⟩, -⟩ := pk4 HT.out.box; obtain ⟨-, f0, f1, f2, f3⟩ := pk4 HT.out.res; obtain ⟨⟨y0, y1, y2, y3⟩, -⟩ := pk4 HT.out.res)
    all_goals exact bodyPost_ret (results_place2 (g := w.heap.size) rfl rfl rfl (st4 HT.out.res _ _ _ _)) rfl ⟨rfl, tn4 HT.out.below (Nat.le_refl _) _ _ _ _⟩

theorem refzero_any (w : World) : Calls Try.prog 14 #[.agg #[.int .i64 0, .int .u32 0, .int .u16 0, .int .u32 0]] w fun e w' => e = .returned (.bool false) ∧ Below w.heap.size w w' := refplace_any Pl.zero w
theorem parse_zero (s : List UInt8) (e : plOf s = Pl.zero) : parseK s = (Pl.zero, 100) := by unfold parseK; rw [e]; rfl
set_option maxRecDepth 20000 in
set_option maxHeartbeats 2000000 in
theorem parseK_none (s : List UInt8) (w : World) (e : plOf s = Pl.zero) (h1 : ¬ (s.getD 0 0 = 97 ∧ s.length = 5)) (h2 : ¬ (s.getD 0 0 = 105 ∧ s.length = 7)) (h3 : ¬ (s.getD 0 0 = 109 ∧ s.length = 9)) (h4 : ¬ (s.getD 0 0 = 115 ∧ s.length = 5)) (h5 : ¬ (s.getD 0 0 = 110 ∧ s.length = 2)) (h6 : ¬ (s.getD 0 0 = 116 ∧ s.length = 4)) : ParseGoal s w := by
  unfold ParseGoal
  rw [parse_zero s e]
  have RR : Veil _ := ⟨refzero_any⟩
  unfold Pl.v
  dsimp only [Pl.zero]
  clear e
  by_cases hz : s = []
  · subst hz
    clear h1 h2 h3 h4 h5 h6
    go_enter Try.func12, Try.ntmps12
    go_wp2
    exact bodyPost_ret (results_place2 (g := w.heap.size) rfl rfl rfl (heap_alloc2_old _ _ _)) rfl ⟨rfl, below_al (below_al (Below.refl _ _) _) _⟩
  have hpos : 0 < s.length := by
    cases s with
    | nil => exact absurd rfl hz
    | cons a r => simp
  have hemp : s.isEmpty = false := by cases s with | nil => exact absurd rfl hz | cons a r => rfl
  have hhead := head_of s (s.getD 0 0) hpos rfl
  clear hz
  by_cases c0 : s.getD 0 0 = 97
  · have hci : (⟨s.toArray⟩ : ByteArray)[0]'(by simpa [ByteArray.size] using hpos) = 97 := head_of s 97 hpos c0
    have hn : ¬ (s.length : Int) = 5 := fun h => h1 ⟨c0, by omega⟩
    clear h1 h2 h3 h4 h5 h6 hhead c0
    go_enter Try.func12, Try.ntmps12
    go_wp2_with (go_at_call 14; (with_reducible refine (RR.out _).mono ?_); rintro e w5 ⟨rfl, hb5⟩; have HT : Veil (TwoB w w5 _ _ _ _) := ⟨TwoB.after (by first | exact TwoB.new _ _ _ _ _ | exact (TwoB.new _ _ _ _ _).drewN) hb5⟩; obtain ⟨⟨z0, z1, z2, z3⟩, -⟩ := pk4 HT.out.box; obtain ⟨-, f0, f1, f2, f3⟩ := pk4 HT.out.res; obtain ⟨⟨y0, y1, y2, y3⟩, -⟩ := pk4 HT.out.res)
    exact bodyPost_ret (results_place2 (g := w.heap.size) rfl rfl rfl (st4 HT.out.res _ _ _ _)) rfl ⟨rfl, tn4 HT.out.below (Nat.le_refl _) _ _ _ _⟩
  by_cases c1 : s.getD 0 0 = 105
  · have hci : (⟨s.toArray⟩ : ByteArray)[0]'(by simpa [ByteArray.size] using hpos) = 105 := head_of s 105 hpos c1
    have hn : ¬ (s.length : Int) = 7 := fun h => h2 ⟨c1, by omega⟩
    clear h1 h2 h3 h4 h5 h6 hhead c0 c1
    go_enter Try.func12, Try.ntmps12
    go_wp2_with (go_at_call 14; (with_reducible refine (RR.out _).mono ?_); rintro e w5 ⟨rfl, hb5⟩; have HT : Veil (TwoB w w5 _ _ _ _) := ⟨TwoB.after (by first | exact TwoB.new _ _ _ _ _ | exact (TwoB.new _ _ _ _ _).drewN) hb5⟩; obtain ⟨⟨z0, z1, z2, z3⟩, -⟩ := pk4 HT.out.box; obtain ⟨-, f0, f1, f2, f3⟩ := pk4 HT.out.res; obtain ⟨⟨y0, y1, y2, y3⟩, -⟩ := pk4 HT.out.res)
    exact bodyPost_ret (results_place2 (g := w.heap.size) rfl rfl rfl (st4 HT.out.res _ _ _ _)) rfl ⟨rfl, tn4 HT.out.below (Nat.le_refl _) _ _ _ _⟩
  by_cases c2 : s.getD 0 0 = 109
  · have hci : (⟨s.toArray⟩ : ByteArray)[0]'(by simpa [ByteArray.size] using hpos) = 109 := head_of s 109 hpos c2
    have hn : ¬ (s.length : Int) = 9 := fun h => h3 ⟨c2, by omega⟩
    clear h1 h2 h3 h4 h5 h6 hhead c0 c1 c2
    go_enter Try.func12, Try.ntmps12
    go_wp2_with (go_at_call 14; (with_reducible refine (RR.out _).mono ?_); rintro e w5 ⟨rfl, hb5⟩; have HT : Veil (TwoB w w5 _ _ _ _) := ⟨TwoB.after (by first | exact TwoB.new _ _ _ _ _ | exact (TwoB.new _ _ _ _ _).drewN) hb5⟩; obtain ⟨⟨z0, z1, z2, z3⟩, -⟩ := pk4 HT.out.box; obtain ⟨-, f0, f1, f2, f3⟩ := pk4 HT.out.res; obtain ⟨⟨y0, y1, y2, y3⟩, -⟩ := pk4 HT.out.res)
    exact bodyPost_ret (results_place2 (g := w.heap.size) rfl rfl rfl (st4 HT.out.res _ _ _ _)) rfl ⟨rfl, tn4 HT.out.below (Nat.le_refl _) _ _ _ _⟩
  by_cases c3 : s.getD 0 0 = 115
  · have hci : (⟨s.toArray⟩ : ByteArray)[0]'(by simpa [ByteArray.size] using hpos) = 115 := head_of s 115 hpos c3
    have hn : ¬ (s.length : Int) = 5 := fun h => h4 ⟨c3, by omega⟩
    clear h1 h2 h3 h4 h5 h6 hhead c0 c1 c2 c3
    go_enter Try.func12, Try.ntmps12
    go_wp2_with (go_at_call 14; (with_reducible refine (RR.out _).mono ?_); rintro e w5 ⟨rfl, hb5⟩; have HT : Veil (TwoB w w5 _ _ _ _) := ⟨TwoB.after (by first | exact TwoB.new _ _ _ _ _ | exact (TwoB.new _ _ _ _ _).drewN) hb5⟩; obtain ⟨⟨z0, z1, z2, z3⟩, -⟩ := pk4 HT.out.box; obtain ⟨-, f0, f1, f2, f3⟩ := pk4 HT.out.res; obtain ⟨⟨y0, y1, y2, y3⟩, -⟩ := pk4 HT.out.res)
    exact bodyPost_ret (results_place2 (g := w.heap.size) rfl rfl rfl (st4 HT.out.res _ _ _ _)) rfl ⟨rfl, tn4 HT.out.below (Nat.le_refl _) _ _ _ _⟩
  by_cases c4 : s.getD 0 0 = 110
  · have hci : (⟨s.toArray⟩ : ByteArray)[0]'(by simpa [ByteArray.size] using hpos) = 110 := head_of s 110 hpos c4
    have hn : ¬ (s.length : Int) = 2 := fun h => h5 ⟨c4, by omega⟩
    clear h1 h2 h3 h4 h5 h6 hhead c0 c1 c2 c3 c4
    go_enter Try.func12, Try.ntmps12
    go_wp2_with (go_at_call 14; (with_reducible refine (RR.out _).mono ?_); rintro e w5 ⟨rfl, hb5⟩; have HT : Veil (TwoB w w5 _ _ _ _) := ⟨TwoB.after (by first | exact TwoB.new _ _ _ _ _ | exact (TwoB.new _ _ _ _ _).drewN) hb5⟩; obtain ⟨⟨z0, z1, z2, z3⟩, -⟩ := pk4 HT.out.box; obtain ⟨-, f0, f1, f2, f3⟩ := pk4 HT.out.res; obtain ⟨⟨y0, y1, y2, y3⟩, -⟩ := pk4 HT.out.res)
    exact bodyPost_ret (results_place2 (g := w.heap.size) rfl rfl rfl (st4 HT.out.res _ _ _ _)) rfl ⟨rfl, tn4 HT.out.below (Nat.le_refl _) _ _ _ _⟩
  by_cases c5 : s.getD 0 0 = 116
  · have hci : (⟨s.toArray⟩ : ByteArray)[0]'(by simpa [ByteArray.size] using hpos) = 116 := head_of s 116 hpos c5
    have hn : ¬ (s.length : Int) = 4 := fun h => h6 ⟨c5, by omega⟩
    clear h1 h2 h3 h4 h5 h6 hhead c0 c1 c2 c3 c4 c5
    go_enter Try.func12, Try.ntmps12
    go_wp2_with (go_at_call 14; (with_reducible refine (RR.out _).mono ?_); rintro e w5 ⟨rfl, hb5⟩; have HT : Veil (TwoB w w5 _ _ _ _) := ⟨TwoB.after (by first | exact TwoB.new _ _ _ _ _ | exact (TwoB.new _ _ _ _ _).drewN) hb5⟩; obtain ⟨⟨z0, z1, z2, z3⟩, -⟩ := pk4 HT.out.box; obtain ⟨-, f0, f1, f2, f3⟩ := pk4 HT.out.res; obtain ⟨⟨y0, y1, y2, y3⟩, -⟩ := pk4 HT.out.res)
    exact bodyPost_ret (results_place2 (g := w.heap.size) rfl rfl rfl (st4 HT.out.res _ _ _ _)) rfl ⟨rfl, tn4 HT.out.below (Nat.le_refl _) _ _ _ _⟩
  have hC : ∃ C : Int, ((s.getD 0 0).toNat : Int) = C := ⟨_, rfl⟩
  have hne : ∀ k : UInt8, ¬ s.getD 0 0 = k → ¬ ((s.getD 0 0).toNat : Int) = (k.toNat : Int) := fun k h hh => h (UInt8.toNat_inj.1 (by omega))
  have d1 := hne _ c0
  have d2 := hne _ c1
  have d3 := hne _ c2
  have d4 := hne _ c3
  have d5 := hne _ c4
  have d6 := hne _ c5
  clear h1 h2 h3 h4 h5 h6 c0 c1 c2 c3 c4 c5 hne
  obtain ⟨x, hx⟩ : ∃ x, s.getD 0 0 = x := ⟨_, rfl⟩
  rw [hx] at hhead hC d1 d2 d3 d4 d5 d6
  clear hx
  obtain ⟨C, hC⟩ := hC
  rw [hC] at d1 d2 d3 d4 d5 d6
  have e1 : ¬ C = 97 := d1
  have e2 : ¬ C = 105 := d2
  have e3 : ¬ C = 109 := d3
  have e4 : ¬ C = 115 := d4
  have e5 : ¬ C = 110 := d5
  have e6 : ¬ C = 116 := d6
  clear d1 d2 d3 d4 d5 d6
  have hci : ((⟨s.toArray⟩ : ByteArray)[0]'(by simpa [ByteArray.size] using hpos)).toNat = x.toNat := by rw [hhead]
  clear hci
  go_enter Try.func12, Try.ntmps12
  go_wp2_with (go_at_call 14; (with_reducible refine (RR.out _).mono ?_); rintro e w5 ⟨rfl, hb5⟩; have HT : Veil (TwoB w w5 _ _ _ _) := ⟨TwoB.after (by first | exact TwoB.new _ _ _ _ _ | exact (TwoB.new _ _ _ _ _).drewN) hb5⟩; obtain ⟨⟨z0, z1, z2, z3⟩, -⟩ := pk4 HT.out.box; obtain ⟨-, f0, f1, f2, f3⟩ := pk4 HT.out.res; obtain ⟨⟨y0, y1, y2, y3⟩, -⟩ := pk4 HT.out.res)
  exact bodyPost_ret (results_place2 (g := w.heap.size) rfl rfl rfl (st4 HT.out.res _ _ _ _)) rfl ⟨rfl, tn4 HT.out.below (Nat.le_refl _) _ _ _ _⟩

set_option maxHeartbeats 1000000 in
theorem refparseK_any (s : List UInt8) (w : World) : ParseGoal s w := by
  by_cases h1 : s.getD 0 0 = 97 ∧ s.length = 5
  · exact parseK_a s h1.1 h1.2 (by unfold plOf; rw [if_pos h1]) w
  by_cases h2 : s.getD 0 0 = 105 ∧ s.length = 7
  · exact parseK_i s h2.1 h2.2 (by unfold plOf; rw [if_neg h1, if_pos h2]) w
  by_cases h3 : s.getD 0 0 = 109 ∧ s.length = 9
  · exact parseK_m s h3.1 h3.2 (by unfold plOf; rw [if_neg h1, if_neg h2, if_pos h3]) w
  by_cases h4 : s.getD 0 0 = 115 ∧ s.length = 5
  · exact parseK_s s h4.1 h4.2 (by unfold plOf; rw [if_neg h1, if_neg h2, if_neg h3, if_pos h4]) w
  by_cases h5 : s.getD 0 0 = 110 ∧ s.length = 2
  · exact parseK_n s h5.1 h5.2 (by unfold plOf; rw [if_neg h1, if_neg h2, if_neg h3, if_neg h4, if_pos h5]) w
  by_cases h6 : s.getD 0 0 = 116 ∧ s.length = 4
  · exact parseK_t s h6.1 h6.2 (by unfold plOf; rw [if_neg h1, if_neg h2, if_neg h3, if_neg h4, if_neg h5, if_pos h6]) w
  · exact parseK_none s w (by unfold plOf; rw [if_neg h1, if_neg h2, if_neg h3, if_neg h4, if_neg h5, if_neg h6]) h1 h2 h3 h4 h5 h6
end Go.Proofs.Ytgaahgnjmhnggaa

/- Keys: what the program goes through: fields of a place, and what bytes tell, one by one: reckoning. -/
namespace Go.Proofs.Ytgaahgnjmhnggaa
open Go Go.RowKit Sm

structure Fd where
  size : Nat
  n : Nat
  least : Nat
  most : Nat
def Fd.v (f : Fd) : Value := .agg #[.int .i64 f.size, .int .u32 f.n, .int .u32 f.least, .int .u32 f.most]
structure Fd.Ok (f : Fd) : Prop where
  size : f.size ≤ 4
  n : f.n < 256 ^ f.size
def Fd.bytes (f : Fd) : List UInt8 := putB f.n f.size
def Pl.first (p : Pl) : Fd :=
  if p.kind = 1 then ⟨4, p.a, 1, 1000000⟩
  else if p.kind = 2 then ⟨4, p.a, 1, 1000000⟩
  else if p.kind = 3 then ⟨4, p.a, 1, 1000000⟩
  else if p.kind = 4 then ⟨4, p.a, 1, 1073741824⟩
  else if p.kind = 5 then ⟨1, p.a, 1, 2⟩
  else if p.kind = 6 then ⟨1, p.a, 0, 1⟩
  else ⟨0, 0, 1, 0⟩
def Pl.more (p : Pl) : List Fd :=
  if p.kind = 2 then [⟨2, p.item, 0, 65535⟩]
  else if p.kind = 6 then [⟨2, p.item, 0, 65535⟩]
  else if p.kind = 3 then [⟨4, p.mail, 1, 1073741824⟩]
  else []
def Pl.flds (p : Pl) : List Fd := p.first :: p.more
def Fd.good (f : Fd) : Bool := !(decide (f.n < f.least) || decide (f.most < f.n))
def Pl.named (p : Pl) : Pl :=
  if p.kind = 1 then ⟨p.kind, p.a, 0, 0⟩
  else if p.kind = 4 then ⟨p.kind, p.a, 0, 0⟩
  else if p.kind = 5 then ⟨p.kind, p.a, 0, 0⟩
  else if p.kind = 2 then ⟨p.kind, p.a, p.item, 0⟩
  else if p.kind = 6 then ⟨p.kind, p.a, p.item, 0⟩
  else if p.kind = 3 then ⟨p.kind, p.a, 0, p.mail⟩
  else p
/-- A place is what its kind names of it. -/
def Pl.isNamed (p : Pl) : Bool := decide (p.item = p.named.item ∧ p.mail = p.named.mail)
theorem Pl.right_flds (p : Pl) (hp : p.Ok) : p.right = (p.flds.all Fd.good && p.isNamed) := by
  have hi := hp.item
  obtain ⟨k, a, i, m⟩ := p
  dsimp only at hi
  unfold Pl.flds Pl.isNamed Pl.first Pl.more Pl.named Pl.right
  dsimp only
  by_cases h1 : k = 1
  · subst h1; rw [Bool.eq_iff_iff]; simp [Fd.good]; omega
  by_cases h2 : k = 2
  · subst h2; rw [Bool.eq_iff_iff]; simp [Fd.good]; omega
  by_cases h3 : k = 3
  · subst h3; rw [Bool.eq_iff_iff]; simp [Fd.good]; omega
  by_cases h4 : k = 4
  · subst h4; rw [Bool.eq_iff_iff]; simp [Fd.good]; omega
  by_cases h5 : k = 5
  · subst h5; rw [Bool.eq_iff_iff]; simp [Fd.good]; omega
  by_cases h6 : k = 6
  · subst h6; rw [Bool.eq_iff_iff]; simp [Fd.good]; omega
  simp only [if_neg h1, if_neg h2, if_neg h3, if_neg h4, if_neg h5, if_neg h6]
  simp [Fd.good]

/-- A kind's mark. -/
def markB (k : Int) : UInt8 :=
  if k = 1 then 97 else if k = 2 then 105 else if k = 3 then 109 else if k = 4 then 115 else if k = 5 then 110 else if k = 6 then 116 else 0
def wroteB (fs : List Fd) : List UInt8 := fs.flatMap Fd.bytes
theorem wroteB_cons (f : Fd) (fs : List Fd) : wroteB (f :: fs) = f.bytes ++ wroteB fs := rfl
theorem Pl.key_flds (p : Pl) (h : p.right = true) : p.key = markB p.kind :: wroteB p.flds := by
  have hk := p.right_kind h
  obtain ⟨k, a, i, m⟩ := p
  dsimp only at hk
  rcases hk with rfl | rfl | rfl | rfl | rfl | rfl <;> simp [Pl.key, Pl.flds, Pl.first, Pl.more, markB, wroteB, Fd.bytes]
theorem Pl.flds_ok (p : Pl) (hp : p.Ok) (h : p.right = true) : ∀ f ∈ p.flds, f.Ok := by
  have hk := p.right_kind h
  have ha := hp.a
  have hi := hp.item
  have hm := hp.mail
  obtain ⟨k, a, i, m⟩ := p
  dsimp only at hk ha hi hm
  intro f hf
  unfold Pl.flds Pl.first Pl.more at hf
  unfold Pl.right at h
  rcases hk with rfl | rfl | rfl | rfl | rfl | rfl
  all_goals
    simp at hf h
    try rcases hf with rfl | rfl
    all_goals
      try subst hf
      constructor
      · dsimp only; omega
      · dsimp only; simp only [q4, q2, q1]; omega

/-- The kind whose mark stands first. -/
def kindB (s : List UInt8) : Int :=
  if s = [] then 0 else
  if s.getD 0 0 = 97 then 1 else if s.getD 0 0 = 105 then 2 else if s.getD 0 0 = 109 then 3 else if s.getD 0 0 = 115 then 4 else if s.getD 0 0 = 110 then 5 else if s.getD 0 0 = 116 then 6 else 0
theorem kindB_range (s : List UInt8) : 0 ≤ kindB s ∧ kindB s ≤ 6 := by
  unfold kindB
  repeat' split
  all_goals decide
/-- The numbers of bytes from a place on, as far as they go. -/
def readB (s : List UInt8) : Nat → List Fd → List Nat
  | _, [] => []
  | i, f :: fs => if s.length < i + f.size then [] else seg s i f.size :: readB s (i + f.size) fs
def placedB (k : Int) (ns : List Nat) : Pl :=
  ⟨k, ns.getD 0 0, if k = 3 then 0 else ns.getD 1 0 % 65536, if k = 3 then ns.getD 1 0 else 0⟩
def kindPl (s : List UInt8) : Pl := ⟨kindB s, 0, 0, 0⟩
def toldB (s : List UInt8) : Pl := placedB (kindB s) (readB s 1 (kindPl s).flds)
theorem readB_lt (s : List UInt8) : ∀ (fs : List Fd) (i : Nat), (∀ f ∈ fs, f.size ≤ 4) → ∀ n ∈ readB s i fs, n < 4294967296
  | [], _, _, n, hn => by simp [readB] at hn
  | f :: fs, i, hf, n, hn => by
    unfold readB at hn
    split at hn
    · cases hn
    · rcases List.mem_cons.1 hn with rfl | hn
      · have h := seg_lt s i f.size
        exact Nat.lt_of_lt_of_le h (by rw [← q4]; exact Nat.pow_le_pow_right (by decide) (hf f (List.mem_cons_self ..)))
      · exact readB_lt s fs _ (fun g hg => hf g (List.mem_cons_of_mem _ hg)) n hn
theorem flds_size (p : Pl) : ∀ f ∈ p.flds, f.size ≤ 4 := by
  intro f hf
  unfold Pl.flds Pl.first Pl.more at hf
  simp only [List.mem_cons] at hf
  rcases hf with rfl | hf
  · repeat' split
    all_goals simp
  · split at hf
    · obtain rfl := List.mem_singleton.1 hf; simp
    · split at hf
      · obtain rfl := List.mem_singleton.1 hf; simp
      · split at hf
        · obtain rfl := List.mem_singleton.1 hf; simp
        · cases hf
theorem readB_len (s : List UInt8) : ∀ (fs : List Fd) (i : Nat), (readB s i fs).length ≤ fs.length
  | [], _ => Nat.le_refl _
  | f :: fs, i => by
    unfold readB
    split
    · exact Nat.zero_le _
    · exact Nat.succ_le_succ (readB_len s fs _)
theorem flds_len (p : Pl) : p.flds.length ≤ 2 := by
  unfold Pl.flds Pl.more
  repeat' split
  all_goals simp
theorem getD_lt {l : List Nat} {B : Nat} (hB : 0 < B) (h : ∀ n ∈ l, n < B) (i : Nat) : l.getD i 0 < B := by
  rw [List.getD_eq_getElem?_getD]
  cases e : l[i]? with
  | none => exact hB
  | some x => exact h x (List.mem_of_getElem? e)
theorem placedB_ok (k : Int) (hk : I64 k) (ns : List Nat) (h : ∀ n ∈ ns, n < 4294967296) : (placedB k ns).Ok :=
  ⟨hk, getD_lt (by decide) h 0, by unfold placedB; dsimp only; split <;> omega, by
    unfold placedB; dsimp only; split
    · exact getD_lt (by decide) h 1
    · decide⟩
theorem toldB_ok (s : List UInt8) : (toldB s).Ok := by
  have h := kindB_range s
  exact placedB_ok _ (by unfold I64; omega) _ (readB_lt s _ _ (flds_size _))
/-- A right place's key tells of it. -/
theorem toldB_back (p : Pl) (hp : p.Ok) (h : p.right = true) : toldB p.key = p := by
  obtain ⟨k, a, i, m⟩ := p
  have ha : a < 256 ^ 4 := by have := hp.a; rw [q4]; exact this
  have hi : i < 256 ^ 2 := by have := hp.item; rw [q2]; exact this
  have hm : m < 256 ^ 4 := by have := hp.mail; rw [q4]; exact this
  have hk := Pl.right_kind _ h
  dsimp only at hk
  rcases hk with rfl | rfl | rfl | rfl | rfl | rfl
  · have g := seg_head 97 a 4 [] (by decide) ha
    rw [List.append_nil] at g
    simp [Pl.right] at h
    simp [Pl.key, toldB, kindPl, kindB, Pl.flds, Pl.first, Pl.more, readB, placedB, g, h]
  · have g := seg_head 105 a 4 (putB i 2) (by decide) ha
    have g2 := seg_tail 105 a 4 i 2 (by decide) hi
    rw [q2] at hi
    simp [Pl.right] at h
    simp [Pl.key, toldB, kindPl, kindB, Pl.flds, Pl.first, Pl.more, readB, placedB, g, g2, h]
    omega
  · have g := seg_head 109 a 4 (putB m 4) (by decide) ha
    have g2 := seg_tail 109 a 4 m 4 (by decide) hm
    simp [Pl.right] at h
    simp [Pl.key, toldB, kindPl, kindB, Pl.flds, Pl.first, Pl.more, readB, placedB, g, g2, h]
  · have g := seg_head 115 a 4 [] (by decide) ha
    rw [List.append_nil] at g
    simp [Pl.right] at h
    simp [Pl.key, toldB, kindPl, kindB, Pl.flds, Pl.first, Pl.more, readB, placedB, g, h]
  · simp [Pl.right] at h
    have g := seg_head 110 a 1 [] (by decide) (by rw [q1]; omega)
    rw [List.append_nil] at g
    simp [Pl.key, toldB, kindPl, kindB, Pl.flds, Pl.first, Pl.more, readB, placedB, g, h]
  · simp [Pl.right] at h
    have g := seg_head 116 a 1 (putB i 2) (by decide) (by rw [q1]; omega)
    have g2 := seg_tail 116 a 1 i 2 (by decide) hi
    rw [q2] at hi
    simp [Pl.key, toldB, kindPl, kindB, Pl.flds, Pl.first, Pl.more, readB, placedB, g, g2, h]
    omega
/-- What bytes tell, held against its own key, is the place whose key they are. -/
theorem parseK_told (s : List UInt8) : parseK s = if (toldB s).right = true ∧ (toldB s).key = s then (toldB s, 0) else (Pl.zero, 100) := by
  by_cases h : (toldB s).right = true ∧ (toldB s).key = s
  · rw [if_pos h]
    have := (toldB s).back (toldB_ok s) h.1
    rwa [h.2] at this
  · rw [if_neg h]
    unfold parseK
    by_cases hr : (plOf s).right = true
    · exfalso
      apply h
      have e := plOf_key s hr
      have b := toldB_back (plOf s) (plOf_ok s) hr
      rw [e] at b
      rw [b]
      exact ⟨hr, e⟩
    · rw [if_neg hr]
end Go.Proofs.Ytgaahgnjmhnggaa

/- Keys: what a place names: first, named, and the iterator over its fields. -/
namespace Go.Proofs.Ytgaahgnjmhnggaa
open Go Go.RowKit Sm
attribute [local go_sem] Oper.semAt_some

theorem info_fd : (Try.prog.info? 43).map (·.size) = some 4 := by kernel_rfl
theorem results_fd {fn : Func} {p : Tmp} {tmps : Array Value} {w : World} {g : Nat} {x0 x1 x2 x3 : Value} (h : fn.results = #[.cell p 43]) (hp : tmps.getD p undef = .pointer (some ⟨g, 0, none⟩)) (hg : w.heap[g]? = some (.cells #[x0, x1, x2, x3] 43 (0, 0))) :
    (results fn tmps).run Try.prog w = .ok (.agg #[x0, x1, x2, x3]) w :=
  results_cell_row h _ _ g _ _ _ _ hp hg Try.underlying43 rfl info_fd
theorem results_place1 {fn : Func} {p : Tmp} {tmps : Array Value} {w : World} {g : Nat} {x0 x1 x2 x3 : Value} (h : fn.results = #[.cell p 25]) (hp : tmps.getD p undef = .pointer (some ⟨g, 0, none⟩)) (hg : w.heap[g]? = some (.cells #[x0, x1, x2, x3] 25 (0, 0))) :
    (results fn tmps).run Try.prog w = .ok (.agg #[x0, x1, x2, x3]) w :=
  results_cell_row h _ _ g _ _ _ _ hp hg Try.underlying25 rfl info_place
theorem ret_val {a b : Value} (h : a = b) : Ending.returned a = Ending.returned b := by rw [h]

set_option maxRecDepth 20000 in
set_option maxHeartbeats 1000000 in
theorem first_any (p : Pl) (w : World) : Calls Try.prog 27 #[p.v] w fun e w' => e = .returned p.first.v ∧ Below w.heap.size w w' := by
  obtain ⟨r, hr⟩ : ∃ r, p.first = r := ⟨_, rfl⟩
  rw [hr]
  obtain ⟨k, a, i, m⟩ := p
  unfold Pl.v
  unfold Pl.first at hr
  dsimp only at *
  have HR : Veil _ := ⟨hr⟩
  clear hr
  by_cases k1 : k = 1
  · subst k1
    go_enter Try.func27, Try.ntmps27
    go_wp2
    refine bodyPost_ret (results_fd rfl rfl (heap_alloc2_new _ _ _)) rfl ⟨ret_val ?_, below_al (below_al (Below.refl _ _) _) _⟩
    have h := HR.out
    simp only [if_true, Int.reduceEq, if_false] at h
    subst h
    rfl
  by_cases k2 : k = 2
  · subst k2
    go_enter Try.func27, Try.ntmps27
    go_wp2
    refine bodyPost_ret (results_fd rfl rfl (heap_alloc2_new _ _ _)) rfl ⟨ret_val ?_, below_al (below_al (Below.refl _ _) _) _⟩
    have h := HR.out
    simp only [if_true, Int.reduceEq, if_false] at h
    subst h
    rfl
  by_cases k3 : k = 3
  · subst k3
    go_enter Try.func27, Try.ntmps27
    go_wp2
    refine bodyPost_ret (results_fd rfl rfl (heap_alloc2_new _ _ _)) rfl ⟨ret_val ?_, below_al (below_al (Below.refl _ _) _) _⟩
    have h := HR.out
    simp only [if_true, Int.reduceEq, if_false] at h
    subst h
    rfl
  by_cases k4 : k = 4
  · subst k4
    go_enter Try.func27, Try.ntmps27
    go_wp2
    refine bodyPost_ret (results_fd rfl rfl (heap_alloc2_new _ _ _)) rfl ⟨ret_val ?_, below_al (below_al (Below.refl _ _) _) _⟩
    have h := HR.out
    simp only [if_true, Int.reduceEq, if_false] at h
    subst h
    rfl
  by_cases k5 : k = 5
  · subst k5
    go_enter Try.func27, Try.ntmps27
    go_wp2
    refine bodyPost_ret (results_fd rfl rfl (heap_alloc2_new _ _ _)) rfl ⟨ret_val ?_, below_al (below_al (Below.refl _ _) _) _⟩
    have h := HR.out
    simp only [if_true, Int.reduceEq, if_false] at h
    subst h
    rfl
  by_cases k6 : k = 6
  · subst k6
    go_enter Try.func27, Try.ntmps27
    go_wp2
    refine bodyPost_ret (results_fd rfl rfl (heap_alloc2_new _ _ _)) rfl ⟨ret_val ?_, below_al (below_al (Below.refl _ _) _) _⟩
    have h := HR.out
    simp only [if_true, Int.reduceEq, if_false] at h
    subst h
    rfl
  · go_enter Try.func27, Try.ntmps27
    go_wp2
    refine bodyPost_ret (results_fd rfl rfl (heap_alloc2_new _ _ _)) rfl ⟨ret_val ?_, below_al (below_al (Below.refl _ _) _) _⟩
    have h := HR.out
    simp only [if_neg k1, if_neg k2, if_neg k3, if_neg k4, if_neg k5, if_neg k6] at h
    subst h
    rfl

set_option maxRecDepth 20000 in
set_option maxHeartbeats 1000000 in
theorem named_any (p : Pl) (w : World) : Calls Try.prog 23 #[p.v] w fun e w' => e = .returned p.named.v ∧ Below w.heap.size w w' := by
  obtain ⟨r, hr⟩ : ∃ r, p.named = r := ⟨_, rfl⟩
  rw [hr]
  obtain ⟨k, a, i, m⟩ := p
  unfold Pl.v
  unfold Pl.named at hr
  dsimp only at *
  have HR : Veil _ := ⟨hr⟩
  clear hr
  by_cases k1 : k = 1
  · subst k1
    go_enter Try.func23, Try.ntmps23
    go_wp2
    refine bodyPost_ret (results_place1 rfl rfl (heap_alloc2_new _ _ _)) rfl ⟨ret_val ?_, below_al (below_al (Below.refl _ _) _) _⟩
    have h := HR.out
    simp only [if_true, Int.reduceEq, if_false] at h
    subst h
    rfl
  by_cases k2 : k = 2
  · subst k2
    go_enter Try.func23, Try.ntmps23
    go_wp2
    refine bodyPost_ret (results_place1 rfl rfl (heap_alloc2_new _ _ _)) rfl ⟨ret_val ?_, below_al (below_al (Below.refl _ _) _) _⟩
    have h := HR.out
    simp only [if_true, Int.reduceEq, if_false] at h
    subst h
    rfl
  by_cases k3 : k = 3
  · subst k3
    go_enter Try.func23, Try.ntmps23
    go_wp2
    refine bodyPost_ret (results_place1 rfl rfl (heap_alloc2_new _ _ _)) rfl ⟨ret_val ?_, below_al (below_al (Below.refl _ _) _) _⟩
    have h := HR.out
    simp only [if_true, Int.reduceEq, if_false] at h
    subst h
    rfl
  by_cases k4 : k = 4
  · subst k4
    go_enter Try.func23, Try.ntmps23
    go_wp2
    refine bodyPost_ret (results_place1 rfl rfl (heap_alloc2_new _ _ _)) rfl ⟨ret_val ?_, below_al (below_al (Below.refl _ _) _) _⟩
    have h := HR.out
    simp only [if_true, Int.reduceEq, if_false] at h
    subst h
    rfl
  by_cases k5 : k = 5
  · subst k5
    go_enter Try.func23, Try.ntmps23
    go_wp2
    refine bodyPost_ret (results_place1 rfl rfl (heap_alloc2_new _ _ _)) rfl ⟨ret_val ?_, below_al (below_al (Below.refl _ _) _) _⟩
    have h := HR.out
    simp only [if_true, Int.reduceEq, if_false] at h
    subst h
    rfl
  by_cases k6 : k = 6
  · subst k6
    go_enter Try.func23, Try.ntmps23
    go_wp2
    refine bodyPost_ret (results_place1 rfl rfl (heap_alloc2_new _ _ _)) rfl ⟨ret_val ?_, below_al (below_al (Below.refl _ _) _) _⟩
    have h := HR.out
    simp only [if_true, Int.reduceEq, if_false] at h
    subst h
    rfl
  · go_enter Try.func23, Try.ntmps23
    go_wp2
    refine bodyPost_ret (results_place1 rfl rfl (heap_alloc2_new _ _ _)) rfl ⟨ret_val ?_, below_al (below_al (Below.refl _ _) _) _⟩
    have h := HR.out
    simp only [if_neg k1, if_neg k2, if_neg k3, if_neg k4, if_neg k5, if_neg k6] at h
    subst h
    rfl
end Go.Proofs.Ytgaahgnjmhnggaa

/- Keys: the iterator over a place's fields. -/
namespace Go.Proofs.Ytgaahgnjmhnggaa
open Go Go.RowKit Sm
attribute [local go_sem] Oper.semAt_some

theorem fields_any (p : Pl) (w : World) : Calls Try.prog 19 #[p.v] w fun e w' => e = .returned (.func (.func 26) #[] #[.pointer (some ⟨w.heap.size, 0, none⟩)]) ∧ w.alloc (.cells #[.int .i64 p.kind, .int .u32 p.a, .int .u16 p.item, .int .u32 p.mail] 25) = w' := by
  obtain ⟨k, a, i, m⟩ := p
  unfold Pl.v
  go_enter Try.func19, Try.ntmps19
  go_wp2
  go_ret
  exact ⟨rfl, rfl⟩

theorem calls_wideK {P : Program} {f : FuncId} {args : Array Value} {w : World} {R : Ending → World → Prop} {n : Nat} (h : Calls P f args w R) : Fence.wide.fn f ∧ CallsIn Fence.wide n P f args w R :=
  ⟨trivial, (callsIn_wide (n := n)).2 h⟩
/-- What the iterator hands over. -/
def handsF (p : Pl) (k : Nat) : Array Value := #[(p.flds.getD k ⟨0, 0, 0, 0⟩).v]

set_option maxRecDepth 20000 in
set_option maxHeartbeats 2000000 in
theorem fields_seq (Bx : Nat) (p : Pl) (hp : p.Ok) :
    Seq Try.prog 26 #[.pointer (some ⟨Bx, 0, none⟩)] (handsF p) p.flds.length (fun W => PlBox W Bx p.kind p.a p.item p.mail) := by
  intro l n J Jx W hJ hJx hF hY h0
  have hip := hp.item
  have HC : Veil _ := ⟨fun w => first_any p w⟩
  obtain ⟨f0, f1, f2, f3⟩ := hF 0 W h0
  have hY0 := fun A => hY 0 A (by simp [Pl.flds])
  simp only [handsF] at hY0
  have e0 : p.flds.getD 0 ⟨0, 0, 0, 0⟩ = p.first := rfl
  rw [e0] at hY0
  generalize p.first = fst at HC hY0
  by_cases hm : p.more = []
  · have hn : p.flds.length = 1 := by simp [Pl.flds, hm]
    have hk : Veil (p.kind ≠ 2 ∧ p.kind ≠ 6 ∧ p.kind ≠ 3) := ⟨by
      unfold Pl.more at hm
      refine ⟨fun h => ?_, fun h => ?_, fun h => ?_⟩ <;> rw [h] at hm <;> simp at hm⟩
    rw [hn]
    clear hY hn hm e0
    obtain ⟨k, a, i, m⟩ := p
    unfold Pl.v at *
    dsimp only at *
    obtain ⟨s, x, y, z⟩ := fst
    unfold Fd.v at *
    dsimp only at *
    refine callsIn_of_wp Try.func26 rfl trivial ?_
    simp only [Try.ntmps26, List.size_toArray, List.length_cons, List.length_nil, Nat.reduceAdd, Nat.reduceSub, Array.replicate_succ, Array.replicate_zero, List.push_toArray, List.append_toArray, List.nil_append, List.cons_append]
    gi_wp2_with (refine calls_wideK ?_; refine (HC.out _).mono ?_; rintro e w1 ⟨rfl, hb1⟩; have hj1 := hJ _ _ _ h0 hb1; obtain ⟨fn, tmps, assign, body, hy, hR⟩ := hY0 _ hj1)
    refine hR.mono ?_
    rintro e W3 (⟨rfl, hj3⟩ | ⟨rfl, hjx⟩)
    rotate_left 1
    · gi_wp2
      refine bodyPost_ret (results_none rfl _ _ _) rfl ?_
      exact ⟨⟨_, rfl⟩, .inr ⟨0, by decide, hjx⟩⟩
    obtain ⟨g0, g1, g2, g3⟩ := hF _ _ hj3
    obtain ⟨k2, k6, k3⟩ := hk.out
    gi_wp2
    go_end0
    exact ⟨⟨_, rfl⟩, .inl hj3⟩
  by_cases k2 : p.kind = 2
  · have em : p.more = [⟨2, p.item, 0, 65535⟩] := by unfold Pl.more; simp [k2]
    have hn : p.flds.length = 2 := by simp [Pl.flds, em]
    have e1 : (p.flds.getD 1 ⟨0, 0, 0, 0⟩).v = .agg #[.int .i64 2, .int .u32 p.item, .int .u32 0, .int .u32 65535] := by rw [show p.flds.getD 1 ⟨0, 0, 0, 0⟩ = ⟨2, p.item, 0, 65535⟩ by simp [Pl.flds, em]]; rfl
    have hY1 := fun A => hY 1 A (by omega)
    simp only [handsF, e1] at hY1
    rw [hn]
    clear hY hn hm e0 e1 em
    obtain ⟨k, a, i, m⟩ := p
    unfold Pl.v at *
    dsimp only at *
    obtain ⟨s, x, y, z⟩ := fst
    unfold Fd.v at *
    dsimp only at *
    subst k2
    refine callsIn_of_wp Try.func26 rfl trivial ?_
    simp only [Try.ntmps26, List.size_toArray, List.length_cons, List.length_nil, Nat.reduceAdd, Nat.reduceSub, Array.replicate_succ, Array.replicate_zero, List.push_toArray, List.append_toArray, List.nil_append, List.cons_append]
    gi_wp2_with (refine calls_wideK ?_; refine (HC.out _).mono ?_; rintro e w1 ⟨rfl, hb1⟩; have hj1 := hJ _ _ _ h0 hb1; obtain ⟨fn, tmps, assign, body, hy, hR⟩ := hY0 _ hj1)
    refine hR.mono ?_
    rintro e W3 (⟨rfl, hj3⟩ | ⟨rfl, hjx⟩)
    rotate_left 1
    · gi_wp2
      refine bodyPost_ret (results_none rfl _ _ _) rfl ?_
      exact ⟨⟨_, rfl⟩, .inr ⟨0, by decide, hjx⟩⟩
    obtain ⟨g0, g1, g2, g3⟩ := hF _ _ hj3
    obtain ⟨fn, tmps, assign, body, hy, hR⟩ := hY1 _ hj3
    have wi : IntKind.u32.wrap (i : Int) = i := by rw [IntKind.wrap_u32]; omega
    gi_wp2
    refine hR.mono ?_
    rintro e W4 (⟨rfl, hj4⟩ | ⟨rfl, hjx⟩)
    · gi_wp2
      go_end0
      exact ⟨⟨_, rfl⟩, .inl hj4⟩
    · gi_wp2
      go_end0
      exact ⟨⟨_, rfl⟩, .inr ⟨1, by decide, hjx⟩⟩
  by_cases k6 : p.kind = 6
  · have em : p.more = [⟨2, p.item, 0, 65535⟩] := by unfold Pl.more; simp [k6]
    have hn : p.flds.length = 2 := by simp [Pl.flds, em]
    have e1 : (p.flds.getD 1 ⟨0, 0, 0, 0⟩).v = .agg #[.int .i64 2, .int .u32 p.item, .int .u32 0, .int .u32 65535] := by rw [show p.flds.getD 1 ⟨0, 0, 0, 0⟩ = ⟨2, p.item, 0, 65535⟩ by simp [Pl.flds, em]]; rfl
    have hY1 := fun A => hY 1 A (by omega)
    simp only [handsF, e1] at hY1
    rw [hn]
    clear hY hn hm e0 e1 em
    obtain ⟨k, a, i, m⟩ := p
    unfold Pl.v at *
    dsimp only at *
    obtain ⟨s, x, y, z⟩ := fst
    unfold Fd.v at *
    dsimp only at *
    subst k6
    refine callsIn_of_wp Try.func26 rfl trivial ?_
    simp only [Try.ntmps26, List.size_toArray, List.length_cons, List.length_nil, Nat.reduceAdd, Nat.reduceSub, Array.replicate_succ, Array.replicate_zero, List.push_toArray, List.append_toArray, List.nil_append, List.cons_append]
    gi_wp2_with (refine calls_wideK ?_; refine (HC.out _).mono ?_; rintro e w1 ⟨rfl, hb1⟩; have hj1 := hJ _ _ _ h0 hb1; obtain ⟨fn, tmps, assign, body, hy, hR⟩ := hY0 _ hj1)
    refine hR.mono ?_
    rintro e W3 (⟨rfl, hj3⟩ | ⟨rfl, hjx⟩)
    rotate_left 1
    · gi_wp2
      refine bodyPost_ret (results_none rfl _ _ _) rfl ?_
      exact ⟨⟨_, rfl⟩, .inr ⟨0, by decide, hjx⟩⟩
    obtain ⟨g0, g1, g2, g3⟩ := hF _ _ hj3
    obtain ⟨fn, tmps, assign, body, hy, hR⟩ := hY1 _ hj3
    have wi : IntKind.u32.wrap (i : Int) = i := by rw [IntKind.wrap_u32]; omega
    gi_wp2
    refine hR.mono ?_
    rintro e W4 (⟨rfl, hj4⟩ | ⟨rfl, hjx⟩)
    · gi_wp2
      go_end0
      exact ⟨⟨_, rfl⟩, .inl hj4⟩
    · gi_wp2
      go_end0
      exact ⟨⟨_, rfl⟩, .inr ⟨1, by decide, hjx⟩⟩
  by_cases k3 : p.kind = 3
  · have em : p.more = [⟨4, p.mail, 1, 1073741824⟩] := by unfold Pl.more; simp [k3]
    have hn : p.flds.length = 2 := by simp [Pl.flds, em]
    have e1 : (p.flds.getD 1 ⟨0, 0, 0, 0⟩).v = .agg #[.int .i64 4, .int .u32 p.mail, .int .u32 1, .int .u32 1073741824] := by rw [show p.flds.getD 1 ⟨0, 0, 0, 0⟩ = ⟨4, p.mail, 1, 1073741824⟩ by simp [Pl.flds, em]]; rfl
    have hY1 := fun A => hY 1 A (by omega)
    simp only [handsF, e1] at hY1
    rw [hn]
    clear hY hn hm e0 e1 em
    obtain ⟨k, a, i, m⟩ := p
    unfold Pl.v at *
    dsimp only at *
    obtain ⟨s, x, y, z⟩ := fst
    unfold Fd.v at *
    dsimp only at *
    subst k3
    refine callsIn_of_wp Try.func26 rfl trivial ?_
    simp only [Try.ntmps26, List.size_toArray, List.length_cons, List.length_nil, Nat.reduceAdd, Nat.reduceSub, Array.replicate_succ, Array.replicate_zero, List.push_toArray, List.append_toArray, List.nil_append, List.cons_append]
    gi_wp2_with (refine calls_wideK ?_; refine (HC.out _).mono ?_; rintro e w1 ⟨rfl, hb1⟩; have hj1 := hJ _ _ _ h0 hb1; obtain ⟨fn, tmps, assign, body, hy, hR⟩ := hY0 _ hj1)
    refine hR.mono ?_
    rintro e W3 (⟨rfl, hj3⟩ | ⟨rfl, hjx⟩)
    rotate_left 1
    · gi_wp2
      refine bodyPost_ret (results_none rfl _ _ _) rfl ?_
      exact ⟨⟨_, rfl⟩, .inr ⟨0, by decide, hjx⟩⟩
    obtain ⟨g0, g1, g2, g3⟩ := hF _ _ hj3
    obtain ⟨fn, tmps, assign, body, hy, hR⟩ := hY1 _ hj3

    gi_wp2
    refine hR.mono ?_
    rintro e W4 (⟨rfl, hj4⟩ | ⟨rfl, hjx⟩)
    · gi_wp2
      go_end0
      exact ⟨⟨_, rfl⟩, .inl hj4⟩
    · gi_wp2
      go_end0
      exact ⟨⟨_, rfl⟩, .inr ⟨1, by decide, hjx⟩⟩
  · exfalso
    apply hm
    unfold Pl.more
    rw [if_neg k2, if_neg k6, if_neg k3]
end Go.Proofs.Ytgaahgnjmhnggaa
