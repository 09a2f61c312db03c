/- The laws on trees: TreeOpens. -/
import Derived.Test.YtokbmimbbeedcaaGreatDoorKUH
import Derived.Test.YtokbmimbbeedcaaGreatDoorKCZ
namespace Go.Proofs.YtokbmimbbeedcaaGreatDoor
open Go Go.RowKit Sm
attribute [local go_sem] Oper.semAt_some

theorem results_al1 {fn : Func} {p : Tmp} {tmps : Array Value} {w : World} {g : Nat} {x0 x1 x2 : Value} (h : fn.results = #[.cell p 34]) (hp : tmps.getD p undef = .pointer (some ⟨g, 0, none⟩)) (hg : w.heap[g]? = some (.cells #[x0, x1, x2] 34 (0, 0))) :
    (results fn tmps).run Tryz.prog w = .ok (.agg #[x0, x1, x2]) w := by
  have hp' : tmps[p]?.getD undef = .pointer (some ⟨g, 0, none⟩) := by simpa using hp
  obtain ⟨⟨c0, c1, c2⟩, -⟩ := pack3 hg
  simp [results, h, go_sem, hp', c0, c1, c2]
theorem alloc_nil (w : World) : Calls Tryz.prog 19 #[.pointer none] w fun e w' => e = .returned (.agg #[.int .u32 0, .int .u32 0, .slice none 0 0]) ∧ Below w.heap.size w w' := by
  go_enter Tryz.func19, Tryz.ntmps19
  go_wp2
  exact bodyPost_ret (results_al1 (g := w.heap.size) rfl rfl (heap_alloc_new _ _)) rfl ⟨rfl, below_al (Below.refl _ _) _⟩
theorem head_spares {p : Option Addr} {n c m : Nat} (hn : p = none → c = 0) (hmc : m ≤ c) (hnc : n ≤ c) (W : World) : (Instr.sliceAt 32 (.slice p n c) none (some (.int .i64 (m : Int))) none).run Tryz.prog W = .ok (.slice p m c) W := by
  cases p with
  | none =>
    obtain rfl : c = 0 := hn rfl
    obtain rfl : n = 0 := by omega
    obtain rfl : m = 0 := by omega
    go_simp
  | some a => go_simp
/-- What is asked of Open, case by case. -/
theorem open_cases (root : Nat) (al : Al) (tx : Nat) : (al.right = true ∧ 0 < tx ∧ root = 0 ∧ openE root al tx = 0) ∨ (al.right = true ∧ 0 < tx ∧ (root ≠ 0 ∧ 2 ≤ root ∧ root < al.high) ∧ openE root al tx = 0) ∨ (al.right = false ∧ openE root al tx = 2) ∨ (al.right = true ∧ tx = 0 ∧ openE root al tx = 2) ∨ (al.right = true ∧ 0 < tx ∧ (root ≠ 0 ∧ root < 2) ∧ openE root al tx = 2) ∨ (al.right = true ∧ 0 < tx ∧ (2 ≤ root ∧ al.high ≤ root) ∧ openE root al tx = 2) := by
  unfold openE
  cases al.right with
  | false => exact .inr (.inr (.inl ⟨rfl, by simp⟩))
  | true =>
    by_cases h1 : 0 < tx
    · by_cases h2 : root = 0
      · exact .inl ⟨rfl, h1, h2, by rw [if_pos ⟨rfl, h1, .inl h2⟩]⟩
      · by_cases h3 : 2 ≤ root
        · by_cases h4 : root < al.high
          · exact .inr (.inl ⟨rfl, h1, ⟨h2, h3, h4⟩, by rw [if_pos ⟨rfl, h1, .inr ⟨h3, h4⟩⟩]⟩)
          · exact .inr (.inr (.inr (.inr (.inr ⟨rfl, h1, ⟨h3, by omega⟩, by rw [if_neg (fun h => by omega)]⟩))))
        · exact .inr (.inr (.inr (.inr (.inl ⟨rfl, h1, ⟨h2, by omega⟩, by rw [if_neg (fun h => by omega)]⟩))))
    · exact .inr (.inr (.inr (.inl ⟨rfl, by omega, by rw [if_neg (fun h => by omega)]⟩)))

set_option maxRecDepth 20000 in
set_option maxHeartbeats 8000000 in
theorem treeOpens_any {w : World} {a : Al} {p : Option Addr} {c : Nat} (h : AlIn w a p c) (root tx : Nat) (hr : root < 4294967296) (hx : tx < 18446744073709551616) (key : List UInt8) :
    Calls Tryz.prog 4 #[.int .u32 root, a.v p c, .int .u64 tx, .string ⟨key.toArray⟩] w fun e w' => e = .returned (.bool true) ∧ Below w.heap.size w w' := by
  obtain ⟨high, most, l⟩ := a
  have hmin : ∀ W, (Builtin.min_ #[3, 3] 3 #[.int .i64 (l.length : Int), .int .i64 100]).run Tryz.prog W = .ok (.int .i64 ((min l.length 100 : Nat) : Int)) W := min_two l.length 100
  have hlen : (l.take 100).length = min l.length 100 := by rw [List.length_take, Nat.min_comm]
  have hsl := fun W => head_spares (p := p) (n := l.length) (c := c) (m := min l.length 100) h.nil (Nat.le_trans (Nat.min_le_left _ _) h.len) h.len W
  have hS : Sps w p (l.take 100) := h.s.take 100
  have hok : Veil (Al.Ok ⟨high, most, l.take 100⟩) := ⟨⟨h.high, h.most, fun s hs => h.l s (List.mem_of_mem_take hs), by rw [hlen]; omega⟩⟩
  have hn : p ≠ none ∨ l.take 100 = [] ∧ c = 0 := by
    cases p with
    | some a => exact .inl (fun e => by cases e)
    | none =>
      have h0 := h.nil rfl
      have h1 := h.len
      dsimp only at h1
      exact .inr ⟨by rw [List.eq_nil_of_length_eq_zero (show l.length = 0 by omega)]; rfl, h0⟩
  have hml : min l.length 100 ≤ 100 := Nat.min_le_right _ _
  revert hmin hlen hsl hS hok hn hml
  generalize min l.length 100 = m
  generalize l.take 100 = L
  intro hmin hlen hsl hS hok hn hml
  have HO : Veil (∀ W d, Below w.heap.size w W → Calls Tryz.prog 10 #[.pointer (some ⟨d, 0, none⟩), .int .u32 root, .agg #[.int .u32 high, .int .u32 most, .slice p m c], .int .u64 tx, .int .u64 0] W fun e w' => ∃ v, e = .returned (.tuple #[v, .int .i64 (openE root ⟨high, most, L⟩ tx)]) ∧ Below W.heap.size W w') := ⟨fun W d hW => by
    have := topen_res (w := W) (al := ⟨high, most, L⟩) (hS.below hW) c hn hok d root tx 0
    unfold Al.v at this
    dsimp only at this
    rwa [hlen] at this⟩
  have HR : Veil (∀ W, Below w.heap.size w W → Calls Tryz.prog 17 #[.agg #[.int .u32 high, .int .u32 most, .slice p m c]] W fun e w' => e = .returned (.bool (Al.right ⟨high, most, L⟩)) ∧ Below W.heap.size W w') := ⟨fun W hW => by
    have := refright_of (w := W) (a := ⟨high, most, L⟩) (hS.below hW) c hok
    unfold Al.v at this
    dsimp only at this
    rwa [hlen] at this⟩
  have HC := open_cases root ⟨high, most, L⟩ tx
  have HSh : Veil _ := ⟨fun W => shown7_any W⟩
  have HNew : Veil (∀ W, Calls Tryz.prog 9 #[.int .i64 8] W (NewPost W 8)) := ⟨new_any 8 (by omega) (by omega)⟩
  have HGet : Veil _ := ⟨fun W => get_nil W key⟩
  have HDel : Veil _ := ⟨fun W => delete_nil W key⟩
  have HPut : Veil (∀ W, Calls Tryz.prog 12 #[.pointer none, .agg #[.string ⟨key.toArray⟩, .string ⟨#[]⟩]] W fun e w' => e = .returned (.int .i64 1) ∧ Below W.heap.size W w') := ⟨fun W => put_nil W key []⟩
  unfold Al.v
  dsimp only at *
  have hfld : ∀ W, (Instr.field 34 (.agg #[.int .u32 0, .int .u32 0, .slice none 0 0]) 0).run Tryz.prog W = .ok (.int .u32 0) W := fun W => by kernel_rfl
  have HA0 : Veil _ := ⟨heap_alloc_new w (.cells #[.int .u32 high, .int .u32 most, .slice p l.length c] 34)⟩
  revert HO HR HC
  generalize openE root ⟨high, most, L⟩ tx = E
  generalize Al.right ⟨high, most, L⟩ = r
  intro HO HR HC
  clear hS hok hn hlen h
  rcases HC with ⟨rfl, h1, rfl, rfl⟩ | ⟨rfl, h1, ⟨h2, h3, h4⟩, rfl⟩ | ⟨rfl, rfl⟩ | ⟨rfl, rfl, rfl⟩ | ⟨rfl, h1, ⟨h2, h3⟩, rfl⟩ | ⟨rfl, h1, ⟨h3, h4⟩, rfl⟩
  all_goals
    try (have i1 : (0 : Int) < tx := by omega)
    try (have i2 : ¬ (root : Int) = 0 := by omega)
    try (have i2b : ((root : Int) == 0) = false := by simpa using i2)
    try (have i4b : decide (root < high) = true := by rw [decide_eq_true_iff]; omega)
    try (have i4c : decide (root < high) = false := by rw [decide_eq_false_iff_not]; omega)
    try (have i3 : (2 : Int) ≤ root := by omega)
    try (have i3' : ¬ (2 : Int) ≤ root := by omega)
    try (have i4 : (root : Int) < high := by omega)
    try (have i4' : ¬ (root : Int) < high := by omega)
    go_enter Tryz.func4, Tryz.ntmps4
    go_wp2_with (first
      | (go_at_call 21; refine (pages_nil _).mono ?_; rintro e w9 ⟨rfl, rfl⟩)
      | (go_at_call 20; refine (gone_nil _).mono ?_; rintro e w9 ⟨rfl, rfl⟩)
      | (go_at_call 19; refine (alloc_nil _).mono ?_; rintro e w9 ⟨rfl, hb9⟩; have HB : Veil _ := ⟨HB.out.trans (hb9.mono HB.out.size)⟩; clear hb9)
      | (go_at_call 18; refine (root_nil _).mono ?_; rintro e w9 ⟨rfl, rfl⟩)
      | (go_at_call 12; refine (HPut.out _).mono ?_; rintro e w8 ⟨rfl, hb8⟩; have HB : Veil _ := ⟨HB.out.trans (hb8.mono HB.out.size)⟩; clear hb8)
      | (go_at_call 15; refine (all_nil _).mono ?_; rintro e w9 ⟨rfl, rfl⟩)
      | (go_at_call 14; refine (HDel.out _).mono ?_; rintro e w7 ⟨rfl, hb7⟩; have HB : Veil _ := ⟨HB.out.trans (hb7.mono HB.out.size)⟩; clear hb7)
      | (go_at_call 13; refine (HGet.out _).mono ?_; rintro e w6 ⟨rfl, rfl⟩)
      | (go_at_call 17; refine (HR.out _ HB.out).mono ?_; rintro e w5 ⟨rfl, hb5⟩; have hx5 := (hb5.block _ (lt_of_heap HX.out)).trans HX.out; obtain ⟨⟨a0, a1, a2⟩, -⟩ := pack3 hx5; have HB : Veil _ := ⟨HB.out.trans (hb5.mono HB.out.size)⟩; clear hb5)
      | (go_at_call 10; refine (HO.out _ _ HB.out).mono ?_; rintro e w4 ⟨v4, rfl, hb4⟩; have hx4 := (hb4.block _ (lt_of_heap HX.out)).trans HX.out; obtain ⟨⟨a0, a1, a2⟩, -⟩ := pack3 hx4; have HX : Veil _ := ⟨hx4⟩; have HB : Veil _ := ⟨HB.out.trans (hb4.mono HB.out.size)⟩; clear hb4 hx4)
      | (go_at_call 9; refine (HNew.out _).mono ?_; rintro e w3 ⟨d, kb, sb, rfl, -, hb3, -, -, -⟩; have hx3 := (hb3.block _ (lt_of_heap HX1.out)).trans HX1.out; obtain ⟨⟨a0, a1, a2⟩, -⟩ := pack3 hx3; have HX : Veil _ := ⟨hx3⟩; have HB : Veil _ := ⟨HB1.out.trans (hb3.mono HB1.out.size)⟩; clear hb3 hx3)
      | (go_at_call 8; refine (HSh.out _).mono ?_; rintro e w1 ⟨rfl, hb1⟩; have hx1 := (hb1.block _ (lt_of_heap HA0.out)).trans HA0.out; obtain ⟨⟨b0, b1, b2⟩, f0, f1, f2⟩ := pack3 hx1; have HX1 : Veil ((w1.setCell ⟨w.heap.size, 2, none⟩ (.slice p m c)).heap[w.heap.size]? = some (.cells #[.int .u32 high, .int .u32 most, .slice p m c] 34 (0, 0))) := ⟨heap_setCell_at hx1 2 _⟩; have HB1 : Veil (Below w.heap.size w (w1.setCell ⟨w.heap.size, 2, none⟩ (.slice p m c))) := ⟨((below_al (Below.refl _ _) _).trans (hb1.mono (by simp))).trans (((Turned.refl (· = w.heap.size) w1).setCell (p := ⟨w.heap.size, 2, none⟩) rfl _).toBelow (Nat.le_of_lt (lt_of_heap hx1)) (fun k _ e => Nat.le_of_eq e.symm))⟩; clear hb1 hx1))
    go_ret
    exact ⟨rfl, HB.out⟩
end Go.Proofs.YtokbmimbbeedcaaGreatDoor
