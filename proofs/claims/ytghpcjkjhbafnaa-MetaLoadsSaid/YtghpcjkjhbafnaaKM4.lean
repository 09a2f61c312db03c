/- The walks of word, told: the meta that a sector's bytes tell of. -/
import Derived.Test.YtghpcjkjhbafnaaKM3
import Derived.Test.YtghpcjkjhbafnaaKPA
import Derived.Test.YtghpcjkjhbafnaaKP7
namespace Go.Proofs.Ytghpcjkjhbafnaa
open Go Go.RowKit Sm
attribute [local go_sem] Oper.semAt_some

def w32v (a b c d : Nat) : Nat := a * 16777216 + b * 65536 + c * 256 + d
def w32 (a b c d : UInt8) : Nat := w32v a.toNat b.toNat c.toNat d.toNat
theorem w32_lt (a b c d : UInt8) : w32 a b c d < 4294967296 := by
  unfold w32 w32v; have := a.toNat_lt; have := b.toNat_lt; have := c.toNat_lt; have := d.toNat_lt; omega
theorem or_shift (A B : Nat) (k : Nat) (hB : B < 2 ^ k) : A * 2 ^ k ||| B = A * 2 ^ k + B := by
  rw [Nat.mul_comm, Nat.two_pow_add_eq_or_of_lt (i := k) hB]
theorem or4 (a b c d : UInt8) : bits BinOp.or IntKind.u32 (bits BinOp.or IntKind.u32 (bits BinOp.or IntKind.u32 ((a.toNat : Int) % 4294967296 * 16777216 % 4294967296) ((b.toNat : Int) % 4294967296 * 65536 % 4294967296)) ((c.toNat : Int) % 4294967296 * 256 % 4294967296)) ((d.toNat : Int) % 4294967296) = ((w32 a b c d : Nat) : Int) := by
  unfold w32
  have ha := a.toNat_lt
  have hb := b.toNat_lt
  have hc := c.toNat_lt
  have hd := d.toNat_lt
  generalize a.toNat = a at *
  generalize b.toNat = b at *
  generalize c.toNat = c at *
  generalize d.toNat = d at *
  have e1 : (a : Int) % 4294967296 * 16777216 % 4294967296 = ((a * 2 ^ 24 : Nat) : Int) := by omega
  have e2 : (b : Int) % 4294967296 * 65536 % 4294967296 = ((b * 2 ^ 16 : Nat) : Int) := by omega
  have e3 : (c : Int) % 4294967296 * 256 % 4294967296 = ((c * 2 ^ 8 : Nat) : Int) := by omega
  have e4 : (d : Int) % 4294967296 = (d : Int) := by omega
  rw [e1, e2, e3, e4, u32_or_nat _ _ (by omega) (by omega), or_shift a _ 24 (by omega), u32_or_nat _ _ (by omega) (by omega)]
  rw [show a * 2 ^ 24 + b * 2 ^ 16 = (a * 2 ^ 8 + b) * 2 ^ 16 by omega, or_shift _ _ 16 (by omega), u32_or_nat _ _ (by omega) (by omega)]
  rw [show (a * 2 ^ 8 + b) * 2 ^ 16 + c * 2 ^ 8 = ((a * 2 ^ 8 + b) * 2 ^ 8 + c) * 2 ^ 8 by omega, or_shift _ _ 8 (by omega)]
  unfold w32v
  exact congrArg _ (by omega)

theorem getB_four (a b c d : UInt8) : getB [a, b, c, d] = w32 a b c d := by
  have := a.toNat_lt; have := b.toNat_lt; have := c.toNat_lt; have := d.toNat_lt
  unfold w32 w32v
  simp [getB, shl64]
  omega
theorem take_four (s : List UInt8) (at' : Nat) (h : at' + 4 ≤ s.length) : (s.drop at').take 4 = [s.getD at' 0, s.getD (at' + 1) 0, s.getD (at' + 2) 0, s.getD (at' + 3) 0] := by
  apply List.ext_getElem?
  intro i
  by_cases hi : i < 4
  · have : i = 0 ∨ i = 1 ∨ i = 2 ∨ i = 3 := by omega
    rcases this with rfl | rfl | rfl | rfl <;> simp [List.getElem?_drop, List.getD] <;> (rw [List.getElem?_eq_getElem (by omega)]; rfl)
  · rw [List.getElem?_eq_none (by simp; omega), List.getElem?_eq_none (by simp; omega)]

theorem index_at (s : List UInt8) (i : Nat) (h : i < s.length) (z : Int) (hz : z = i) (W : World) : (Instr.index 9 (.string ⟨s.toArray⟩) (.int .i64 z)).run Try.prog W = .ok (.int .u8 (s.getD i 0).toNat) W := by
  subst hz
  rw [run_index_string _ _ _ _ _ Try.underlying9]
  have h' : (0 : Int) ≤ (i : Int) ∧ (i : Int) < ((⟨s.toArray⟩ : ByteArray).size : Int) := by simp only [ByteArray.size, List.size_toArray]; omega
  rw [dif_pos h']
  have e : (⟨s.toArray⟩ : ByteArray)[(i : Int).toNat]'(by simpa [ByteArray.size] using h) = s.getD i 0 := by
    simp [List.getD, h]
    rfl
  rw [e]

set_option maxRecDepth 20000 in
set_option maxHeartbeats 1000000 in
theorem word_any (s : List UInt8) (i : Nat) (hi : i = 0 ∨ i = 4 ∨ i = 8 ∨ i = 12 ∨ i = 16) (h : 20 ≤ s.length) (hs : s.length ≤ 1000) (w : World) : Calls Try.prog 86 #[.string ⟨s.toArray⟩, .int .i64 i] w fun e w' => e = .returned (.int .u32 (getB ((s.drop i).take 4))) ∧ Below w.heap.size w w' := by
  rw [take_four s i (by omega), getB_four]
  have h0 := index_at s i (by omega) i rfl
  have h1 := index_at s (i + 1) (by omega) ((i : Int) + 1) (by omega)
  have h2 := index_at s (i + 2) (by omega) ((i : Int) + 2) (by omega)
  have h3 := index_at s (i + 3) (by omega) ((i : Int) + 3) (by omega)
  generalize s.getD i 0 = a at *
  generalize s.getD (i + 1) 0 = b at *
  generalize s.getD (i + 2) 0 = c at *
  generalize s.getD (i + 3) 0 = d at *
  have HO : Veil _ := ⟨or4 a b c d⟩
  clear h hs
  rcases hi with rfl | rfl | rfl | rfl | rfl
  all_goals
    simp only [Int.reduceAdd, Int.cast_ofNat_Int] at h0 h1 h2 h3 ⊢
    go_enter Try.func86, Try.ntmps86
    go_wp2
    go_quiet (fail)
    go_wp2
    go_ret
    exact ⟨congrArg (fun x => Ending.returned (Value.int .u32 x)) HO.out, blw_drewN nq (Below.refl _ w)⟩

/-- The meta that bytes tell of. -/
def Mt.of (s : List UInt8) : Mt := ⟨getB (s.take 8), getB ((s.drop 8).take 4), getB ((s.drop 12).take 4), getB ((s.drop 16).take 4)⟩
theorem Mt.of_ok (s : List UInt8) : (Mt.of s).Ok := by
  have h : ∀ l : List UInt8, l.length ≤ 4 → getB l < 4294967296 := fun l hl => by
    have := getB_pow l
    have h2 : 256 ^ l.length ≤ 256 ^ 4 := Nat.pow_le_pow_right (by decide) hl
    have h3 : (256 : Nat) ^ 4 = 4294967296 := rfl
    omega
  exact ⟨getB_lt _, h _ (by simp; omega), h _ (by simp; omega), h _ (by simp; omega)⟩
theorem getB_eight (a b c d e f g h : UInt8) : getB [a, b, c, d, e, f, g, h] = w32 a b c d * 4294967296 + w32 e f g h := by
  have := a.toNat_lt; have := b.toNat_lt; have := c.toNat_lt; have := d.toNat_lt
  have := e.toNat_lt; have := f.toNat_lt; have := g.toNat_lt; have := h.toNat_lt
  unfold w32 w32v
  simp only [getB, List.foldl_cons, List.foldl_nil, shl64]
  omega
theorem getB_take8 (s : List UInt8) (h : 8 ≤ s.length) : getB (s.take 8) = getB ((s.drop 0).take 4) * 4294967296 + getB ((s.drop 4).take 4) := by
  have e : s.take 8 = (s.drop 0).take 4 ++ (s.drop 4).take 4 := by
    rw [List.drop_zero, show 8 = 4 + 4 from rfl, List.take_add]
  rw [e, take_four s 0 (by omega), take_four s 4 (by omega), getB_four, getB_four]
  exact getB_eight _ _ _ _ _ _ _ _
theorem or64 (a b : Nat) (ha : a < 4294967296) (hb : b < 4294967296) : bits BinOp.or IntKind.u64 ((a : Int) * 4294967296) (b : Int) = ((a * 4294967296 + b : Nat) : Int) := by
  have e : (a : Int) * 4294967296 = ((a * 2 ^ 32 : Nat) : Int) := by omega
  rw [e, u64_or_nat _ _ (by omega) (by omega), or_shift a b 32 (by omega)]

theorem info_meta : (Try.prog.info? 60).map (·.size) = some 4 := by kernel_rfl
theorem results_meta {fn : Func} {p : Tmp} {T : TypeId} {tmps : Array Value} {w : World} {g : Nat} {x0 x1 x2 x3 : Value} (h : fn.results = #[.cell p T]) (hT : T = 60) (hp : tmps.getD p undef = .pointer (some ⟨g, 0, none⟩)) (hg : w.heap[g]? = some (.cells #[x0, x1, x2, x3] 60 (0, 0))) :
    (results fn tmps).run Try.prog w = .ok (.agg #[x0, x1, x2, x3]) w := by
  subst hT
  exact results_cell_row h _ _ g _ _ _ _ hp hg Try.underlying60 rfl info_meta
theorem results_meta2 {fn : Func} {p q : Tmp} {tmps : Array Value} {w : World} {g : Nat} {x0 x1 x2 x3 y : Value} (h : fn.results = #[.cell p 60, .tmp q]) (hp : tmps.getD p undef = .pointer (some ⟨g, 0, none⟩)) (hq : tmps.getD q undef = y) (hg : w.heap[g]? = some (.cells #[x0, x1, x2, x3] 60 (0, 0))) :
    (results fn tmps).run Try.prog w = .ok (.tuple #[.agg #[x0, x1, x2, x3], y]) w := by
  rw [results_cell_tmp h]
  have hp' : tmps[p]?.getD undef = .pointer (some ⟨g, 0, none⟩) := by simpa using hp
  have hq' : tmps[q]?.getD undef = y := by simpa using hq
  simp [hp', hq', asAddr, run_loadVar_row w g 60 60 #[x0, x1, x2, x3] (0, 0) _ hg Try.underlying60 rfl info_meta]

set_option maxRecDepth 20000 in
set_option maxHeartbeats 1000000 in
theorem told_any (s : List UInt8) (h : 20 ≤ s.length) (hs : s.length ≤ 1000) (w : World) : Calls Try.prog 64 #[.string ⟨s.toArray⟩] w fun e w' => e = .returned (Mt.of s).v ∧ Below w.heap.size w w' := by
  obtain ⟨V0, hV0⟩ : ∃ V0, w.alloc (.cells #[.int .u64 0, .int .u32 0, .int .u32 0, .int .u32 0] 60) = V0 := ⟨_, rfl⟩
  have hp0 : Veil (V0.heap[w.heap.size]? = some (.cells #[.int .u64 0, .int .u32 0, .int .u32 0, .int .u32 0] 60 (0, 0))) := ⟨by rw [← hV0]; exact heap_alloc_new _ _⟩
  have hz0 : Veil (w.heap.size < V0.heap.size) := ⟨by rw [← hV0]; simp⟩
  have hb0 : Veil (Below w.heap.size w V0) := ⟨by rw [← hV0]; exact below_al (Below.refl _ _) _⟩
  have W0 : Veil (∀ w, Calls Try.prog 86 #[.string ⟨s.toArray⟩, .int .i64 0] w fun e w' => e = .returned (.int .u32 (getB ((s.drop 0).take 4))) ∧ Below w.heap.size w w') := ⟨word_any s 0 (by simp) h hs⟩
  have W4 : Veil (∀ w, Calls Try.prog 86 #[.string ⟨s.toArray⟩, .int .i64 4] w fun e w' => e = .returned (.int .u32 (getB ((s.drop 4).take 4))) ∧ Below w.heap.size w w') := ⟨word_any s 4 (by simp) h hs⟩
  have W8 : Veil (∀ w, Calls Try.prog 86 #[.string ⟨s.toArray⟩, .int .i64 8] w fun e w' => e = .returned (.int .u32 (getB ((s.drop 8).take 4))) ∧ Below w.heap.size w w') := ⟨word_any s 8 (by simp) h hs⟩
  have W12 : Veil (∀ w, Calls Try.prog 86 #[.string ⟨s.toArray⟩, .int .i64 12] w fun e w' => e = .returned (.int .u32 (getB ((s.drop 12).take 4))) ∧ Below w.heap.size w w') := ⟨word_any s 12 (by simp) h hs⟩
  have W16 : Veil (∀ w, Calls Try.prog 86 #[.string ⟨s.toArray⟩, .int .i64 16] w fun e w' => e = .returned (.int .u32 (getB ((s.drop 16).take 4))) ∧ Below w.heap.size w w') := ⟨word_any s 16 (by simp) h hs⟩
  have h8 := getB_take8 s (by omega)
  have hl : ∀ l : List UInt8, l.length ≤ 4 → getB l < 4294967296 := fun l hl => by
    have := getB_pow l
    have h2 : 256 ^ l.length ≤ 256 ^ 4 := Nat.pow_le_pow_right (by decide) hl
    have h3 : (256 : Nat) ^ 4 = 4294967296 := rfl
    omega
  have k0 := hl ((s.drop 0).take 4) (by simp; omega)
  have k4 := hl ((s.drop 4).take 4) (by simp; omega)
  have HO : Veil _ := ⟨or64 _ _ k0 k4⟩
  rw [← h8] at HO
  unfold Mt.of Mt.v
  dsimp only
  clear h8 hl h hs
  revert W0 W4 W8 W12 W16 HO k0 k4
  generalize getB ((s.drop 0).take 4) = A
  generalize getB ((s.drop 4).take 4) = B
  generalize getB ((s.drop 8).take 4) = C
  generalize getB ((s.drop 12).take 4) = D
  generalize getB ((s.drop 16).take 4) = E
  generalize getB (s.take 8) = T
  intro W0 W4 W8 W12 W16 k0 k4 HO
  have a1 : (A : Int) * 4294967296 % 18446744073709551616 = (A : Int) * 4294967296 := by omega
  have a2 : (A : Int) % 18446744073709551616 = (A : Int) := by omega
  have b2 : (B : Int) % 18446744073709551616 = (B : Int) := by omega
  clear k0 k4
  go_enter Try.func64, Try.ntmps64
  go_wp2_with (first
    | (go_at_call 86; (with_reducible refine (W16.out _).mono ?_); rintro e w5 ⟨rfl, hb5⟩; have HB5 : Veil _ := ⟨blw_then (blw_then (blw_then (blw_then hb1 hb2) hb3) hb4) hb5⟩; have hp5 : Veil _ := ⟨(HB5.out.block w.heap.size hz0.out).trans hp0.out⟩; obtain ⟨⟨q0, q1, q2, q3⟩, f0, f1, f2, f3⟩ := pack4 hp5.out)
    | (go_at_call 86; (with_reducible refine (W12.out _).mono ?_); rintro e w4 ⟨rfl, hb4⟩)
    | (go_at_call 86; (with_reducible refine (W8.out _).mono ?_); rintro e w3 ⟨rfl, hb3⟩)
    | (go_at_call 86; (with_reducible refine (W4.out _).mono ?_); rintro e w2 ⟨rfl, hb2⟩)
    | (go_at_call 86; (with_reducible refine (W0.out _).mono ?_); rintro e w1 ⟨rfl, hb1⟩))
  exact bodyPost_ret (results_meta (g := w.heap.size) rfl rfl rfl (set4 hp5.out _ _ _ _)) rfl ⟨by rw [HO.out], turn4 (blw_then hb0.out HB5.out) (Nat.le_refl _) _ _ _ _⟩
end Go.Proofs.Ytghpcjkjhbafnaa

/- The walk of Decode of a meta. -/
namespace Go.Proofs.Ytghpcjkjhbafnaa
open Go Go.RowKit Sm
attribute [local go_sem] Oper.semAt_some

def Mt.zero : Mt := ⟨0, 0, 0, 0⟩
def isMt (s : List UInt8) : Bool := decide (s.length = 64) && (Mt.of s).right && decide ((Mt.of s).enc = s)
def mtOf (s : List UInt8) : Mt := if isMt s then Mt.of s else Mt.zero
def decM (s : List UInt8) : Value := .tuple #[(mtOf s).v, .int .i64 (if isMt s then 0 else 40)]

theorem menc_of (s : List UInt8) (h64 : s.length = 64) : ∃ (u : List UInt8) (c : Int), (∀ W, Calls Try.prog 30 #[(Mt.of s).v] W fun e w' => e = .returned (.tuple #[.string ⟨u.toArray⟩, .int .i64 c]) ∧ Below W.heap.size W w') ∧ (u = s ↔ isMt s = true) := by
  have he := fun W => mencode_any (Mt.of s) ⟨Mt.of_ok s⟩ W
  unfold Mt.encR at he
  cases hr : (Mt.of s).right
  · refine ⟨[], 40, fun W => ?_, ?_⟩
    · have := he W
      rw [hr] at this
      simpa using this
    · simp [isMt, hr]
      intro h
      rw [h] at h64
      simp at h64
  · refine ⟨(Mt.of s).enc, 0, fun W => ?_, ?_⟩
    · have := he W
      rw [hr] at this
      simpa using this
    · simp [isMt, hr, h64]
theorem set4_ne {w : World} {g k : Nat} {x : Option Obj} (h : w.heap[k]? = x) (hk : k ≠ g) (v0 v1 v2 v3 : Value) :
    ((((w.setCell ⟨g, 0, none⟩ v0).setCell ⟨g, 1, none⟩ v1).setCell ⟨g, 2, none⟩ v2).setCell ⟨g, 3, none⟩ v3).heap[k]? = x := by
  rw [Below.heap_setCell _ _ _ _ hk, Below.heap_setCell _ _ _ _ hk, Below.heap_setCell _ _ _ _ hk, Below.heap_setCell _ _ _ _ hk, h]

set_option maxRecDepth 20000 in
set_option maxHeartbeats 2000000 in
theorem mdecode_any (s : List UInt8) (hs : s.length ≤ 1000000) (w : World) : Calls Try.prog 34 #[.string ⟨s.toArray⟩] w fun e w' => e = .returned (decM s) ∧ Below w.heap.size w w' := by
  obtain ⟨R, hR⟩ : ∃ R, decM s = R := ⟨_, rfl⟩
  have HR : Veil _ := ⟨hR⟩
  rw [hR]
  clear hR
  by_cases h64 : s.length = 64
  · obtain ⟨u, c, hE, hU⟩ := menc_of s h64
    have hE' : Veil _ := ⟨hE⟩
    have HPu : Veil (R = if u = s then .tuple #[(Mt.of s).v, .int .i64 0] else .tuple #[.agg #[.int .u64 0, .int .u32 0, .int .u32 0, .int .u32 0], .int .i64 40]) := ⟨by
      rw [← HR.out]; unfold decM mtOf
      by_cases h : isMt s = true
      · rw [if_pos h, if_pos h, if_pos (hU.2 h)]
      · rw [if_neg h, if_neg h, if_neg (fun hh => h (hU.1 hh))]; rfl⟩
    have HT : Veil (∀ W, Calls Try.prog 64 #[.string ⟨s.toArray⟩] W fun e w' => e = .returned (Mt.of s).v ∧ Below W.heap.size W w') := ⟨told_any s (by omega) (by omega)⟩
    clear hE hU HR
    revert hE' HPu HT
    generalize Mt.of s = m
    obtain ⟨T, A, H, F⟩ := m
    intro hE' HPu HT
    unfold Mt.v at hE' HPu HT
    dsimp only at hE' HPu HT
    obtain ⟨V0, hV0⟩ : ∃ V0, (w.alloc (.cells #[.int .u64 0, .int .u32 0, .int .u32 0, .int .u32 0] 60)).alloc (.cells #[.int .u64 0, .int .u32 0, .int .u32 0, .int .u32 0] 60) = V0 := ⟨_, rfl⟩
    have hp0 : Veil (V0.heap[w.heap.size]? = some (.cells #[.int .u64 0, .int .u32 0, .int .u32 0, .int .u32 0] 60 (0, 0))) := ⟨by rw [← hV0, Below.heap_alloc _ _ _ (by simp)]; exact heap_alloc_new _ _⟩
    have hp1 : Veil (V0.heap[w.heap.size + 1]? = some (.cells #[.int .u64 0, .int .u32 0, .int .u32 0, .int .u32 0] 60 (0, 0))) := ⟨by rw [← hV0]; exact heap_alloc2_new _ _ _⟩
    have hz0 : Veil (w.heap.size + 1 < V0.heap.size) := ⟨by rw [← hV0]; simp⟩
    have hb0 : Veil (Below w.heap.size w V0) := ⟨by rw [← hV0]; exact below_al (below_al (Below.refl _ _) _) _⟩
    go_enter Try.func34, Try.ntmps34
    go_wp2
    refine wp_scope_ahead 0 rfl ?_
    by_cases hus : u = s
    · have hP := HPu.out
      rw [if_pos hus] at hP
      subst hP
      subst hus
      go_wp2_with (first
        | (go_at_call 30; refine (hE'.out _).mono ?_; rintro e w3 ⟨rfl, hb3⟩; have hp3 : Veil _ := ⟨(hb3.block (w.heap.size + 1) (by simpa using Nat.lt_of_lt_of_le hz0.out hb2.size)).trans (set4 hp2.out _ _ _ _)⟩; have hq3 : Veil _ := ⟨(hb3.block w.heap.size (by simpa using Nat.lt_of_lt_of_le (Nat.lt_of_succ_lt hz0.out) hb2.size)).trans (set4_ne ((hb2.block w.heap.size (Nat.lt_of_succ_lt hz0.out)).trans hp0.out) (Nat.ne_of_lt (Nat.lt_succ_self _)) _ _ _ _)⟩; obtain ⟨⟨r0, r1, r2, r3⟩, g0, g1, g2, g3⟩ := pack4 hp3.out; obtain ⟨⟨s0, s1, s2, s3⟩, k0, k1, k2, k3⟩ := pack4 hq3.out; have HB3 : Veil _ := ⟨blw_then (turn4 (blw_then hb0.out hb2) (Nat.le_succ _) (.int .u64 T) (.int .u32 A) (.int .u32 H) (.int .u32 F)) hb3⟩)
        | (go_at_call 64; refine (HT.out _).mono ?_; rintro e w2 ⟨rfl, hb2⟩; have hp2 : Veil _ := ⟨(hb2.block (w.heap.size + 1) hz0.out).trans hp1.out⟩; obtain ⟨⟨q0, q1, q2, q3⟩, f0, f1, f2, f3⟩ := pack4 hp2.out))
      refine jump_ret ?_
      exact bodyPost_ret (results_meta2 (g := w.heap.size) rfl rfl rfl (set4 hq3.out _ _ _ _)) rfl ⟨rfl, turn4 HB3.out (Nat.le_refl _) _ _ _ _⟩
    · have hP := HPu.out
      rw [if_neg hus] at hP
      subst hP
      have heq : (u == s) = false := by simpa using hus
      go_wp2_with (first
        | (go_at_call 30; refine (hE'.out _).mono ?_; rintro e w3 ⟨rfl, hb3⟩; have hq3 : Veil _ := ⟨(hb3.block w.heap.size (by simpa using Nat.lt_of_lt_of_le (Nat.lt_of_succ_lt hz0.out) hb2.size)).trans (set4_ne ((hb2.block w.heap.size (Nat.lt_of_succ_lt hz0.out)).trans hp0.out) (Nat.ne_of_lt (Nat.lt_succ_self _)) _ _ _ _)⟩; obtain ⟨⟨s0, s1, s2, s3⟩, k0, k1, k2, k3⟩ := pack4 hq3.out; have HB3 : Veil _ := ⟨blw_then (turn4 (blw_then hb0.out hb2) (Nat.le_succ _) (.int .u64 T) (.int .u32 A) (.int .u32 H) (.int .u32 F)) hb3⟩)
        | (go_at_call 64; refine (HT.out _).mono ?_; rintro e w2 ⟨rfl, hb2⟩; have hp2 : Veil _ := ⟨(hb2.block (w.heap.size + 1) hz0.out).trans hp1.out⟩; obtain ⟨⟨q0, q1, q2, q3⟩, f0, f1, f2, f3⟩ := pack4 hp2.out))
      go_step3
      refine jump_goto ?_
      go_wp2
      rw [Exit.noGoto_ret]
      exact bodyPost_ret (results_meta2 (g := w.heap.size) rfl rfl rfl (set4 hq3.out _ _ _ _)) rfl ⟨rfl, turn4 HB3.out (Nat.le_refl _) _ _ _ _⟩
  · have e0 : R = .tuple #[.agg #[.int .u64 0, .int .u32 0, .int .u32 0, .int .u32 0], .int .i64 40] := by rw [← HR.out]; unfold decM mtOf isMt; simp [h64]; rfl
    subst e0
    have h64' : ¬ (s.length : Int) = 64 := by omega
    clear HR h64
    go_enter Try.func34, Try.ntmps34
    go_wp2
    refine wp_scope_ahead 0 rfl ?_
    go_wp2
    go_step3
    refine jump_goto ?_
    go_wp2
    rw [Exit.noGoto_ret]
    exact bodyPost_ret (results_meta2 (g := w.heap.size) rfl rfl rfl (by rw [Below.heap_alloc _ _ _ (by simp)]; exact heap_alloc_new _ _)) rfl ⟨rfl, below_al (below_al (Below.refl _ _) _) _⟩
end Go.Proofs.Ytghpcjkjhbafnaa

/- The document's own metas: Right, Encode. -/
namespace Go.Proofs.Ytghpcjkjhbafnaa
open Go Go.RowKit Sm
attribute [local go_sem] Oper.semAt_some

set_option maxRecDepth 20000 in
set_option maxHeartbeats 4000000 in
theorem refmright_any (m : Mt) (w : World) : Calls Try.prog 33 #[m.v] w fun e w' => e = .returned (.bool m.right) ∧ Below w.heap.size w w' := by
  have HR : Veil _ := ⟨m.right_iff⟩
  obtain ⟨r, hr⟩ : ∃ r, m.right = r := ⟨_, rfl⟩
  rw [hr] at HR ⊢
  clear hr
  obtain ⟨t, a, h, f⟩ := m
  unfold Mt.v
  simp only at *
  obtain ⟨T, hT⟩ : ∃ T : Int, (t : Int) = T := ⟨_, rfl⟩
  obtain ⟨A, hA⟩ : ∃ A : Int, (a : Int) = A := ⟨_, rfl⟩
  obtain ⟨H, hH⟩ : ∃ H : Int, (h : Int) = H := ⟨_, rfl⟩
  obtain ⟨F, hF⟩ : ∃ F : Int, (f : Int) = F := ⟨_, rfl⟩
  have HV : Veil ((t : Int) = T ∧ (a : Int) = A ∧ (h : Int) = H ∧ (f : Int) = F) := ⟨hT, hA, hH, hF⟩
  rw [hT, hA, hH, hF]
  clear hT hA hH hF
  go_enter Try.func33, Try.ntmps33
  go_wp2
  all_goals
    go_ret
    refine ⟨?_, below_al (Below.refl _ _) _⟩
    refine (show Ending.returned (Value.bool _) = Ending.returned (Value.bool _) from congrArg (fun x => Ending.returned (Value.bool x)) ?_)
    obtain ⟨h1, h2, h3, h4⟩ := HV.out
    have hr := HR.out
    cases r <;> simp at hr ⊢ <;> omega
end Go.Proofs.Ytghpcjkjhbafnaa

/- The document's own metas: Encode. -/
namespace Go.Proofs.Ytghpcjkjhbafnaa
open Go Go.RowKit Sm
attribute [local go_sem] Oper.semAt_some

/-- A meta in its box. -/
def MBox (b : Nat) (t a h f : Int) (W : World) : Prop := W.cell? ⟨b, 0, none⟩ = some (.int .u64 t) ∧ W.cell? ⟨b, 1, none⟩ = some (.int .u32 a) ∧ W.cell? ⟨b, 2, none⟩ = some (.int .u32 h) ∧ W.cell? ⟨b, 3, none⟩ = some (.int .u32 f)
theorem MBox.new (w : World) (t a h f : Int) (T : TypeId) : MBox w.heap.size t a h f (w.alloc (.cells #[.int .u64 t, .int .u32 a, .int .u32 h, .int .u32 f] T)) := by
  have h := heap_alloc_new w (.cells [.int .u64 t, .int .u32 a, .int .u32 h, .int .u32 f].toArray T)
  exact ⟨cell_whole h 0, cell_whole h 1, cell_whole h 2, cell_whole h 3⟩
theorem MBox.below {b : Nat} {t a h f : Int} {W W' : World} (k : MBox b t a h f W) (hb : Below W.heap.size W W') (hlt : b < W.heap.size) : MBox b t a h f W' :=
  ⟨(hb.cell hlt).trans k.1, (hb.cell hlt).trans k.2.1, (hb.cell hlt).trans k.2.2.1, (hb.cell hlt).trans k.2.2.2⟩

/-- Bytes 0 at a block. -/
def ZAt (Z : Array Value) (W : World) (g : Nat) : Prop := g < W.heap.size ∧ W.heap[g]? = some (.cells Z 5 (0, 0))
theorem zat_new {Z : Array Value} {X W : World} (h : Below (X.alloc (.cells Z 5)).heap.size (X.alloc (.cells Z 5)) W) : ZAt Z W X.heap.size := by
  have h1 : X.heap.size < (X.alloc (.cells Z 5)).heap.size := by simp
  exact ⟨Nat.lt_of_lt_of_le h1 h.size, (h.block _ h1).trans (heap_alloc_new _ _)⟩
theorem zat_drew {Z : Array Value} {X W : World} (h : Below (X.alloc (.cells Z 5)).drew.heap.size (X.alloc (.cells Z 5)).drew W) : ZAt Z W X.heap.size := by
  have h1 : X.heap.size < (X.alloc (.cells Z 5)).heap.size := by simp
  exact ⟨Nat.lt_of_lt_of_le h1 h.size, (h.block _ h1).trans (heap_alloc_new _ _)⟩
theorem zat_next {Z : Array Value} {X W : World} {g : Nat} (h : ZAt Z X g) (k : Below X.heap.size X W) : ZAt Z W g := ⟨Nat.lt_of_lt_of_le h.1 k.size, (k.block _ h.1).trans h.2⟩
set_option maxRecDepth 20000 in
theorem conv_zat (m : Nat) {W : World} {g : Nat} (h : ZAt (List.replicate m (Value.int .u8 0)).toArray W g) : (convert 98 9 (.slice (some ⟨g, 0, none⟩) m m)).run Try.prog W = .ok (.string ⟨(List.replicate m (0 : UInt8)).toArray⟩) W := by
  have hu : List.replicate m (Value.int .u8 0) = u8s (List.replicate m 0) := by simp [u8s, u8v]
  have := run_convert_u8s (P := Try.prog) W 98 9 5 Try.underlying98 Try.underlying5 Try.underlying9 g 0 m (List.replicate m 0) (by
    have := rangeAt_whole (w := W) (b := g) (cur := u8s (List.replicate m 0)) (by rw [← hu]; exact h.2) 0 (u8s (List.replicate m 0)).length
    rwa [List.drop_zero, List.take_length] at this)
  rw [List.length_replicate] at this
  exact this

set_option maxRecDepth 20000 in
set_option maxHeartbeats 2000000 in
theorem refmencode_any (m : Mt) (hm : Veil m.Ok) (w : World) : Calls Try.prog 31 #[m.v] w fun e w' => e = .returned m.encR ∧ Below w.heap.size w w' := by
  have hR : Veil (∀ w, Calls Try.prog 33 #[m.v] w fun e w' => e = .returned (.bool m.right) ∧ Below w.heap.size w w') := ⟨refmright_any m⟩
  unfold Mt.encR
  cases hr : m.right
  · rw [hr] at hR
    clear hr hm
    obtain ⟨t, a, h, f⟩ := m
    unfold Mt.v at hR ⊢
    simp only at hR ⊢
    go_enter Try.func31, Try.ntmps31
    go_wp2_with (go_at_call 33; refine (hR.out _).mono ?_; rintro e w2 ⟨rfl, hb2⟩)
    go_ret2
    exact ⟨rfl, (below_al (Below.refl _ _) _).trans (hb2.mono (by simp))⟩
  · rw [hr] at hR
    have m1 : IntKind.u64.wrap (m.root : Int) = m.root := by have := hm.out.root; rw [IntKind.wrap_u64]; omega
    have m2 : IntKind.u64.wrap (m.high : Int) = m.high := by have := hm.out.high; rw [IntKind.wrap_u64]; omega
    have m3 : IntKind.u64.wrap (m.free : Int) = m.free := by have := hm.out.free; rw [IntKind.wrap_u64]; omega
    obtain ⟨zs, hzs⟩ : ∃ zs : List UInt8, List.replicate 36 0 = zs := ⟨_, rfl⟩
    have hE : Veil (m.enc = putB m.tx 8 ++ putB m.root 4 ++ putB m.high 4 ++ putB m.free 4 ++ zs ++ putB m.tx 8) := ⟨by rw [← hzs]; rfl⟩
    clear hr hm
    obtain ⟨t, a, h, f⟩ := m
    rw [hE.out]
    dsimp only at m1 m2 m3
    unfold Mt.v at hR ⊢
    simp only [if_true] at hR ⊢
    obtain ⟨WB, hWB⟩ : ∃ WB, w.alloc (.cells #[.int .u64 t, .int .u32 a, .int .u32 h, .int .u32 f] 60) = WB := ⟨_, rfl⟩
    have hbox : Veil (MBox w.heap.size t a h f WB) := ⟨by rw [← hWB]; exact MBox.new _ _ _ _ _ _⟩
    have hlw : Veil (w.heap.size < WB.heap.size) := ⟨by rw [← hWB]; simp⟩
    have hwB : Veil (Below w.heap.size w WB) := ⟨by rw [← hWB]; exact below_al (Below.refl _ _) _⟩
    have ST : Veil (∀ W, Below WB.heap.size WB W → MBox w.heap.size t a h f W) := ⟨fun W h => hbox.out.below h hlw.out⟩
    obtain ⟨x0, x1, x2, x3⟩ := hbox.out
    obtain ⟨n, hn⟩ : ∃ n : Nat, n = 36 := ⟨_, rfl⟩
    have hMK := make_zeros n (by omega)
    have hCV := conv_zeros n
    have hCN : ∀ (W : World) (g : Nat), ZAt (List.replicate n (Value.int .u8 0)).toArray W g → _ := fun W g h => conv_zat n h
    have hzl : zs.length = 36 := by rw [← hzs]; simp
    obtain ⟨Z, hZ⟩ : ∃ Z : Array Value, (List.replicate n (Value.int .u8 0)).toArray = Z := ⟨_, rfl⟩
    rw [hZ] at hMK hCV hCN
    rw [← hn] at hzs
    rw [hzs] at hCV hCN
    have HCN : Veil _ := ⟨hCN⟩
    have hCD := fun (W : World) => hCN ((W.alloc (.cells Z 5)).drew) W.heap.size ⟨by simp, heap_alloc_new _ _⟩
    clear hCN
    rw [show (n : Int) = 36 by omega] at hMK
    clear hn
    clear hzs hZ hE
    go_enter Try.func31, Try.ntmps31
    go_wp2_with (first
      | (go_at_call 33; refine (hR.out _).mono ?_; rintro e w2 ⟨rfl, hb2⟩; have hb2' : Below WB.heap.size WB w2 := hb2; obtain ⟨y0, y1, y2, y3⟩ := ST.out w2 hb2')
      | (go_at_call 62; refine (put_any _ _ (by decide) _).mono ?_; rintro e w3 ⟨rfl, hb3⟩))
    have HB3 : Veil _ := ⟨below_then hb2' hb3⟩
    have HWB := Lib.hid hWB
    clear hWB x0 x1 x2 x3 y0 y1 y2 y3 hb2 hb2' hb3
    have hb0 : Below WB.heap.size WB w3.drew := HB3.out.drew
    go_region_held (fun W => W.cell? ⟨w.heap.size, 0, none⟩ = some (.int .u64 t) ∧ W.cell? ⟨w.heap.size, 1, none⟩ = some (.int .u32 a) ∧ W.cell? ⟨w.heap.size, 2, none⟩ = some (.int .u32 h) ∧ W.cell? ⟨w.heap.size, 3, none⟩ = some (.int .u32 f) ∧ Below WB.heap.size WB W) (refine ⟨(ST.out _ ?_).1, (ST.out _ ?_).2.1, (ST.out _ ?_).2.2.1, (ST.out _ ?_).2.2.2, ?_⟩ <;> (repeat (first | assumption | exact HB3.out | exact HB3.out.drew | exact Below.refl _ _ | refine below_al ?_ _ | refine Below.drew ?_ | refine below_then ?_ (by assumption)))) ((go_at_call 62; refine (put_any _ _ (by decide) _).mono ?_; rintro e w4 ⟨rfl, hb4⟩; first | (have HZ := zat_drew (Z := Z) hb4; have HCr := HCN.out _ _ HZ) | (have HZ := zat_new (Z := Z) hb4; have HCr := HCN.out _ _ HZ) | (have HZ := zat_next (Z := Z) (by assumption) hb4; have HCr := HCN.out _ _ HZ) | skip))
    all_goals
      clear hMK hCV hCD
      go_wp2
      go_ret2
      refine ⟨congrArg (fun x => Ending.returned (Value.tuple #[Value.string x, .int .i64 0])) (by rw [str_append, str_append, str_append, str_append, str_append]), hwB.out.trans (Below.mono ?_ hwB.out.size)⟩
      repeat (first | assumption | exact last5 (by assumption) | exact HB3.out | exact HB3.out.drew | exact Below.refl _ _ | refine below_al ?_ _ | refine Below.drew ?_ | refine below_then ?_ (by assumption))
end Go.Proofs.Ytghpcjkjhbafnaa
