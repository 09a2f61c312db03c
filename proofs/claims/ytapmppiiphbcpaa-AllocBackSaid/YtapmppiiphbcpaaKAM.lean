/- The walks of words, word, told of package alloc. -/
import Derived.Test.YtapmppiiphbcpaaKA9
import Derived.Test.YtapmppiiphbcpaaKM4
import Derived.Test.YtapmppiiphbcpaaKP5
namespace Go.Proofs.Ytapmppiiphbcpaa
open Go Go.RowKit Sm
attribute [local go_sem] Oper.semAt_some

set_option maxRecDepth 20000 in
set_option maxHeartbeats 1000000 in
theorem awords_any (b cap : Nat) (l : List Nat) (w : World) (hc : U32s w b l) (hb : b < w.heap.size) (hl : l.length ≤ 10) :
    Calls Try.prog 67 #[.slice (some ⟨b, 0, none⟩) l.length cap] w fun e w' => e = .returned (.string ⟨(wrd l).toArray⟩) ∧ Below w.heap.size w w' := by
  go_enter Try.func67, Try.ntmps67
  have HC := Lib.hid hc
  clear hc
  go_wp2
  go_loopw [3, 8] (fun s i wr => ∃ k : Nat, k ≤ l.length ∧ i = .int .i64 k ∧ Below w.heap.size w wr ∧ Veil (OwnB wr w.heap.size s (wrd (l.take k)))) (fun _ i _ => l.length - (intOf i).toNat)
  case atStart => exact ⟨0, Nat.zero_le _, rfl, Below.refl _ _, ⟨World.ownsRow_nil _ _ _ _⟩⟩
  case round =>
    obtain ⟨k, hk, rfl, hB, hA⟩ := hrel
    by_cases hlt : k < l.length
    · have h1 := HC.out k hlt
      have hck : wr.cell? ⟨b, k, none⟩ = _ := (hB.cell hb).trans h1
      clear h1
      have HB := Lib.hid hB
      have ht : Veil _ := ⟨wrd_take l k hlt⟩
      clear hB
      revert hck ht
      generalize l.getD k 0 = x
      intro hck ht
      have HL : Veil ((wrd (l.take k)).length ≤ 40) := ⟨by rw [wrd_len, List.length_take]; omega⟩
      obtain ⟨L, hL⟩ : ∃ L, wrd (l.take k) = L := ⟨_, rfl⟩
      rw [hL] at hA ht HL
      clear hL
      go_wp2_with (refine wpList_append_u8s rfl (.tmp 12) (.tmp 24) rfl w.heap.size _ L (putB x 4) rfl (hA.out.alloc _) ⟨wr.heap.size, 0, none⟩ 4 4 (putB_length _ _) rfl (new_bytes wr _ (put4_cells x) _) (by decide) (by have := HL.out; omega) (by have := HB.out.size; simp; omega) ?_; intro g cap w9 hown hgrow hlies hglt)
      refine ⟨⟨k + 1, by omega, by go_num, below_grown HB.out hA.out hgrow, ⟨by rw [ht.out]; exact hown⟩⟩, ?_⟩
      simp only [intOf]; omega
    · obtain rfl : k = l.length := by omega
      rw [List.take_length] at hA
      have hconv := conv_own hA.out
      have HB := Lib.hid hB
      clear hB
      go_wp2
      go_ret
      exact ⟨rfl, HB.out⟩

set_option maxRecDepth 20000 in
set_option maxHeartbeats 1000000 in
theorem aword_any (s : List UInt8) (i : Nat) (hi : i = 0 ∨ i = 4 ∨ i = 8) (h : i + 4 ≤ s.length) (_hs : s.length ≤ 1000) (w : World) : Calls Try.prog 70 #[.string ⟨s.toArray⟩, .int .i64 i] w fun e w' => e = .returned (.int .u32 (getB ((s.drop i).take 4))) ∧ Below w.heap.size w w' := by
  rw [take_four s i (by omega), getB_four]
  have h0 := index_at s i (by omega) i rfl
  have h1 := index_at s (i + 1) (by omega) ((i : Int) + 1) (by omega)
  have h2 := index_at s (i + 2) (by omega) ((i : Int) + 2) (by omega)
  have h3 := index_at s (i + 3) (by omega) ((i : Int) + 3) (by omega)
  generalize s.getD i 0 = a at *
  generalize s.getD (i + 1) 0 = b at *
  generalize s.getD (i + 2) 0 = c at *
  generalize s.getD (i + 3) 0 = d at *
  have HO : Veil _ := ⟨or4 a b c d⟩
  clear h _hs
  rcases hi with rfl | rfl | rfl
  all_goals
    simp only [Int.reduceAdd, Int.cast_ofNat_Int] at h0 h1 h2 h3 ⊢
    go_enter Try.func70, Try.ntmps70
    go_wp2
    go_quiet (fail)
    go_wp2
    go_ret
    exact ⟨congrArg (fun x => Ending.returned (Value.int .u32 x)) HO.out, blw_drewN nq (Below.refl _ w)⟩

/-- The spare that twelve bytes tell of. -/
def Sp.of (s : List UInt8) : Sp := ⟨getB (s.take 4), getB ((s.drop 4).take 8)⟩
theorem results_spare1 {fn : Func} {p : Tmp} {tmps : Array Value} {w : World} {g : Nat} {x0 x1 : Value} (h : fn.results = #[.cell p 80]) (hp : tmps.getD p undef = .pointer (some ⟨g, 0, none⟩)) (hg : w.heap[g]? = some (.cells #[x0, x1] 80 (0, 0))) :
    (results fn tmps).run Try.prog w = .ok (.agg #[x0, x1]) w := by
  have hp' : tmps[p]?.getD undef = .pointer (some ⟨g, 0, none⟩) := by simpa using hp
  have c0 : w.cell? ⟨g, 0, none⟩ = some x0 := (pack2 hg).1.1
  have c1 : w.cell? ⟨g, 1, none⟩ = some x1 := (pack2 hg).1.2
  simp [results, h, go_sem, hp', c0, c1]

set_option maxRecDepth 20000 in
set_option maxHeartbeats 1000000 in
theorem atold_any (s : List UInt8) (h : 12 ≤ s.length) (hs : s.length ≤ 1000) (w : World) : Calls Try.prog 69 #[.string ⟨s.toArray⟩] w fun e w' => e = .returned (Sp.of s).v ∧ Below w.heap.size w w' := by
  have W0 : Veil (∀ w, Calls Try.prog 70 #[.string ⟨s.toArray⟩, .int .i64 0] w fun e w' => e = .returned (.int .u32 (getB (s.take 4))) ∧ Below w.heap.size w w') := ⟨fun w => by have := aword_any s 0 (by simp) (by omega) hs w; rwa [List.drop_zero] at this⟩
  have W4 : Veil (∀ w, Calls Try.prog 70 #[.string ⟨s.toArray⟩, .int .i64 4] w fun e w' => e = .returned (.int .u32 (getB ((s.drop 4).take 4))) ∧ Below w.heap.size w w') := ⟨aword_any s 4 (by simp) (by omega) hs⟩
  have W8 : Veil (∀ w, Calls Try.prog 70 #[.string ⟨s.toArray⟩, .int .i64 8] w fun e w' => e = .returned (.int .u32 (getB ((s.drop 8).take 4))) ∧ Below w.heap.size w w') := ⟨aword_any s 8 (by simp) (by omega) hs⟩
  have e8 : getB ((s.drop 4).take 8) = getB ((s.drop 4).take 4) * 4294967296 + getB ((s.drop 8).take 4) := by
    have := getB_take8 (s.drop 4) (by simp; omega)
    rw [List.drop_zero, List.drop_drop] at this
    exact this
  have l1 : getB ((s.drop 4).take 4) < 4294967296 := by have := getB_pow ((s.drop 4).take 4); have h2 : ((s.drop 4).take 4).length = 4 := by simp; omega
                                                        rw [h2] at this; exact this
  have l2 : getB ((s.drop 8).take 4) < 4294967296 := by have := getB_pow ((s.drop 8).take 4); have h2 : ((s.drop 8).take 4).length = 4 := by simp; omega
                                                        rw [h2] at this; exact this
  unfold Sp.of Sp.v
  dsimp only
  rw [e8]
  clear e8 h hs
  revert W0 W4 W8 l1 l2
  generalize getB (s.take 4) = x
  generalize getB ((s.drop 4).take 4) = y
  generalize getB ((s.drop 8).take 4) = z
  intro W0 W4 W8 l1 l2
  have HO : Veil _ := ⟨or64 y z l1 l2⟩
  have c1 : IntKind.u64.wrap (y : Int) = (y : Int) := by simp [IntKind.wrap, IntKind.bits, IntKind.signed]; omega
  have c2 : IntKind.u64.wrap (z : Int) = (z : Int) := by simp [IntKind.wrap, IntKind.bits, IntKind.signed]; omega
  have c3 : IntKind.u64.wrap ((y : Int) * 4294967296) = (y : Int) * 4294967296 := by simp [IntKind.wrap, IntKind.bits, IntKind.signed]; omega
  clear l1 l2
  obtain ⟨V0, hV0⟩ : ∃ V0, w.alloc (.cells #[.int .u32 0, .int .u64 0] 80) = V0 := ⟨_, rfl⟩
  have hp0 : Veil (V0.heap[w.heap.size]? = some (.cells #[.int .u32 0, .int .u64 0] 80 (0, 0))) := ⟨by rw [← hV0]; exact heap_alloc_new _ _⟩
  have hb0 : Veil (Below w.heap.size w V0) := ⟨by rw [← hV0]; exact below_al (Below.refl _ _) _⟩
  go_enter Try.func69, Try.ntmps69
  go_wp2_with (first
    | (go_at_call 70; (with_reducible refine (W8.out _).mono ?_); rintro e w3 ⟨rfl, hb3⟩; have HB3 : Veil _ := ⟨(HB2.out.trans (hb3.mono HB2.out.size))⟩; obtain ⟨⟨q0, q1⟩, f0, f1⟩ := pack2 ((hb3.block w.heap.size (lt_of_heap HP2.out)).trans HP2.out); have HP3 : Veil _ := ⟨(hb3.block w.heap.size (lt_of_heap HP2.out)).trans HP2.out⟩; clear hb3)
    | (go_at_call 70; (with_reducible refine (W4.out _).mono ?_); rintro e w2 ⟨rfl, hb2⟩; have HB2 : Veil _ := ⟨(HB1.out.trans (hb2.mono HB1.out.size))⟩; have HP2 : Veil _ := ⟨(hb2.block w.heap.size (lt_of_heap HP1.out)).trans HP1.out⟩; clear hb2)
    | (go_at_call 70; (with_reducible refine (W0.out _).mono ?_); rintro e w1 ⟨rfl, hb1⟩; have HB1 : Veil _ := ⟨(hb0.out.trans (hb1.mono hb0.out.size))⟩; have HP1 : Veil _ := ⟨(hb1.block w.heap.size (lt_of_heap hp0.out)).trans hp0.out⟩; clear hb1))
  refine bodyPost_ret (results_spare1 (g := w.heap.size) rfl rfl (heap_setCell_at (heap_setCell_at HP3.out 0 (.int .u32 x)) 1 _)) rfl ⟨by rw [HO.out], (HB3.out.setCell (Nat.le_refl _) _).setCell (Nat.le_refl _) _⟩
end Go.Proofs.Ytapmppiiphbcpaa
