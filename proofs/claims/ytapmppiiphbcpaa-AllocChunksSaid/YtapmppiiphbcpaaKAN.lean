/- The walk of Chunk. -/
import Derived.Test.YtapmppiiphbcpaaKAM
import Derived.Test.YtapmppiiphbcpaaKM4
import Derived.Test.YtapmppiiphbcpaaKF1
namespace Go.Proofs.Ytapmppiiphbcpaa
open Go Go.RowKit Sm
attribute [local go_sem] Oper.semAt_some

/-- A chunk's bytes. -/
def spB (s : Sp) : List UInt8 := putB s.page 4 ++ putB s.tx 8
def chB (next : Nat) (L : List Sp) : List UInt8 := putB next 4 ++ putB L.length 1 ++ L.flatMap spB
def chR (next : Nat) (L : List Sp) : Value := if L.length ≤ 19 then .tuple #[.string ⟨(chB next L).toArray⟩, .int .i64 0] else .tuple #[.string ⟨#[]⟩, .int .i64 50]
theorem spB_len (s : Sp) : (spB s).length = 12 := by simp [spB]
theorem spB_words (s : Sp) (h : s.tx < 18446744073709551616) : spB s = wrd [s.page, s.tx / 4294967296, s.tx % 4294967296] := by
  simp [spB, wrd, put8 s.tx h]
theorem flat_len (L : List Sp) : (L.flatMap spB).length = 12 * L.length := by
  induction L with
  | nil => rfl
  | cons s r ih => rw [List.flatMap_cons, List.length_append, ih, spB_len, List.length_cons]; omega
theorem flat_take (L : List Sp) (k : Nat) (h : k < L.length) : (L.take (k + 1)).flatMap spB = (L.take k).flatMap spB ++ spB (L.getD k Sp.zero) := by
  rw [take_next L k h, List.flatMap_append]; simp
/-- One byte in a block. -/
def At1 (x : Int) (W : World) (g : Nat) : Prop := W.heap[g]? = some (.cells #[.int .u8 x] 5 (0, 0))
theorem conv_at1 (n : Nat) (hn : n < 256) {W : World} {g : Nat} (h : At1 n W g) : (convert 104 9 (.slice (some ⟨g, 0, none⟩) 1 1)).run Try.prog W = .ok (.string ⟨(putB n 1).toArray⟩) W := by
  have e : putB n 1 = [UInt8.ofNat n] := by simp [putB, byteAt, Nat.toUInt8, List.range_succ]
  have hu : [Value.int .u8 (n : Int)] = u8s (putB n 1) := by
    rw [e]; simp [u8s, u8v, UInt8.toNat_ofNat']; omega
  have := run_convert_u8s (P := Try.prog) W 104 9 5 Try.underlying104 Try.underlying5 Try.underlying9 g 0 1 (putB n 1) (by
    have h2 : W.heap[g]? = some (.cells (u8s (putB n 1)).toArray 5 (0, 0)) := by rw [← hu]; exact h
    have := rangeAt_whole h2 0 (u8s (putB n 1)).length
    rwa [List.drop_zero, List.take_length] at this)
  rw [putB_length] at this
  exact this

theorem results_two {P : Program} {fn : Func} {p q : Tmp} {tmps : Array Value} {w : World} {x y : Value} (h : fn.results = #[.tmp p, .tmp q]) (hp : tmps.getD p undef = x) (hq : tmps.getD q undef = y) : (results fn tmps).run P w = .ok (.tuple #[x, y]) w := by
  have hp' : tmps[p]?.getD undef = x := by simpa using hp
  have hq' : tmps[q]?.getD undef = y := by simpa using hq
  simp [results, h, go_sem, hp', hq']
/-- The bytes of the first spares, with what stands ahead. -/
def chAt (next : Nat) (L : List Sp) (k : Nat) : List UInt8 := putB next 4 ++ putB L.length 1 ++ (L.take k).flatMap spB
/-- Between two rounds: the box of the bytes, that of the list. -/
structure ChI (w : World) (g B2 : Nat) (p : Option Addr) (L : List Sp) (c : Nat) (acc : List UInt8) (A : World) : Prop where
  s : A.heap[g]? = some (.cells #[.string ⟨acc.toArray⟩] 9 (0, 0))
  bx : A.heap[B2]? = some (.cells #[.slice p L.length c] 57 (0, 0))
  l : Sps A p L
  t : Turned (fun _ => False) w A
section
variable {w : World} {g B2 : Nat} {p : Option Addr} {L : List Sp} {c : Nat} {acc : List UInt8} {A A' : World}
theorem ChI.booked {B : Nat} (h : ChI w g B2 p L c acc A) (hb : Booked B A A') (hB : w.heap.size ≤ B) : ChI w g B2 p L c acc A' := ⟨hb.heap h.s, hb.heap h.bx, h.l.booked hb, hb.turned h.t hB⟩
theorem ChI.new (h : ChI w g B2 p L c acc A) (hb : Turned (fun _ => False) A A') : ChI w g B2 p L c acc A' := ⟨hb.heap h.s (fun h => h), hb.heap h.bx (fun h => h), h.l.turned hb (fun _ _ h => h), h.t.trans hb⟩
theorem ChI.more (h : ChI w g B2 p L c acc A) (hp : ∀ a, p = some a → a.block < w.heap.size) (h1 : w.heap.size ≤ g) (h2 : g < B2) (acc' : List UInt8) : ChI w g B2 p L c acc' (A.setCell ⟨g, 0, none⟩ (.string ⟨acc'.toArray⟩)) :=
  have ht : Turned (· = g) A (A.setCell ⟨g, 0, none⟩ (.string ⟨acc'.toArray⟩)) := (Turned.refl (· = g) A).setCell (p := ⟨g, 0, none⟩) rfl _
  ⟨heap_setCell_at h.s 0 _, ht.heap h.bx (by omega), h.l.turned ht (fun a ha e => by have := hp a ha; omega), h.t.then ht (fun k hk e => by omega)⟩
end

set_option maxRecDepth 20000 in
set_option maxHeartbeats 2000000 in
theorem chunk_any {w : World} {p : Option Addr} {L : List Sp} (h : Sps w p L) (hp : ∀ a, p = some a → a.block < w.heap.size) (next c : Nat) (hok : Veil (∀ s ∈ L, s.Ok)) (hl : L.length ≤ 30) :
    Calls Try.prog 38 #[.int .u32 next, .slice p L.length c] w fun e w' => e = .returned (chR next L) ∧ Below w.heap.size w w' := by
  unfold chR
  by_cases h19 : L.length ≤ 19
  · rw [if_pos h19]
    refine calls_of_wp_marks Try.func38 rfl ?_
    simp only [Try.ntmps38, List.size_toArray, List.length_cons, List.length_nil, Nat.reduceAdd, Nat.reduceSub, Array.replicate_succ, Array.replicate_zero, List.push_toArray, List.append_toArray, List.nil_append, List.cons_append]
    have HH := Lib.hid h
    have HL : Veil (L.length ≤ 19) := ⟨h19⟩
    have hcv : IntKind.u8.wrap (L.length : Int) = (L.length : Int) := by simp [IntKind.wrap, IntKind.bits, IntKind.signed]; omega
    have hcv2 : (L.length : Int) % 256 = (L.length : Int) := by omega
    clear h hl
    have HW : Veil (∀ W g, W.heap[g]? = some (.cells #[.int .u32 next] 46 (0, 0)) → Calls Try.prog 67 #[.slice (some ⟨g, 0, none⟩) 1 1] W fun e w' => e = .returned (.string ⟨(putB next 4).toArray⟩) ∧ Below W.heap.size W w') := ⟨fun W g hg => by
      have := awords_any g 1 [next] W (fun i hi => by
        have h0 : i = 0 := by simp at hi; omega
        subst h0
        exact cell_row1 hg) (lt_of_heap hg) (by simp)
      simpa [wrd] using this⟩
    have HC : Veil (∀ W g, At1 L.length W g → (convert 104 9 (.slice (some ⟨g, 0, none⟩) 1 1)).run Try.prog W = .ok (.string ⟨(putB L.length 1).toArray⟩) W) := ⟨fun W g h => conv_at1 L.length (by have := HL.out; omega) h⟩
    go_wp2
    refine region_new [.is (.int .u32 next), .row w.heap.size (fun g => .slice (some ⟨g, 0, none⟩) 1 1) #[.int .u32 next] 46, .is (.string ⟨(putB next 4).toArray⟩), .is (.slice p L.length c), .is (.int .i64 L.length), .is (.int .u8 L.length),
      .row w.heap.size (fun g => .slice (some ⟨g, 0, none⟩) 1 1) #[.int .u8 L.length] 5, .is (.string ⟨(putB L.length 1).toArray⟩), .is (.string ⟨(putB next 4 ++ putB L.length 1).toArray⟩), .row w.heap.size (fun g => .pointer (some ⟨g, 0, none⟩)) #[.string ⟨#[]⟩] 9]
      [[], [(0, 12)], [(1, 13)], [], [(3, 15)], [(4, 16)], [(5, 17)], [(6, 18)], [(2, 14), (7, 19)], []] [[], [0], [1], [], [3], [4], [5], [6], [2, 7], []]
      [(0, 12), (1, 13), (2, 14), (3, 15), (4, 16), (5, 17), (6, 18), (7, 19), (8, 20), (9, 6)] rfl (by kernel_rfl) ⟨?_, ?_, ?_, ?_, ?_, ?_, ?_, ?_, ?_, ?_, trivial⟩ ?_
    · intro vals W hB _
      dsimp only [putsL, slotOf]
      go_wp2
      exact ⟨rfl, Below.refl _ _, rfl⟩
    · intro vals W hB ⟨h0, _⟩
      have h0 : vals 0 = _ := h0
      dsimp only [putsL, slotOf]
      rw [h0]
      go_wp2
      exact ⟨rfl, below_al (Below.refl _ _) _, _, hB.size, rfl, heap_alloc_new _ _⟩
    · intro vals W hB ⟨⟨g, _, h1, hg⟩, _⟩
      have h1 : vals 1 = _ := h1
      dsimp only [putsL, slotOf]
      rw [h1]
      go_wp2_with (go_at_call 67; refine (HW.out _ _ hg).mono ?_; rintro e w4 ⟨rfl, hb4⟩)
      exact ⟨rfl, hb4, rfl⟩
    · intro vals W hB _
      dsimp only [putsL, slotOf]
      go_wp2
      exact ⟨rfl, Below.refl _ _, rfl⟩
    · intro vals W hB ⟨h0, _⟩
      have h0 : vals 3 = _ := h0
      dsimp only [putsL, slotOf]
      rw [h0]
      go_wp2
      exact ⟨rfl, Below.refl _ _, rfl⟩
    · intro vals W hB ⟨h0, _⟩
      have h0 : vals 4 = _ := h0
      dsimp only [putsL, slotOf]
      rw [h0]
      go_wp2
      exact ⟨rfl, Below.refl _ _, rfl⟩
    · intro vals W hB ⟨h0, _⟩
      have h0 : vals 5 = _ := h0
      dsimp only [putsL, slotOf]
      rw [h0]
      go_wp2
      exact ⟨rfl, below_al (Below.refl _ _) _, _, hB.size, rfl, heap_alloc_new _ _⟩
    · intro vals W hB ⟨⟨g, _, h1, hg⟩, _⟩
      have h1 : vals 6 = _ := h1
      have hcv := HC.out W g hg
      dsimp only [putsL, slotOf]
      rw [h1]
      go_wp2
      exact ⟨rfl, Below.refl _ _, rfl⟩
    · intro vals W hB ⟨h0, h1, _⟩
      have h0 : vals 2 = _ := h0
      have h1 : vals 7 = _ := h1
      dsimp only [putsL, slotOf]
      rw [h0, h1]
      go_wp2
      exact ⟨rfl, Below.refl _ _, congrArg Value.string (str_add _ _)⟩
    · intro vals W hB _
      dsimp only [putsL, slotOf]
      go_wp2
      exact ⟨rfl, below_al (Below.refl _ _) _, _, hB.size, rfl, heap_alloc_new _ _⟩
    intro vals W hB ⟨h0, h1, h2, h3, h4, h5, h6, h7, h8, h9, _⟩
    obtain ⟨g1, hg1, h1, -⟩ := h1
    obtain ⟨g6, hg6, h6, -⟩ := h6
    obtain ⟨g, hg, h9, hgc⟩ := h9
    have h0 : vals 0 = _ := h0
    have h1 : vals 1 = _ := h1
    have h2 : vals 2 = _ := h2
    have h3 : vals 3 = _ := h3
    have h4 : vals 4 = _ := h4
    have h5 : vals 5 = _ := h5
    have h6 : vals 6 = _ := h6
    have h7 : vals 7 = _ := h7
    have h8 : vals 8 = _ := h8
    have h9 : vals 9 = _ := h9
    dsimp only [putsL]
    rw [h0, h1, h2, h3, h4, h5, h6, h7, h8, h9]
    have c9 := cell_row1 hgc
    have f9 : W.frozen? ⟨g, 0, none⟩ = false := frozen_whole hgc _
    have HG : Veil _ := ⟨hgc⟩
    have HB : Veil _ := ⟨hB⟩
    have HGW : Veil _ := ⟨hg⟩
    clear h0 h1 h2 h3 h4 h5 h6 h7 h8 h9 hg1 hg6 hgc hB hg
    go_wp2_with (go_at_call 66; refine (aeach_any _ _ _ _).mono ?_; rintro e w1 ⟨rfl, hw1⟩)
    obtain ⟨B2, e2⟩ : ∃ B2, W.heap.size = B2 := ⟨_, rfl⟩
    have hgB : g < B2 := by rw [← e2]; exact lt_of_heap HG.out
    have hI : ChI w g B2 p L c (chAt next L 0) w1 := by
      rw [← hw1]
      have hT : Turned (fun _ => False) w W := Turned.new HB.out
      have hTg : Turned (· = g) W (W.setCell ⟨g, 0, none⟩ (.string ⟨(putB next 4 ++ putB L.length 1).toArray⟩)) := (Turned.refl (· = g) W).setCell (p := ⟨g, 0, none⟩) rfl _
      have hT2 := hT.then hTg (fun k hk e => by have := HGW.out; omega)
      refine ⟨?_, ?_, HH.out.turned (hT2.alloc _) (fun _ _ h => h), hT2.alloc _⟩
      · rw [Below.heap_alloc _ _ _ (by simp; omega)]
        have := heap_setCell_at HG.out 0 (.string ⟨(putB next 4 ++ putB L.length 1).toArray⟩)
        simpa [chAt] using this
      · rw [← e2]
        have := heap_alloc_new (W.setCell ⟨g, 0, none⟩ (.string ⟨(putB next 4 ++ putB L.length 1).toArray⟩)) (.cells #[.slice p L.length c] 57)
        simpa using this
    have hz1 : w1.heap.size = B2 + 1 := by rw [← hw1]; simp; omega
    have HWW : Veil (w.heap.size ≤ g ∧ g < B2) := ⟨HGW.out, hgB⟩
    have HZ : Veil (w1.heap.size = B2 + 1) := ⟨hz1⟩
    rw [e2]
    clear hw1 e2 hz1 c9 f9 hgB HG HB HGW HW HC hcv hcv2
    refine wp_range_break (gf := 84) (lb := #[.pointer (some ⟨B2, 0, none⟩)]) rfl (enters_of Try.func84 (by kernel_rfl) rfl)
      (aeach_seq B2 p L c (by have := HL.out; omega)) (fun k => rfl)
      (fun k A => ChI w g B2 p L c (chAt next L k) A) (fun A => ChI w g B2 p L c (chAt next L L.length) A) ?hI ?hE ?hF ?h0 ?hN ?hround ?hend
    case hI => rintro k A A' h1 hb; exact h1.booked hb (by have := HWW.out; have := HZ.out; omega)
    case hE => rintro A A' h1 hb; exact h1.booked hb (by have := HWW.out; have := HZ.out; omega)
    case hF => rintro k A h; exact ⟨cell_row1 h.bx, h.l⟩
    case h0 => exact hI
    case hN => exact fun A h => h
    case hround =>
      rintro l m k A hl2 hlt hi
      simp only [handsA, List.zip_cons_cons, List.zip_nil_right, List.foldl_cons, List.foldl_nil, List.setIfInBounds_toArray, List.set_cons_succ, List.set_cons_zero]
      have HK : Veil (chAt next L (k + 1) = chAt next L k ++ spB (L.getD k Sp.zero)) := ⟨by unfold chAt; rw [flat_take L k hlt, ← List.append_assoc]⟩
      have HLN : Veil ((chAt next L k).length ≤ 1000) := ⟨by
        have := HL.out
        have hl3 : (chAt next L k).length = 5 + 12 * k := by
          unfold chAt
          simp only [List.length_append, putB_length, flat_len, List.length_take]
          omega
        omega⟩
      have HO : Veil (L.getD k Sp.zero).Ok := ⟨hok.out _ (by rw [List.getD, List.getElem?_eq_getElem hlt]; exact List.getElem_mem ..)⟩
      have HBA : Veil (B2 < A.heap.size) := ⟨lt_of_heap hi.bx⟩
      clear hI
      revert HK HO HLN hi
      generalize chAt next L (k + 1) = acc'
      generalize chAt next L k = acc
      generalize L.getD k Sp.zero = s
      obtain ⟨pg, tx⟩ := s
      intro hi HK HLN HO
      gi_wp2
      have hT1 : Turned (fun _ => False) A (A.alloc (.cells #[.int .u32 pg, .int .u64 tx] 80)) := (Turned.refl _ A).alloc _
      refine ⟨keepsFrom_new hT1, fun A2 hbk hsz => ?_⟩
      have hi2 := (hi.new hT1).booked hbk (by have := HWW.out; have := HZ.out; omega)
      have hs2 := hbk.heap (heap_alloc_new A (.cells #[.int .u32 pg, .int .u64 tx] 80))
      clear hi hT1 hbk
      have HI2 : Veil _ := ⟨hi2⟩
      have HS2 : Veil _ := ⟨hs2⟩
      have HWA : Veil (∀ W g', W.heap[g']? = some (.cells #[.int .u32 pg, .int .u32 ((tx / 4294967296 : Nat) : Int), .int .u32 ((tx % 4294967296 : Nat) : Int)] 46 (0, 0)) → Calls Try.prog 67 #[.slice (some ⟨g', 0, none⟩) 3 3] W fun e w' => e = .returned (.string ⟨(spB ⟨pg, tx⟩).toArray⟩) ∧ Below W.heap.size W w') := ⟨fun W g' hg' => by
        rw [spB_words ⟨pg, tx⟩ HO.out.tx]
        have := awords_any g' 3 [pg, tx / 4294967296, tx % 4294967296] W (fun i hi => by
          have hw : W.heap[g']? = some (.cells [Value.int .u32 pg, .int .u32 ((tx / 4294967296 : Nat) : Int), .int .u32 ((tx % 4294967296 : Nat) : Int)].toArray 46 (0, 0)) := hg'
          have hi3 : i = 0 ∨ i = 1 ∨ i = 2 := by simp at hi; omega
          rcases hi3 with rfl | rfl | rfl
          · exact cell_whole hw 0
          · exact cell_whole hw 1
          · exact cell_whole hw 2) (lt_of_heap hg') (by simp)
        exact this⟩
      have w5 : Veil (((tx : Int) / 4294967296) % 4294967296 = ((tx / 4294967296 : Nat) : Int)) := ⟨by have := HO.out.tx; simp only at this; omega⟩
      have w9 : Veil ((tx : Int) % 4294967296 = ((tx % 4294967296 : Nat) : Int)) := ⟨by omega⟩
      have HGA : Veil (g ≠ A.heap.size ∧ g < A2.heap.size) := ⟨by have := HWW.out; have := HBA.out; omega, lt_of_heap hi2.s⟩
      have HPP : Veil (∀ W : World, Below A2.heap.size A2 W → W.cell? ⟨g, 0, none⟩ = some (.string ⟨acc.toArray⟩) ∧ W.cell? ⟨A.heap.size, 0, none⟩ = some (.int .u32 pg) ∧ W.cell? ⟨A.heap.size, 1, none⟩ = some (.int .u64 tx) ∧ W.heap[g]? = some (.cells #[.string ⟨acc.toArray⟩] 9 (0, 0))) := ⟨fun W hb => by
        have e1 := (hb.block g (lt_of_heap HI2.out.s)).trans HI2.out.s
        have e2 := (hb.block A.heap.size (lt_of_heap HS2.out)).trans HS2.out
        exact ⟨cell_row1 e1, (pack2 e2).1.1, (pack2 e2).1.2, e1⟩⟩
      clear hi2 hs2 hsz
      gi_wp2
      refine region_new_in [.is (.string ⟨acc.toArray⟩), .is (.pointer (some ⟨A.heap.size, 0, none⟩)), .is (.int .u32 pg), .is (.pointer (some ⟨A.heap.size, 1, none⟩)), .is (.int .u64 tx), .is (.int .u64 ((tx : Int) / 4294967296)), .is (.int .u32 ((tx / 4294967296 : Nat) : Int)),
        .is (.pointer (some ⟨A.heap.size, 1, none⟩)), .is (.int .u64 tx), .is (.int .u32 ((tx % 4294967296 : Nat) : Int)), .row 0 (fun g => .slice (some ⟨g, 0, none⟩) 3 3) #[.int .u32 pg, .int .u32 ((tx / 4294967296 : Nat) : Int), .int .u32 ((tx % 4294967296 : Nat) : Int)] 46,
        .is (.string ⟨(spB ⟨pg, tx⟩).toArray⟩), .is (.string ⟨(acc ++ spB ⟨pg, tx⟩).toArray⟩)]
        [[], [], [(1, 26)], [], [(3, 28)], [(4, 29)], [(5, 30)], [], [(7, 32)], [(8, 33)], [(2, 27), (6, 31), (9, 34)], [(10, 35)], [(0, 25), (11, 36)]]
        [[], [], [1], [], [3], [4], [5], [], [7], [8], [2, 6, 9], [10], [0, 11]]
        [(0, 25), (1, 26), (2, 27), (3, 28), (4, 29), (5, 30), (6, 31), (7, 32), (8, 33), (9, 34), (10, 35), (11, 36), (12, 37)] rfl (by kernel_rfl) rfl ⟨?_, ?_, ?_, ?_, ?_, ?_, ?_, ?_, ?_, ?_, ?_, ?_, ?_, trivial⟩ ?_
      · intro vals W hB _
        obtain ⟨c1, -⟩ := HPP.out W hB
        dsimp only [putsL, slotOf]
        go_wp2
        exact ⟨rfl, Below.refl _ _, rfl⟩
      · intro vals W hB _
        dsimp only [putsL, slotOf]
        go_wp2
        exact ⟨rfl, Below.refl _ _, rfl⟩
      · intro vals W hB ⟨h0, _⟩
        obtain ⟨-, c1, -⟩ := HPP.out W hB
        have h0 : vals 1 = _ := h0
        dsimp only [putsL, slotOf]
        rw [h0]
        go_wp2
        exact ⟨rfl, Below.refl _ _, rfl⟩
      · intro vals W hB _
        dsimp only [putsL, slotOf]
        go_wp2
        exact ⟨rfl, Below.refl _ _, rfl⟩
      · intro vals W hB ⟨h0, _⟩
        obtain ⟨-, -, c1, -⟩ := HPP.out W hB
        have h0 : vals 3 = _ := h0
        dsimp only [putsL, slotOf]
        rw [h0]
        go_wp2
        exact ⟨rfl, Below.refl _ _, rfl⟩
      · intro vals W hB ⟨h0, _⟩
        have h0 : vals 4 = _ := h0
        dsimp only [putsL, slotOf]
        rw [h0]
        go_wp2
        exact ⟨rfl, Below.refl _ _, rfl⟩
      · intro vals W hB ⟨h0, _⟩
        have h0 : vals 5 = _ := h0
        dsimp only [putsL, slotOf]
        rw [h0]
        go_wp2
        exact ⟨rfl, Below.refl _ _, congrArg (Value.int .u32) w5.out⟩
      · intro vals W hB _
        dsimp only [putsL, slotOf]
        go_wp2
        exact ⟨rfl, Below.refl _ _, rfl⟩
      · intro vals W hB ⟨h0, _⟩
        obtain ⟨-, -, c1, -⟩ := HPP.out W hB
        have h0 : vals 7 = _ := h0
        dsimp only [putsL, slotOf]
        rw [h0]
        go_wp2
        exact ⟨rfl, Below.refl _ _, rfl⟩
      · intro vals W hB ⟨h0, _⟩
        have h0 : vals 8 = _ := h0
        dsimp only [putsL, slotOf]
        rw [h0]
        go_wp2
        exact ⟨rfl, Below.refl _ _, congrArg (Value.int .u32) w9.out⟩
      · intro vals W hB ⟨h0, h1, h2, _⟩
        have h0 : vals 2 = _ := h0
        have h1 : vals 6 = _ := h1
        have h2 : vals 9 = _ := h2
        dsimp only [putsL, slotOf]
        rw [h0, h1, h2]
        go_wp2
        exact ⟨rfl, below_al (Below.refl _ _) _, _, Nat.zero_le _, rfl, heap_alloc_new _ _⟩
      · intro vals W hB ⟨⟨g', _, h1, hg'⟩, _⟩
        have h1 : vals 10 = _ := h1
        dsimp only [putsL, slotOf]
        rw [h1]
        go_wp2_with (go_at_call 67; refine (HWA.out _ _ hg').mono ?_; rintro e w4 ⟨rfl, hb4⟩)
        exact ⟨rfl, hb4, rfl⟩
      · intro vals W hB ⟨h0, h1, _⟩
        have h0 : vals 0 = _ := h0
        have h1 : vals 11 = _ := h1
        have hlen : acc.length + (spB ⟨pg, tx⟩).length ≤ 1100 := by have := HLN.out; rw [spB_len]; omega
        dsimp only [putsL, slotOf]
        rw [h0, h1]
        go_wp2
        exact ⟨rfl, Below.refl _ _, congrArg Value.string (str_add _ _)⟩
      intro vals W hB ⟨h0, h1, h2, h3, h4, h5, h6, h7, h8, h9, hA, hB', hC, _⟩
      obtain ⟨gA, hgA, hA, -⟩ := hA
      have h0 : vals 0 = _ := h0
      have h1 : vals 1 = _ := h1
      have h2 : vals 2 = _ := h2
      have h3 : vals 3 = _ := h3
      have h4 : vals 4 = _ := h4
      have h5 : vals 5 = _ := h5
      have h6 : vals 6 = _ := h6
      have h7 : vals 7 = _ := h7
      have h8 : vals 8 = _ := h8
      have h9 : vals 9 = _ := h9
      have hA : vals 10 = _ := hA
      have hB' : vals 11 = _ := hB'
      have hC : vals 12 = _ := hC
      dsimp only [putsL]
      rw [h0, h1, h2, h3, h4, h5, h6, h7, h8, h9, hA, hB', hC]
      obtain ⟨c1, -, -, hgc⟩ := HPP.out W hB
      have f1 : W.frozen? ⟨g, 0, none⟩ = false := frozen_whole hgc _
      have HB : Veil _ := ⟨hB⟩
      clear h0 h1 h2 h3 h4 h5 h6 h7 h8 h9 hA hB' hC hB hgc
      go_wp2
      refine only_normal ?_
      gi_wp2
      have hT : Turned (· = g) A2 (W.setCell ⟨g, 0, none⟩ (.string ⟨(acc ++ spB ⟨pg, tx⟩).toArray⟩)) := (Turned.new (F := (· = g)) HB.out).setCell (p := ⟨g, 0, none⟩) rfl _
      refine ⟨keepsFrom_turned hT (fun j hj => .inl (by have := HZ.out; have := HWW.out; omega)), ?_⟩
      rw [HK.out]
      exact (HI2.out.new (Turned.new HB.out)).more hp HWW.out.1 HWW.out.2 _
    case hend =>
      rintro Dd A hDd h1 hdd
      have HI : Veil _ := ⟨h1⟩
      have HD : Veil _ := ⟨hdd⟩
      have c1 := cell_row1 h1.s
      clear h1 hdd hI
      go_wp2
      try rw [Exit.noGoto_ret]
      refine leaves_mark (D := Dd) (B := w.heap.size) HD.out (by have := HWW.out; have := HZ.out; omega) ?_
      intro w' hb _
      refine leaves_none (results_two rfl rfl rfl) ⟨by simp [chAt, chB], ?_⟩
      exact (hb.turned HI.out.t (Nat.le_refl _)).toBelow (Nat.le_refl _) (fun _ _ h => h.elim)
  · rw [if_neg h19]
    go_enter Try.func38, Try.ntmps38
    have h19' : 19 < L.length := by omega
    go_wp2
    exact bodyPost_ret (results_two rfl rfl rfl) rfl ⟨rfl, Below.refl _ _⟩
end Go.Proofs.Ytapmppiiphbcpaa
