/- The walk of Parse. -/
import Derived.Test.YtapmppiiphbcpaaKAN
import Derived.Test.YtapmppiiphbcpaaKPA
namespace Go.Proofs.Ytapmppiiphbcpaa
open Go Go.RowKit Sm
attribute [local go_sem] Oper.semAt_some

/-- Of how many spares bytes tell, which they are, and whether they tell of any. -/
def chN (s : List UInt8) : Nat := (s.getD 4 0).toNat
def spsOf (s : List UInt8) (k : Nat) : List Sp := (List.range k).map fun i => Sp.of (s.drop (5 + i * 12))
def chOk (s : List UInt8) : Bool := decide (5 ≤ s.length ∧ chN s ≤ 19 ∧ s.length = 5 + chN s * 12)
theorem chOk_iff (s : List UInt8) : chOk s = true ↔ 5 ≤ s.length ∧ chN s ≤ 19 ∧ s.length = 5 + chN s * 12 := by simp [chOk]
structure Ps where
  next : Nat
  l : List Sp
  err : Int
def Ps.of (s : List UInt8) : Ps := if chOk s then ⟨getB (s.take 4), spsOf s (chN s), 0⟩ else ⟨0, [], 50⟩
theorem spsOf_succ (s : List UInt8) (k : Nat) : spsOf s (k + 1) = spsOf s k ++ [Sp.of (s.drop (5 + k * 12))] := by simp [spsOf, List.range_succ]
theorem spsOf_len (s : List UInt8) (k : Nat) : (spsOf s k).length = k := by simp [spsOf]
theorem getB4_lt (s : List UInt8) : getB (s.take 4) < 4294967296 := by
  have h := getB_pow (s.take 4)
  have h2 : (s.take 4).length ≤ 4 := by simp; omega
  exact Nat.lt_of_lt_of_le h (Nat.le_trans (Nat.pow_le_pow_right (by decide) h2) (by decide))
theorem Sp.of_ok (s : List UInt8) : (Sp.of s).Ok := ⟨getB4_lt s, by
  have h := getB_pow ((s.drop 4).take 8)
  have h2 : ((s.drop 4).take 8).length ≤ 8 := by simp; omega
  exact Nat.lt_of_lt_of_le h (Nat.le_trans (Nat.pow_le_pow_right (by decide) h2) (by decide))⟩
structure Ps.Ok (x : Ps) : Prop where
  next : x.next < 4294967296
  l : ∀ s ∈ x.l, s.Ok
  few : x.l.length ≤ 19
theorem Ps.of_ok (s : List UInt8) : (Ps.of s).Ok := by
  unfold Ps.of
  split
  · rename_i h
    obtain ⟨h1, h2, h3⟩ := (chOk_iff s).1 h
    refine ⟨getB4_lt s, fun x hx => ?_, by rw [spsOf_len]; exact h2⟩
    obtain ⟨i, -, rfl⟩ := List.mem_map.1 hx
    exact Sp.of_ok _
  · exact ⟨(by decide : 0 < 4294967296), fun x hx => (by cases hx), (by decide : 0 ≤ 19)⟩

/-- What Parse leaves. -/
def ParsePost (w : World) (x : Ps) (e : Ending) (w' : World) : Prop := ∃ p c, e = .returned (.tuple #[.int .u32 x.next, .slice p x.l.length c, .int .i64 x.err]) ∧ Sps w' p x.l ∧ (∀ a, p = some a → a.block < w'.heap.size) ∧ Below w.heap.size w w'
theorem results_three {P : Program} {fn : Func} {p q r : Tmp} {tmps : Array Value} {w : World} {x y z : Value} (h : fn.results = #[.tmp p, .tmp q, .tmp r]) (hp : tmps.getD p undef = x) (hq : tmps.getD q undef = y) (hr : tmps.getD r undef = z) : (results fn tmps).run P w = .ok (.tuple #[x, y, z]) w := by
  have hp' : tmps[p]?.getD undef = x := by simpa using hp
  have hq' : tmps[q]?.getD undef = y := by simpa using hq
  have hr' : tmps[r]?.getD undef = z := by simpa using hr
  simp [results, h, go_sem, hp', hq', hr']

set_option maxRecDepth 20000 in
set_option maxHeartbeats 2000000 in
theorem parse_any (s : List UInt8) (hs : s.length ≤ 1000) (w : World) : Calls Try.prog 40 #[.string ⟨s.toArray⟩] w (ParsePost w (Ps.of s)) := by
  by_cases h5 : s.length < 5
  · have e : Ps.of s = ⟨0, [], 50⟩ := by unfold Ps.of; rw [if_neg (by rw [chOk_iff]; omega)]
    rw [e]
    clear e
    go_enter Try.func40, Try.ntmps40
    go_wp2
    refine bodyPost_ret (results_three rfl rfl rfl rfl) rfl ?_
    exact ⟨none, 0, rfl, Sps.nil _ _, fun a ha => (by cases ha), Below.refl _ _⟩
  have hix := index_at s 4 (by omega) 4 rfl
  have hN : (s.getD 4 0).toNat = chN s := rfl
  have HM : Veil (chN s < 256) := ⟨by unfold chN; exact UInt8.toNat_lt _⟩
  rw [hN] at hix
  have HP : Veil (Ps.of s = if chOk s then ⟨getB (s.take 4), spsOf s (chN s), 0⟩ else ⟨0, [], 50⟩) := ⟨rfl⟩
  have HO := Veil.mk (chOk_iff s)
  have HT : Veil (∀ k, k < chN s → s.length = 5 + chN s * 12 → ∀ W, Calls Try.prog 69 #[.string ((⟨s.toArray⟩ : ByteArray).extract (5 + k * 12) s.length)] W fun e w' => e = .returned (Sp.of (s.drop (5 + k * 12))).v ∧ Below W.heap.size W w') := ⟨fun k hk hl W => by
    rw [extract_list', List.take_of_length_le (by simp)]
    exact atold_any (s.drop (5 + k * 12)) (by simp; omega) (by simp; omega) W⟩
  have HW : Veil (∀ W, Calls Try.prog 70 #[.string ⟨s.toArray⟩, .int .i64 0] W fun e w' => e = .returned (.int .u32 (getB (s.take 4))) ∧ Below W.heap.size W w') := ⟨fun W => by have := aword_any s 0 (by simp) (by omega) hs W; rwa [List.drop_zero] at this⟩
  clear hN
  revert hix HM HP HO HT
  generalize hcn : chN s = n
  intro hix HM HP HO HT
  have hn256 := HM.out
  have cw : wrap64 (n : Int) = (n : Int) := by simp [wrap64]; omega
  by_cases h19 : 19 < n
  · have e : Ps.of s = ⟨0, [], 50⟩ := by rw [HP.out, if_neg (by rw [HO.out]; omega)]
    rw [e]
    clear e HP HO HT
    go_enter Try.func40, Try.ntmps40
    go_wp2
    refine bodyPost_ret (results_three rfl rfl rfl rfl) rfl ?_
    exact ⟨none, 0, rfl, Sps.nil _ _, fun a ha => (by cases ha), Below.refl _ _⟩
  by_cases hl : s.length = 5 + n * 12
  · have e : Ps.of s = ⟨getB (s.take 4), spsOf s n, 0⟩ := by rw [HP.out, if_pos (by rw [HO.out]; omega)]
    rw [e]
    have HL : Veil (s.length = 5 + n * 12) := ⟨hl⟩
    have HT2 : Veil (∀ k, k < n → ∀ W, Calls Try.prog 69 #[.string ((⟨s.toArray⟩ : ByteArray).extract (5 + k * 12) (5 + n * 12))] W fun e w' => e = .returned (Sp.of (s.drop (5 + k * 12))).v ∧ Below W.heap.size W w') := ⟨fun k hk W => by have := HT.out k hk hl W; rwa [hl] at this⟩
    clear e HP HO HT hcn
    go_enter Try.func40, Try.ntmps40
    go_wp2
    go_loopw [6, 25] (fun l i wr => ∃ k : Nat, k ≤ n ∧ i = .int .i64 k ∧ Below w.heap.size w wr ∧ Veil (OwnS wr w.heap.size l (spsOf s k))) (fun _ i _ => n - (intOf i).toNat)
    case atStart => exact ⟨0, Nat.zero_le _, rfl, Below.refl _ _, ⟨World.ownsRow_nil _ _ _ _⟩⟩
    case round =>
      obtain ⟨k, hk, rfl, hB, hA⟩ := hrel
      by_cases hlt : k < n
      · have HTk : Veil _ := ⟨HT2.out k hlt⟩
        have HB : Veil _ := ⟨hB⟩
        have HLE : Veil _ := ⟨spsOf_succ s k⟩
        have HLK : Veil _ := ⟨spsOf_len s k⟩
        clear hB hix
        revert HTk HLE HLK hA
        generalize hx : Sp.of (s.drop (5 + k * 12)) = x
        generalize hL : spsOf s k = L
        obtain ⟨xp, xt⟩ := x
        intro hA HTk HLE HLK
        unfold Sp.v at HTk
        dsimp only at HTk
        have hb1 : (0 : Int) ≤ 5 + (k : Int) * 12 := by omega
        have hb2 : 5 + (k : Int) * 12 ≤ 5 + (n : Int) * 12 := by omega
        go_wp2_with (first
          | (at_builtin; refine wpList_append_sp rfl (.tmp 28) (.tmp 35) rfl w.heap.size _ L ⟨xp, xt⟩ rfl (HA4.out.kept ((Turned.refl (fun _ => False) w4).alloc _) (fun _ _ h => h)) w4.heap.size rfl (heap_alloc_new _ _) (by have := HLK.out; omega) (by have := HB4.out.size; simp; omega) ?_; intro v' w5 hown5 hgrow5)
          | (go_at_call 69; refine (HTk.out _).mono ?_; rintro e w4 ⟨rfl, hb4⟩; have HA4 : Veil _ := ⟨hA.out.kept (Turned.new (F := fun _ => False) hb4) (fun _ _ h => h)⟩; have HB4 : Veil _ := ⟨alb_then HB.out hb4⟩))
        refine ⟨⟨k + 1, by omega, by go_num, own_grown HB4.out (Nat.le_refl _) HA4.out hgrow5, ⟨by rw [HLE.out]; exact hown5⟩⟩, ?_⟩
        simp only [intOf]; omega
      · obtain rfl : k = n := by omega
        have HB : Veil _ := ⟨hB⟩
        clear hB hix
        obtain ⟨p, c, rfl, hsp⟩ := hA.out.form
        have hpp : ∀ a, p = some a → a.block < wr.heap.size := fun a ha => (hA.out.lt (by rw [ha]; rfl)).2
        have HS : Veil (Sps wr p (spsOf s k) ∧ ∀ a, p = some a → a.block < wr.heap.size) := ⟨hsp, hpp⟩
        clear hsp hpp
        go_wp2_with (go_at_call 70; refine (HW.out _).mono ?_; rintro e w4 ⟨rfl, hb4⟩)
        refine bodyPost_ret (results_three rfl rfl rfl rfl) rfl ?_
        exact ⟨p, c, rfl, HS.out.1.below hb4, fun a ha => Nat.lt_of_lt_of_le (HS.out.2 a ha) hb4.size, alb_then HB.out hb4⟩
  · have e : Ps.of s = ⟨0, [], 50⟩ := by rw [HP.out, if_neg (by rw [HO.out]; omega)]
    rw [e]
    have hne : ((s.length : Int) != 5 + (n : Int) * 12) = true := by simp; omega
    clear e HP HO HT
    go_enter Try.func40, Try.ntmps40
    go_wp2
    refine bodyPost_ret (results_three rfl rfl rfl rfl) rfl ?_
    exact ⟨none, 0, rfl, Sps.nil _ _, fun a ha => (by cases ha), Below.refl _ _⟩
end Go.Proofs.Ytapmppiiphbcpaa

/- The walk of the document's own Chunk. -/
namespace Go.Proofs.Ytapmppiiphbcpaa
open Go Go.RowKit Sm
attribute [local go_sem] Oper.semAt_some

theorem chAt_succ (next : Nat) (L : List Sp) (k : Nat) (h : k < L.length) : chAt next L (k + 1) = chAt next L k ++ putB (L.getD k Sp.zero).page 4 ++ putB (L.getD k Sp.zero).tx 8 := by
  unfold chAt; rw [flat_take L k h]; simp [spB]
theorem chAt_len (next : Nat) (L : List Sp) (k : Nat) (h : k ≤ L.length) : (chAt next L k).length = 5 + 12 * k := by
  unfold chAt
  simp only [List.length_append, putB_length, flat_len, List.length_take]
  omega

theorem put_four (vl : Nat) (w : World) : Calls Try.prog 68 #[.int .u64 vl, .int .i64 4] w fun e w' => e = .returned (.string ⟨(putB vl 4).toArray⟩) ∧ Below w.heap.size w w' := put_any vl 4 (by decide) w
theorem put_one (vl : Nat) (w : World) : Calls Try.prog 68 #[.int .u64 vl, .int .i64 1] w fun e w' => e = .returned (.string ⟨(putB vl 1).toArray⟩) ∧ Below w.heap.size w w' := put_any vl 1 (by decide) w
theorem put_eight (vl : Nat) (w : World) : Calls Try.prog 68 #[.int .u64 vl, .int .i64 8] w fun e w' => e = .returned (.string ⟨(putB vl 8).toArray⟩) ∧ Below w.heap.size w w' := put_any vl 8 (by decide) w

set_option maxRecDepth 20000 in
set_option maxHeartbeats 2000000 in
theorem refchunk_any {w : World} {p : Option Addr} {L : List Sp} (h : Sps w p L) (next c : Nat) (hnx : next < 4294967296) (hok : Veil (∀ s ∈ L, s.Ok)) (hl : L.length ≤ 30) :
    Calls Try.prog 39 #[.int .u32 next, .slice p L.length c] w fun e w' => e = .returned (chR next L) ∧ Below w.heap.size w w' := by
  unfold chR
  by_cases h19 : L.length ≤ 19
  · rw [if_pos h19]
    have HH := Lib.hid h
    have HL : Veil (L.length ≤ 19) := ⟨h19⟩
    have wn : (next : Int) % 18446744073709551616 = next := by omega
    have wl : (L.length : Int) % 18446744073709551616 = L.length := by omega
    have C0 : Veil (chAt next L 0 = putB next 4 ++ putB L.length 1) := ⟨by simp [chAt]⟩
    have C1 : Veil (chAt next L L.length = chB next L) := ⟨by simp [chAt, chB]⟩
    clear h hl
    go_enter Try.func39, Try.ntmps39
    have HP1 : Veil _ := ⟨put_one⟩
    have HP4 : Veil _ := ⟨put_four⟩
    have HP8 : Veil _ := ⟨put_eight⟩
    go_wp2_with (first
      | (go_at_call 68; (with_reducible refine (HP1.out L.length w1).mono ?_); rintro e w2 ⟨rfl, hb2⟩; have HB2 : Veil _ := ⟨alb_then hb1 hb2⟩; clear hb2)
      | (go_at_call 68; (with_reducible refine (HP4.out next w).mono ?_); rintro e w1 ⟨rfl, hb1⟩))
    go_loopw [6, 7] (fun s i wr => ∃ k : Nat, k ≤ L.length ∧ i = .int .i64 k ∧ s = .string ⟨(chAt next L k).toArray⟩ ∧ Below w.heap.size w wr) (fun _ i _ => L.length - (intOf i).toNat)
    case atStart => exact ⟨0, Nat.zero_le _, rfl, by rw [C0.out]; simp; rfl, HB2.out⟩
    case round =>
      obtain ⟨k, hk, rfl, rfl, hB⟩ := hrel
      by_cases hlt : k < L.length
      · have HBw : Veil _ := ⟨hB⟩
        have hS := HH.out.below hB
        obtain ⟨b, o, rfl, hc⟩ := hS (by rintro rfl; simp at hlt)
        have HCC : Veil (∀ W : World, Below wr.heap.size wr W → W.cell? ⟨b, o + k * 2, none⟩ = some (.int .u32 (L.getD k Sp.zero).page) ∧ W.cell? ⟨b, o + k * 2 + 1, none⟩ = some (.int .u64 (L.getD k Sp.zero).tx)) := ⟨fun W hb => by
          obtain ⟨c1, c2⟩ := hc k hlt
          exact ⟨(hb.cell (World.block_lt_of_cell? wr _ c1)).trans c1, (hb.cell (World.block_lt_of_cell? wr _ c2)).trans c2⟩⟩
        have HSU : Veil _ := ⟨chAt_succ next L k hlt⟩
        have HLE : Veil _ := ⟨chAt_len next L k hk⟩
        have HWP : Veil (((L.getD k Sp.zero).page : Int) % 18446744073709551616 = (L.getD k Sp.zero).page) := ⟨by
          have := (hok.out _ (getD_mem hlt)).page; omega⟩
        clear hB hS hc C0 C1
        revert HCC HSU HWP HLE
        generalize L.getD k Sp.zero = s
        generalize hacc : chAt next L k = acc
        obtain ⟨pg, tx⟩ := s
        dsimp only
        intro HCC HSU HLE HWP
        have HLN : Veil (acc.length + (putB pg 4).length ≤ 2000 ∧ acc.length + (putB pg 4).length + (putB tx 8).length ≤ 2000) := ⟨by
          have := HLE.out; have := HL.out
          simp only [putB_length]; omega⟩
        have hkI : (0 : Int) ≤ k := by omega
        go_wp2
        refine region_new [.is (.string ⟨acc.toArray⟩), .is (.slice (some ⟨b, o, none⟩) L.length c), .is (.int .i64 k), .is (.pointer (some ⟨b, o + k * 2, none⟩)), .is (.pointer (some ⟨b, o + k * 2, none⟩)), .is (.int .u32 pg), .is (.int .u64 pg), .is (.string ⟨(putB pg 4).toArray⟩), .is (.string ⟨(acc ++ putB pg 4).toArray⟩), .is (.slice (some ⟨b, o, none⟩) L.length c), .is (.int .i64 k), .is (.pointer (some ⟨b, o + k * 2, none⟩)), .is (.pointer (some ⟨b, o + k * 2 + 1, none⟩)), .is (.int .u64 tx), .is (.string ⟨(putB tx 8).toArray⟩), .is (.string ⟨(acc ++ putB pg 4 ++ putB tx 8).toArray⟩)]
          [[], [], [], [(1, 26), (2, 27)], [(3, 28)], [(4, 29)], [(5, 30)], [(6, 31)], [(0, 25), (7, 32)], [], [], [(9, 34), (10, 35)], [(11, 36)], [(12, 37)], [(13, 38)], [(8, 33), (14, 39)]]
          [[], [], [], [1, 2], [3], [4], [5], [6], [0, 7], [], [], [9, 10], [11], [12], [7, 13], [8, 14]]
          [(0, 25), (1, 26), (2, 27), (3, 28), (4, 29), (5, 30), (6, 31), (7, 32), (8, 33), (9, 34), (10, 35), (11, 36), (12, 37), (13, 38), (14, 39), (15, 40)] rfl (by kernel_rfl) ⟨?_, ?_, ?_, ?_, ?_, ?_, ?_, ?_, ?_, ?_, ?_, ?_, ?_, ?_, ?_, ?_, trivial⟩ ?_
        · intro vals W hB _
          dsimp only [putsL, slotOf]
          go_wp2
          exact ⟨rfl, Below.refl _ _, rfl⟩
        · intro vals W hB _
          dsimp only [putsL, slotOf]
          go_wp2
          exact ⟨rfl, Below.refl _ _, rfl⟩
        · intro vals W hB _
          dsimp only [putsL, slotOf]
          go_wp2
          exact ⟨rfl, Below.refl _ _, rfl⟩
        · intro vals W hB ⟨h1, h2, _⟩
          have h1 : vals 1 = _ := h1
          have h2 : vals 2 = _ := h2
          dsimp only [putsL, slotOf]
          rw [h1, h2]
          go_wp2
          exact ⟨rfl, Below.refl _ _, rfl⟩
        · intro vals W hB ⟨h3, _⟩
          have h3 : vals 3 = _ := h3
          dsimp only [putsL, slotOf]
          rw [h3]
          go_wp2
          exact ⟨rfl, Below.refl _ _, rfl⟩
        · intro vals W hB ⟨h4, _⟩
          have h4 : vals 4 = _ := h4
          have c1 := (HCC.out W hB).1
          dsimp only [putsL, slotOf]
          rw [h4]
          go_wp2
          exact ⟨rfl, Below.refl _ _, rfl⟩
        · intro vals W hB ⟨h5, _⟩
          have h5 : vals 5 = _ := h5
          dsimp only [putsL, slotOf]
          rw [h5]
          go_wp2
          exact ⟨rfl, Below.refl _ _, congrArg (Value.int .u64) HWP.out⟩
        · intro vals W hB ⟨h6, _⟩
          have h6 : vals 6 = _ := h6
          dsimp only [putsL, slotOf]
          rw [h6]
          go_wp2_with ((go_at_call 68; refine (HP4.out pg _).mono ?_; rintro e w4 ⟨rfl, hb4⟩))
          exact ⟨rfl, hb4, rfl⟩
        · intro vals W hB ⟨h0, h7, _⟩
          have h0 : vals 0 = _ := h0
          have h7 : vals 7 = _ := h7
          have hlen : acc.length + (putB pg 4).length ≤ 2000 := HLN.out.1
          dsimp only [putsL, slotOf]
          rw [h0, h7]
          go_wp2
          exact ⟨rfl, Below.refl _ _, congrArg Value.string (str_add _ _)⟩
        · intro vals W hB _
          dsimp only [putsL, slotOf]
          go_wp2
          exact ⟨rfl, Below.refl _ _, rfl⟩
        · intro vals W hB _
          dsimp only [putsL, slotOf]
          go_wp2
          exact ⟨rfl, Below.refl _ _, rfl⟩
        · intro vals W hB ⟨h9, h10, _⟩
          have h9 : vals 9 = _ := h9
          have h10 : vals 10 = _ := h10
          dsimp only [putsL, slotOf]
          rw [h9, h10]
          go_wp2
          exact ⟨rfl, Below.refl _ _, rfl⟩
        · intro vals W hB ⟨h11, _⟩
          have h11 : vals 11 = _ := h11
          dsimp only [putsL, slotOf]
          rw [h11]
          go_wp2
          exact ⟨rfl, Below.refl _ _, rfl⟩
        · intro vals W hB ⟨h12, _⟩
          have h12 : vals 12 = _ := h12
          have c1 := (HCC.out W hB).2
          dsimp only [putsL, slotOf]
          rw [h12]
          go_wp2
          exact ⟨rfl, Below.refl _ _, rfl⟩
        · intro vals W hB ⟨h7, h13, _⟩
          have h13 : vals 13 = _ := h13
          dsimp only [putsL, slotOf]
          rw [h13]
          go_wp2_with ((go_at_call 68; refine (HP8.out tx _).mono ?_; rintro e w4 ⟨rfl, hb4⟩))
          exact ⟨rfl, hb4, rfl⟩
        · intro vals W hB ⟨h8, h14, _⟩
          have h8 : vals 8 = _ := h8
          have h14 : vals 14 = _ := h14
          have hlen : acc.length + (putB pg 4).length + (putB tx 8).length ≤ 2000 := HLN.out.2
          dsimp only [putsL, slotOf]
          rw [h8, h14]
          go_wp2
          exact ⟨rfl, Below.refl _ _, congrArg Value.string (str_add _ _)⟩
        rintro vals W hB ⟨h0, h1, h2, h3, h4, h5, h6, h7, h8, h9, h10, h11, h12, h13, h14, h15, -⟩
        have h0 : vals 0 = _ := h0
        have h1 : vals 1 = _ := h1
        have h2 : vals 2 = _ := h2
        have h3 : vals 3 = _ := h3
        have h4 : vals 4 = _ := h4
        have h5 : vals 5 = _ := h5
        have h6 : vals 6 = _ := h6
        have h7 : vals 7 = _ := h7
        have h8 : vals 8 = _ := h8
        have h9 : vals 9 = _ := h9
        have h10 : vals 10 = _ := h10
        have h11 : vals 11 = _ := h11
        have h12 : vals 12 = _ := h12
        have h13 : vals 13 = _ := h13
        have h14 : vals 14 = _ := h14
        have h15 : vals 15 = _ := h15
        dsimp only [putsL]
        rw [h0, h1, h2, h3, h4, h5, h6, h7, h8, h9, h10, h11, h12, h13, h14, h15]
        clear h0 h1 h2 h3 h4 h5 h6 h7 h8 h9 h10 h11 h12 h13 h14 h15
        have HB : Veil _ := ⟨alb_then HBw.out hB⟩
        clear hB
        go_wp2
        refine ⟨⟨k + 1, by omega, by go_num, by rw [HSU.out, List.append_assoc], HB.out⟩, ?_⟩
        simp only [intOf]; omega
      · obtain rfl : k = L.length := by omega
        rw [C1.out]
        have HBw : Veil _ := ⟨hB⟩
        clear hB
        go_wp2
        exact bodyPost_ret (results_two rfl rfl rfl) rfl ⟨rfl, HBw.out⟩
  · rw [if_neg h19]
    go_enter Try.func39, Try.ntmps39
    have h19' : 19 < L.length := by omega
    go_wp2
    exact bodyPost_ret (results_two rfl rfl rfl) rfl ⟨rfl, Below.refl _ _⟩
end Go.Proofs.Ytapmppiiphbcpaa

/- The walk of the document's own Parse. -/
namespace Go.Proofs.Ytapmppiiphbcpaa
open Go Go.RowKit Sm
attribute [local go_sem] Oper.semAt_some

theorem own_grown0 {w wr w' : World} {B : Nat} {v : Value} {L : List Sp} (hB : Below B w wr) (hw : B ≤ w.heap.size) (hown : OwnS wr B v L) (hg : wr.grownBy w' v.ownBlock) : Below B w w' := by
  have ht2 : Turned (fun j => v.ownBlock = some j) wr w' := Turned.grown hg (fun j hj _ => hj)
  exact hB.trans (ht2.toBelow (Nat.le_trans hw hB.size) (fun k hk e => (hown.lt e).1))

set_option maxRecDepth 20000 in
set_option maxHeartbeats 2000000 in
theorem refparse_any (s : List UInt8) (hs : s.length ≤ 1000) (w : World) : Calls Try.prog 41 #[.string ⟨s.toArray⟩] w (ParsePost w (Ps.of s)) := by
  by_cases h5 : s.length < 5
  · have e : Ps.of s = ⟨0, [], 50⟩ := by unfold Ps.of; rw [if_neg (by rw [chOk_iff]; omega)]
    rw [e]
    clear e
    go_enter Try.func41, Try.ntmps41
    go_wp2
    refine bodyPost_ret (results_three rfl rfl rfl rfl) rfl ?_
    exact ⟨none, 0, rfl, Sps.nil _ _, fun a ha => (by cases ha), Below.refl _ _⟩
  have hix := index_at s 4 (by omega) 4 rfl
  have hN : (s.getD 4 0).toNat = chN s := rfl
  have HM : Veil (chN s < 256) := ⟨by unfold chN; exact UInt8.toNat_lt _⟩
  rw [hN] at hix
  have HP : Veil (Ps.of s = if chOk s then ⟨getB (s.take 4), spsOf s (chN s), 0⟩ else ⟨0, [], 50⟩) := ⟨rfl⟩
  have HO := Veil.mk (chOk_iff s)
  have HX := fun a b => extract_list' s a b
  have HG : Veil (∀ (t : List UInt8), t.length ≤ 8 → ∀ W, Calls Try.prog 71 #[.string ⟨t.toArray⟩] W fun e w' => e = .returned (.int .u64 (getB t)) ∧ Below W.heap.size W w') := ⟨fun t ht W => (get_any t (by omega) W).mono fun e w' ⟨h1, h2⟩ => ⟨h1, by subst h2; exact Below.refl _ _⟩⟩
  clear hN
  revert hix HM HP HO
  generalize hcn : chN s = n
  intro hix HM HP HO
  have hn256 := HM.out
  have cw : wrap64 (n : Int) = (n : Int) := by simp [wrap64]; omega
  by_cases h19 : 19 < n
  · have e : Ps.of s = ⟨0, [], 50⟩ := by rw [HP.out, if_neg (by rw [HO.out]; omega)]
    rw [e]
    clear e HP HO
    go_enter Try.func41, Try.ntmps41
    go_wp2
    refine bodyPost_ret (results_three rfl rfl rfl rfl) rfl ?_
    exact ⟨none, 0, rfl, Sps.nil _ _, fun a ha => (by cases ha), Below.refl _ _⟩
  by_cases hl : s.length = 5 + n * 12
  · have e : Ps.of s = ⟨getB (s.take 4), spsOf s n, 0⟩ := by rw [HP.out, if_pos (by rw [HO.out]; omega)]
    rw [e]
    have HL : Veil (s.length = 5 + n * 12) := ⟨hl⟩
    have HG0 : Veil (∀ W, Calls Try.prog 71 #[.string ((⟨s.toArray⟩ : ByteArray).extract 0 4)] W fun e w' => e = .returned (.int .u64 (getB (s.take 4))) ∧ Below W.heap.size W w') := ⟨fun W => by
      rw [HX]; exact HG.out (s.take 4) (by simp; omega) W⟩
    have HW0 : (getB (s.take 4) : Int) % 4294967296 = getB (s.take 4) := by have := getB4_lt s; omega
    clear e HP HO hcn
    have hlI : (5 + n * 12 : Nat) ≤ 300 := by omega
    have hne : (5 + (n : Int) * 12 != 5 + 12 * (n : Int)) = false := by simp; omega
    go_enter Try.func41, Try.ntmps41
    go_wp2
    go_loopw [5, 6] (fun l i wr => ∃ k m : Nat, k ≤ n ∧ m = 5 + k * 12 ∧ i = .int .i64 m ∧ Below w.heap.size w wr ∧ Veil (OwnS wr w.heap.size l (spsOf s k))) (fun _ i _ => 5 + n * 12 - (intOf i).toNat)
    case atStart => exact ⟨0, 5, Nat.zero_le _, rfl, rfl, Below.refl _ _, ⟨World.ownsRow_nil _ _ _ _⟩⟩
    case round =>
      obtain ⟨k, m, hk, hm, rfl, hB, hA⟩ := hrel
      by_cases hlt : k < n
      · have HB : Veil _ := ⟨hB⟩
        have HLE : Veil _ := ⟨spsOf_succ s k⟩
        have HLK : Veil _ := ⟨spsOf_len s k⟩
        have HOK : Veil _ := ⟨Sp.of_ok (s.drop (5 + k * 12))⟩
        have HDP : Veil (∀ W, Calls Try.prog 71 #[.string ((⟨s.toArray⟩ : ByteArray).extract m (m + 4))] W fun e w' => e = .returned (.int .u64 (Sp.of (s.drop (5 + k * 12))).page) ∧ Below W.heap.size W w') := ⟨fun W => by
          rw [HX, ← hm, show m + 4 - m = 4 by omega]; exact HG.out ((s.drop m).take 4) (by simp; omega) W⟩
        have HDT : Veil (∀ W, Calls Try.prog 71 #[.string ((⟨s.toArray⟩ : ByteArray).extract (m + 4) (m + 12))] W fun e w' => e = .returned (.int .u64 (Sp.of (s.drop (5 + k * 12))).tx) ∧ Below W.heap.size W w') := ⟨fun W => by
          rw [HX, ← hm, show m + 12 - (m + 4) = 8 by omega]
          have := HG.out (((s.drop m).drop 4).take 8) (by simp; omega) W
          rw [show List.drop (m + 4) s = (s.drop m).drop 4 by rw [List.drop_drop]]; exact this⟩
        have hm2 : m + 12 ≤ 5 + n * 12 := by omega
        have HMM : Veil (m = 5 + k * 12) := ⟨hm⟩
        clear hB hix HX hm
        revert HDP HDT HLE HLK HOK hA
        generalize hx : Sp.of (s.drop (5 + k * 12)) = x
        generalize hL : spsOf s k = L
        obtain ⟨pg, tx⟩ := x
        dsimp only
        intro hA HLE HLK HOK HG4 HG8
        have HWP : Veil ((pg : Int) % 4294967296 = pg) := ⟨by have := HOK.out.page; simp only at this; omega⟩
        obtain ⟨v, hv⟩ : ∃ v, u5 = v := ⟨_, rfl⟩
        subst hv
        have hb1 : (0 : Int) ≤ m := by omega
        have hb2 : (m : Int) ≤ m + 4 := by omega
        have hb3 : (m : Int) + 4 ≤ 5 + (n : Int) * 12 := by omega
        have hb4' : (0 : Int) ≤ (m : Int) + 4 := by omega
        have hb5 : (m : Int) + 4 ≤ (m : Int) + 12 := by omega
        have hb6 : (m : Int) + 12 ≤ 5 + (n : Int) * 12 := by omega
        go_wp2
        refine region_new [.is u5, .is (.string ⟨s.toArray⟩), .is (.int .i64 m), .is (.int .i64 m), .is (.int .i64 ((m : Int) + 4)), .is (.string ((⟨s.toArray⟩ : ByteArray).extract m (m + 4))), .is (.int .u64 pg), .is (.int .u32 pg), .is (.string ⟨s.toArray⟩), .is (.int .i64 m), .is (.int .i64 ((m : Int) + 4)), .is (.int .i64 m), .is (.int .i64 ((m : Int) + 12)), .is (.string ((⟨s.toArray⟩ : ByteArray).extract (m + 4) (m + 12))), .is (.int .u64 tx), .is (.agg #[.int .u32 pg, .int .u64 tx]), .row 0 (fun g => .slice (some ⟨g, 0, none⟩) 1 1) #[.int .u32 pg, .int .u64 tx] 80]
          [[], [], [], [], [(3, 34)], [(1, 32), (2, 33), (4, 35)], [(5, 36)], [(6, 37)], [], [], [(9, 40)], [], [(11, 42)], [(8, 39), (10, 41), (12, 43)], [(13, 44)], [(7, 38), (14, 45)], [(15, 46)]]
          [[], [], [], [], [3], [1, 2, 4], [5], [6], [], [], [9], [], [11], [8, 10, 12], [6, 13], [7, 14], [15]]
          [(0, 31), (1, 32), (2, 33), (3, 34), (4, 35), (5, 36), (6, 37), (7, 38), (8, 39), (9, 40), (10, 41), (11, 42), (12, 43), (13, 44), (14, 45), (15, 46), (16, 47)] rfl (by kernel_rfl) ⟨?_, ?_, ?_, ?_, ?_, ?_, ?_, ?_, ?_, ?_, ?_, ?_, ?_, ?_, ?_, ?_, ?_, trivial⟩ ?_
        · intro vals W hB _
          dsimp only [putsL, slotOf]
          go_wp2
          exact ⟨rfl, Below.refl _ _, rfl⟩
        · intro vals W hB _
          dsimp only [putsL, slotOf]
          go_wp2
          exact ⟨rfl, Below.refl _ _, rfl⟩
        · intro vals W hB _
          dsimp only [putsL, slotOf]
          go_wp2
          exact ⟨rfl, Below.refl _ _, rfl⟩
        · intro vals W hB _
          dsimp only [putsL, slotOf]
          go_wp2
          exact ⟨rfl, Below.refl _ _, rfl⟩
        · intro vals W hB ⟨h3, _⟩
          have h3 : vals 3 = _ := h3
          dsimp only [putsL, slotOf]
          rw [h3]
          go_wp2
          exact ⟨rfl, Below.refl _ _, rfl⟩
        · intro vals W hB ⟨h1, h2, h4, _⟩
          have h1 : vals 1 = _ := h1
          have h2 : vals 2 = _ := h2
          have h4 : vals 4 = _ := h4
          dsimp only [putsL, slotOf]
          rw [h1, h2, h4]
          go_wp2
          exact ⟨rfl, Below.refl _ _, rfl⟩
        · intro vals W hB ⟨h5, _⟩
          have h5 : vals 5 = _ := h5
          dsimp only [putsL, slotOf]
          rw [h5]
          go_wp2_with ((go_at_call 71; (with_reducible refine (HG4.out _).mono ?_); rintro e w4 ⟨rfl, hb4⟩))
          exact ⟨rfl, hb4, rfl⟩
        · intro vals W hB ⟨h6, _⟩
          have h6 : vals 6 = _ := h6
          dsimp only [putsL, slotOf]
          rw [h6]
          go_wp2
          exact ⟨rfl, Below.refl _ _, congrArg (Value.int .u32) HWP.out⟩
        · intro vals W hB _
          dsimp only [putsL, slotOf]
          go_wp2
          exact ⟨rfl, Below.refl _ _, rfl⟩
        · intro vals W hB _
          dsimp only [putsL, slotOf]
          go_wp2
          exact ⟨rfl, Below.refl _ _, rfl⟩
        · intro vals W hB ⟨h9, _⟩
          have h9 : vals 9 = _ := h9
          dsimp only [putsL, slotOf]
          rw [h9]
          go_wp2
          exact ⟨rfl, Below.refl _ _, rfl⟩
        · intro vals W hB _
          dsimp only [putsL, slotOf]
          go_wp2
          exact ⟨rfl, Below.refl _ _, rfl⟩
        · intro vals W hB ⟨h11, _⟩
          have h11 : vals 11 = _ := h11
          dsimp only [putsL, slotOf]
          rw [h11]
          go_wp2
          exact ⟨rfl, Below.refl _ _, rfl⟩
        · intro vals W hB ⟨h8, h10, h12, _⟩
          have h8 : vals 8 = _ := h8
          have h10 : vals 10 = _ := h10
          have h12 : vals 12 = _ := h12
          dsimp only [putsL, slotOf]
          rw [h8, h10, h12]
          go_wp2
          exact ⟨rfl, Below.refl _ _, rfl⟩
        · intro vals W hB ⟨h6, h13, _⟩
          have h13 : vals 13 = _ := h13
          dsimp only [putsL, slotOf]
          rw [h13]
          go_wp2_with ((go_at_call 71; (with_reducible refine (HG8.out _).mono ?_); rintro e w4 ⟨rfl, hb4⟩))
          exact ⟨rfl, hb4, rfl⟩
        · intro vals W hB ⟨h7, h14, _⟩
          have h7 : vals 7 = _ := h7
          have h14 : vals 14 = _ := h14
          dsimp only [putsL, slotOf]
          rw [h7, h14]
          go_wp2
          exact ⟨rfl, Below.refl _ _, rfl⟩
        · intro vals W hB ⟨h15, _⟩
          have h15 : vals 15 = _ := h15
          dsimp only [putsL, slotOf]
          rw [h15]
          go_wp2
          exact ⟨rfl, below_al (Below.refl _ _) _, _, Nat.zero_le _, rfl, heap_alloc_new _ _⟩
        rintro vals W hB ⟨q0, q1, q2, q3, q4, q5, q6, q7, q8, q9, q10, q11, q12, q13, q14, q15, ⟨g16, hw16, q16, hg16⟩, -⟩
        have h0 : vals 0 = _ := q0
        have h1 : vals 1 = _ := q1
        have h2 : vals 2 = _ := q2
        have h3 : vals 3 = _ := q3
        have h4 : vals 4 = _ := q4
        have h5 : vals 5 = _ := q5
        have h6 : vals 6 = _ := q6
        have h7 : vals 7 = _ := q7
        have h8 : vals 8 = _ := q8
        have h9 : vals 9 = _ := q9
        have h10 : vals 10 = _ := q10
        have h11 : vals 11 = _ := q11
        have h12 : vals 12 = _ := q12
        have h13 : vals 13 = _ := q13
        have h14 : vals 14 = _ := q14
        have h15 : vals 15 = _ := q15
        have h16 : vals 16 = _ := q16
        dsimp only [putsL]
        rw [h0, h1, h2, h3, h4, h5, h6, h7, h8, h9, h10, h11, h12, h13, h14, h15, h16]
        clear h0 q0 h1 q1 h2 q2 h3 q3 h4 q4 h5 q5 h6 q6 h7 q7 h8 q8 h9 q9 h10 q10 h11 q11 h12 q12 h13 q13 h14 q14 h15 q15 h16 q16
        simp only [List.length_cons, List.length_nil, Nat.reduceAdd, List.drop_succ_cons, List.drop_zero, List.setIfInBounds_toArray, List.set_cons_succ, List.set_cons_zero]
        have HBW : Veil _ := ⟨hB⟩
        have HA4 : Veil (OwnS W w.heap.size u5 L) := ⟨hA.out.kept (Turned.new (F := fun _ => False) hB) (fun _ _ h => h)⟩
        have HB4 : Veil _ := ⟨alb_then HB.out hB⟩
        have HG16 : Veil _ := ⟨hg16⟩
        clear hB hg16 hw16
        go_wp2_with (at_builtin; refine wpList_append_sp rfl (.tmp 31) (.tmp 47) rfl w.heap.size _ L ⟨pg, tx⟩ rfl HA4.out g16 rfl HG16.out (by have := HLK.out; omega) (by have := HB4.out.size; omega) ?_; intro v' w5 hown5 hgrow5)
        refine ⟨⟨k + 1, m + 12, by omega, by have := HMM.out; omega, by go_num, ?_, ⟨by rw [HLE.out]; exact hown5⟩⟩, ?_⟩
        · exact own_grown0 HB4.out (Nat.le_refl _) HA4.out hgrow5
        · simp only [intOf]; omega
      · obtain rfl : k = n := by omega
        have HB : Veil _ := ⟨hB⟩
        clear hB hix HX
        obtain ⟨p, c, rfl, hsp⟩ := hA.out.form
        have hpp : ∀ a, p = some a → a.block < wr.heap.size := fun a ha => (hA.out.lt (by rw [ha]; rfl)).2
        have HS : Veil (Sps wr p (spsOf s k) ∧ ∀ a, p = some a → a.block < wr.heap.size) := ⟨hsp, hpp⟩
        clear hsp hpp
        go_wp2_with (go_at_call 71; (with_reducible refine (HG0.out _).mono ?_); rintro e w4 ⟨rfl, hb4⟩)
        refine bodyPost_ret (results_three rfl rfl rfl rfl) rfl ?_
        exact ⟨p, c, rfl, HS.out.1.below hb4, fun a ha => Nat.lt_of_lt_of_le (HS.out.2 a ha) hb4.size, alb_then HB.out hb4⟩
  · have e : Ps.of s = ⟨0, [], 50⟩ := by rw [HP.out, if_neg (by rw [HO.out]; omega)]
    rw [e]
    have hne : ((s.length : Int) != 5 + 12 * (n : Int)) = true := by simp; omega
    clear e HP HO
    go_enter Try.func41, Try.ntmps41
    go_wp2
    refine bodyPost_ret (results_three rfl rfl rfl rfl) rfl ?_
    exact ⟨none, 0, rfl, Sps.nil _ _, fun a ha => (by cases ha), Below.refl _ _⟩
end Go.Proofs.Ytapmppiiphbcpaa
