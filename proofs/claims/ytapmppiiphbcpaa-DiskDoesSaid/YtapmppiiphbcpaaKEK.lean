/- The law DiskDoes. -/
import Derived.BigQuiet
import Derived.Test.YtapmppiiphbcpaaKEJ
import Derived.Test.YtapmppiiphbcpaaKD8
namespace Go.Proofs.Ytapmppiiphbcpaa
open Go Go.RowKit Sm
attribute [local go_sem] Oper.semAt_some

/-- Each act's list of numbers. -/
def ActsK (w : World) (l : List A) : Prop := ∀ (i : Nat) (x : A), l[i]? = some x → ∃ zs : List Int, zs.length = x.kn ∧ Ints w x.kp zs ∧ x.kn ≤ x.kc ∧ x.kc ≤ 9223372036854775807 ∧ (zs ≠ [] → ∀ a : Addr, x.kp = some a → a.block < w.heap.size)
theorem ints_below {w w' : World} {p : Option Addr} {zs : List Int} (h : Ints w p zs) (hb : Below w.heap.size w w') : Ints w' p zs := fun hne => by
  obtain ⟨b, off, hp, hc⟩ := h hne
  exact ⟨b, off, hp, fun i hi => (hb.cell (lt_of_cell (hc i hi))).trans (hc i hi)⟩
/-- The sectors of the unsynced writes. -/
def usI (D : Dk) : List Int := D.uns.map fun x => (x.1 : Int)
theorem ints_of_row {w : World} {base n : Nat} {v : Value} {D : Dk} (h : w.ownsRow base 3 1 v n (D.uns.map atv)) (hn : n = D.uns.length) : ∃ p cap, v = .slice p n cap ∧ Ints w p (usI D) := by
  obtain ⟨p, cap, rfl, hc⟩ := row_form h
  refine ⟨p, cap, rfl, fun hne => ?_⟩
  have h0 : 0 < n := by
    rw [hn]
    rcases Nat.eq_zero_or_pos D.uns.length with h | h
    · exact absurd (by simp [usI, List.eq_nil_of_length_eq_zero h]) hne
    · exact h
  obtain ⟨g, rfl, hg⟩ := hc h0
  refine ⟨g, 0, rfl, fun i hi => ?_⟩
  have hi' : i < D.uns.length := by simpa [usI] using hi
  rw [Nat.zero_add]
  exact hg i _ (by simp [usI, atv, List.getD, hi'])
theorem rnew_bad (n : Int) (h : n < 1 ∨ 65536 < n) (w : World) : Calls Try.prog 15 #[.int .i64 n] w fun e w' => e = .returned (.tuple #[.pointer none, .int .i64 2]) ∧ Below w.heap.size w w' := by
  rcases h with h | h
  · go_enter Try.func15, Try.ntmps15
    go_wp2
    exact bodyPost_ret (results_two rfl rfl rfl) rfl ⟨rfl, Below.refl _ _⟩
  · have h1 : ¬ n < 1 := by omega
    go_enter Try.func15, Try.ntmps15
    go_wp2
    exact bodyPost_ret (results_two rfl rfl rfl) rfl ⟨rfl, Below.refl _ _⟩
def DoesI (w : World) (d kb sb r n k : Nat) (W : World) : Prop := ∃ D, Both w d kb sb r (fun _ => False) D D W ∧ D.kept.length = n ∧ D.uns.length ≤ k ∧ D.ops ≤ k ∧ D.Inv

set_option maxRecDepth 20000 in
set_option maxHeartbeats 8000000 in
theorem diskDoes_any (z : Int) (p : Option Addr) (l : List A) (lc : Nat) (w : World) (hA : Acts w p l) (hp : ∀ a, p = some a → a.block < w.heap.size) (hK : ActsK w l) :
    Calls Try.prog 3 #[.int .i64 z, .slice p l.length lc] w fun e w' => e = .returned (.bool true) ∧ Below w.heap.size w w' := by
  have HA : Veil _ := ⟨hA⟩
  have HP : Veil _ := ⟨hp⟩
  have HK : Veil _ := ⟨hK⟩
  clear hA hp hK
  have h3 : (40 < z ∧ z ≤ 65536) ∨ ((z < 1 ∨ 65536 < z) ∧ ¬ (40 < z ∧ z ≤ 65536)) ∨ ∃ n : Nat, 1 ≤ n ∧ n ≤ 40 ∧ z = n := by
    by_cases h1 : 1 ≤ z ∧ z ≤ 40
    · exact .inr (.inr ⟨z.toNat, by omega, by omega, by omega⟩)
    · omega
  rcases h3 with ⟨h1, h2⟩ | ⟨h1, h2⟩ | ⟨n, hn1, hn40, rfl⟩
  · go_enter Try.func3, Try.ntmps3
    go_wp2_with (go_at_call 13; refine (shown_any _).mono ?_; rintro e w1 ⟨rfl, hb1⟩)
    go_ret
    exact ⟨rfl, hb1⟩
  · have HN : Veil _ := ⟨new_bad z h1⟩
    have HNr : Veil _ := ⟨rnew_bad z h1⟩
    have h4 : (decide (40 < z) && decide (z ≤ 65536)) = false := by simp; omega
    have h5 : z < 1 ∨ (¬ z ≤ 65536) := by omega
    clear h1 h2
    rcases h5 with h5 | h5
    · have h6 : ¬ 40 < z := by omega
      go_enter Try.func3, Try.ntmps3
      go_wp2_with (first
        | (go_at_call 13; refine (shown_any _).mono ?_; rintro e w1 ⟨rfl, hb1⟩)
        | (go_at_call 14; refine (HN.out _).mono ?_; rintro e w2 ⟨rfl, hb2⟩; have HB2 : Veil _ := ⟨below_then hb1 hb2⟩)
        | (go_at_call 15; refine (HNr.out _).mono ?_; rintro e w3 ⟨rfl, hb3⟩; have HB3 : Veil _ := ⟨below_then HB2.out hb3⟩))
      go_ret
      exact ⟨rfl, HB3.out⟩
    · have h6 : 40 < z := by omega
      go_enter Try.func3, Try.ntmps3
      go_wp2_with (first
        | (go_at_call 13; refine (shown_any _).mono ?_; rintro e w1 ⟨rfl, hb1⟩)
        | (go_at_call 14; refine (HN.out _).mono ?_; rintro e w2 ⟨rfl, hb2⟩; have HB2 : Veil _ := ⟨below_then hb1 hb2⟩)
        | (go_at_call 15; refine (HNr.out _).mono ?_; rintro e w3 ⟨rfl, hb3⟩; have HB3 : Veil _ := ⟨below_then HB2.out hb3⟩))
      go_ret
      exact ⟨rfl, HB3.out⟩
  · have hz1 : ¬ (40 : Int) < (n : Int) := by omega
    have HN : Veil (1 ≤ n ∧ n ≤ 40) := ⟨hn1, hn40⟩
    have HNew : Veil (∀ A, Calls Try.prog 14 #[.int .i64 n] A (NewPost A n)) := ⟨new_any n hn1 (by omega)⟩
    have HNewR : Veil _ := ⟨rnew_any n hn1 (by omega)⟩
    clear hn1 hn40
    go_enter Try.func3, Try.ntmps3
    go_wp2_with (first
      | (go_at_call 13; refine (shown_any _).mono ?_; rintro e w1 ⟨rfl, hb1⟩)
      | (go_at_call 14; refine (HNew.out _).mono ?_; intro e w2 hp2; obtain ⟨d, kb, sb, rfl, hM2, -⟩ := MyD.new hb1 hp2; have HM2 : Veil _ := ⟨hM2⟩; clear hM2 hp2)
      | (go_at_call 15; refine (HNewR.out _).mono ?_; rintro e w3 ⟨r, vs, rfl, hR, hb3, hr1, hr2⟩; have HM3 : Veil _ := ⟨Both.new HM2.out hb3 hR hr1 hr2⟩; clear hR hb3 hr1 hr2)
      | fail)
    have HI : Veil (DoesI w d kb sb r n 0 w3) := ⟨_, HM3.out, by simp [Dk.new], Nat.le_refl _, Nat.le_refl _, Dk.Inv.new n⟩
    clear HM3 HM2 hb1 HNew HNewR hz1
    go_loopw [10] (fun i w' => ∃ k : Nat, k ≤ l.length ∧ k ≤ 80 ∧ i = .int .i64 k ∧ Veil (DoesI w d kb sb r n k w')) (fun i _ => 80 - (intOf i).toNat)
    case atStart => exact ⟨0, Nat.zero_le _, Nat.zero_le _, rfl, HI⟩
    case round =>
      obtain ⟨k, hk, hk80, rfl, hI⟩ := hrel
      clear HI
      by_cases hin : k < l.length ∧ k < 80
      · obtain ⟨hl, h80⟩ := hin
        obtain ⟨D, hM, hkn, hu, ho, hinv⟩ := hI.out
        obtain ⟨b, off, rfl, hc⟩ := HA.out (by intro h; simp [h] at hl)
        have hbl := HP.out _ rfl
        have hc' := hc k l[k] (List.getElem?_eq_getElem hl)
        obtain ⟨zs, hzl, hz, hkc, hkm, hkb⟩ := HK.out k l[k] (List.getElem?_eq_getElem hl)
        generalize l[k] = x at hc' hzl hz hkc hkm hkb
        have e : ∀ o, wr.cell? ⟨b, o, none⟩ = w.cell? ⟨b, o, none⟩ := fun o => World.cell?_of_block (hM.in.block b hbl)
        rw [← e, ← e, ← e, ← e] at hc'
        obtain ⟨hxs, c0, c1, c2, c3⟩ := hc'
        have HD : Veil _ := ⟨did_any hM hinv (by have := HN.out; omega) (by omega) (by omega) x zs hxs hz hzl hkc hkm hkb⟩
        clear hc hbl e hM hI hinv hz hzl hkc hkm hkb hxs
        obtain ⟨act, sec, s, kp, kn, kc⟩ := x
        dsimp only at *
        go_wp2_with (go_at_call 16; refine HD.out.mono ?_; rintro e w4 ⟨rfl, D1, hM4, f1, f2, f3, f4⟩; have HM4 : Veil _ := ⟨hM4⟩; have HF : Veil (D1.kept.length = n ∧ D1.uns.length ≤ k + 1 ∧ D1.ops ≤ k + 1 ∧ D1.Inv) := ⟨by omega, by omega, by omega, f4⟩; clear hM4 f1 f2 f3 f4)
        clear c0 c1 c2 c3 HD hkn hu ho
        obtain ⟨us, hus⟩ : ∃ us, usI D1 = us := ⟨_, rfl⟩
        obtain ⟨un, hun⟩ : ∃ un, D1.uns.length = un := ⟨_, rfl⟩
        obtain ⟨no, hno⟩ : ∃ no, D1.ops = no := ⟨_, rfl⟩
        obtain ⟨nk, hnk⟩ : ∃ nk, D1.kept.length = nk := ⟨_, rfl⟩
        have hul : us.length = un := by rw [← hus, ← hun]; simp [usI]
        have hu81 : un ≤ 81 := by have := HF.out; omega
        obtain ⟨v, vs1, vw, vb, h1, h2, -⟩ := HM4.out
        have hb1 : ∀ {W}, Below w4.heap.size w4 W → DiskAt W d kb sb v D1 := fun hb => h1.kept' (Turned.new hb : Turned (fun _ => False) _ _) (fun _ => False.elim)
        have hb2 : ∀ {W}, Below w4.heap.size w4 W → RefAt W r vs1 vw vb D1 := fun hb => h2.kept' (Turned.new hb : Turned (fun _ => False) _ _) (fun _ => False.elim)
        obtain ⟨ps, cs, hvs, -⟩ := row_form h2.s
        obtain ⟨pw, cw, hvw, hiw⟩ := ints_of_row h2.u rfl
        rw [hnk] at hvs
        rw [hun] at hvw
        rw [hus] at hiw
        have HU : Veil (∀ W, Below w4.heap.size w4 W → Calls Try.prog 18 #[.pointer (some ⟨d, 0, none⟩)] W fun e w' => ∃ p c, e = .returned (.slice p un c) ∧ Ints w' p us ∧ Below W.heap.size W w') := ⟨fun W hW => (unsynced_any (hb1 hW)).mono fun e w' ⟨s, he, hs, hb⟩ => by
          obtain ⟨p, c, rfl, hi⟩ := ints_of_row hs rfl
          rw [hus] at hi
          rw [hun] at he
          exact ⟨p, c, he, hi, hb⟩⟩
        have HCE : Veil (∀ W, Below w4.heap.size w4 W → W.cell? ⟨r, 0, none⟩ = some (.slice ps nk cs) ∧ W.cell? ⟨r, 1, none⟩ = some (.slice pw un cw) ∧ W.cell? ⟨r, 3, none⟩ = some (.int .i64 no)) := ⟨fun W hW => by
          have := hb2 hW
          exact ⟨by rw [this.c0, hvs], by rw [this.c1, hvw], by rw [this.c3, hno]⟩⟩
        have HIN : Veil (∀ W, Below w4.heap.size w4 W → ∀ q c, Ints W q us → Calls Try.prog 17 #[.slice q un c, .slice pw un cw] W fun e w' => e = .returned (.bool true) ∧ Below W.heap.size W w') := ⟨fun W hW q c hq => by
          have := ints_same q pw us c cw W hq (ints_below hiw hW) ⟨by omega⟩
          rwa [hul] at this⟩
        have HOP : Veil (∀ W, Below w4.heap.size w4 W → Calls Try.prog 19 #[.pointer (some ⟨d, 0, none⟩)] W fun e w' => e = .returned (.int .i64 no) ∧ Below W.heap.size W w') := ⟨fun W hW => (ops_any (hb1 hW)).mono fun e w' ⟨he, hw⟩ => ⟨by rw [he, hno], hw ▸ Below.refl _ _⟩⟩
        have HSE : Veil (∀ W, Below w4.heap.size w4 W → Calls Try.prog 20 #[.pointer (some ⟨d, 0, none⟩)] W fun e w' => e = .returned (.int .i64 nk) ∧ Below W.heap.size W w') := ⟨fun W hW => (sectors_any (hb1 hW)).mono fun e w' ⟨he, hw⟩ => ⟨by rw [he, hnk], hw ▸ Below.refl _ _⟩⟩
        have HNK : Veil (D1.kept.length = nk ∧ nk = n) := ⟨hnk, by have := HF.out.1; omega⟩
        clear h1 h2 hb1 hb2 hvs hvw hiw hus hun hno hnk hul
        go_wp2
        refine region_new [.is (.bool true), .is (.bool false), .is (.bool false), .is (.pointer (some ⟨d, 0, none⟩)), .gen (fun v W => ∃ p c, v = .slice p un c ∧ Ints W p us) (fun v W W' hb ⟨p, c, e, h⟩ => ⟨p, c, e, ints_below h hb⟩), .is (.pointer (some ⟨r, 0, none⟩)), .is (.pointer (some ⟨r, 0, none⟩)), .is (.pointer (some ⟨r, 1, none⟩)), .is (.slice pw un cw), .is (.bool true), .is (.bool false), .is (.bool false), .is (.bool false), .is (.pointer (some ⟨d, 0, none⟩)), .is (.int .i64 no), .is (.pointer (some ⟨r, 0, none⟩)), .is (.pointer (some ⟨r, 0, none⟩)), .is (.pointer (some ⟨r, 3, none⟩)), .is (.int .i64 no), .is (.bool false), .is (.bool false), .is (.bool false), .is (.pointer (some ⟨d, 0, none⟩)), .is (.int .i64 nk), .is (.pointer (some ⟨r, 0, none⟩)), .is (.pointer (some ⟨r, 0, none⟩)), .is (.pointer (some ⟨r, 0, none⟩)), .is (.slice ps nk cs), .is (.int .i64 nk), .is (.bool false)]
          [[], [(0, 64)], [(1, 65)], [(2, 66)], [(2, 66), (3, 67)], [(2, 66)], [(2, 66), (5, 69)], [(2, 66), (6, 70)], [(2, 66), (7, 71)], [(2, 66), (4, 68), (8, 72)], [(2, 66), (9, 73)], [(2, 66), (10, 74)], [(11, 75)], [(12, 76)], [(12, 76), (13, 77)], [(12, 76)], [(12, 76), (15, 79)], [(12, 76), (16, 80)], [(12, 76), (17, 81)], [(12, 76), (14, 78), (18, 82)], [(12, 76), (19, 83)], [(20, 84)], [(21, 85)], [(21, 85), (22, 86)], [(21, 85)], [(21, 85), (24, 88)], [(21, 85), (25, 89)], [(21, 85), (26, 90)], [(21, 85), (27, 91)], [(21, 85), (23, 87), (28, 92)]]
          [[], [0], [1], [2], [2, 3], [2], [2, 5], [2, 6], [2, 7], [2, 4, 8], [2, 9], [2, 10], [9, 11], [12], [12, 13], [12], [12, 15], [12, 16], [12, 17], [12, 14, 18], [12, 19], [14, 20], [21], [21, 22], [21], [21, 24], [21, 25], [21, 26], [21, 27], [21, 23, 28]]
          [(0, 64), (1, 65), (2, 66), (3, 67), (4, 68), (5, 69), (6, 70), (7, 71), (8, 72), (9, 73), (10, 74), (11, 75), (12, 76), (13, 77), (14, 78), (15, 79), (16, 80), (17, 81), (18, 82), (19, 83), (20, 84), (21, 85), (22, 86), (23, 87), (24, 88), (25, 89), (26, 90), (27, 91), (28, 92), (29, 93)] rfl (by kernel_rfl) ⟨?_, ?_, ?_, ?_, ?_, ?_, ?_, ?_, ?_, ?_, ?_, ?_, ?_, ?_, ?_, ?_, ?_, ?_, ?_, ?_, ?_, ?_, ?_, ?_, ?_, ?_, ?_, ?_, ?_, ?_, trivial⟩ ?_
        · intro vals W hB _
          dsimp only [putsL, slotOf]
          go_wp2
          exact ⟨rfl, Below.refl _ _, rfl⟩
        · intro vals W hB ⟨h0, _⟩
          have h0 : vals 0 = _ := h0
          dsimp only [putsL, slotOf]
          rw [h0]
          go_wp2
          exact ⟨rfl, Below.refl _ _, rfl⟩
        · intro vals W hB ⟨h1, _⟩
          have h1 : vals 1 = _ := h1
          dsimp only [putsL, slotOf]
          rw [h1]
          go_wp2
          exact ⟨rfl, Below.refl _ _, rfl⟩
        · intro vals W hB ⟨h2, _⟩
          have h2 : vals 2 = _ := h2
          dsimp only [putsL, slotOf]
          rw [h2]
          go_wp2
          exact ⟨rfl, Below.refl _ _, rfl⟩
        · intro vals W hB ⟨h2, h3, _⟩
          have h2 : vals 2 = _ := h2
          have h3 : vals 3 = _ := h3
          dsimp only [putsL, slotOf]
          rw [h2, h3]
          go_wp2_with ((go_at_call 18; (refine (HU.out W hB).mono ?_); rintro e w4 ⟨pu, cu, rfl, hz4, hb4⟩))
          exact ⟨rfl, hb4, ⟨_, _, rfl, hz4⟩⟩
        · intro vals W hB ⟨h2, _⟩
          have h2 : vals 2 = _ := h2
          dsimp only [putsL, slotOf]
          rw [h2]
          go_wp2
          exact ⟨rfl, Below.refl _ _, rfl⟩
        · intro vals W hB ⟨h2, h5, _⟩
          have h2 : vals 2 = _ := h2
          have h5 : vals 5 = _ := h5
          dsimp only [putsL, slotOf]
          rw [h2, h5]
          go_wp2
          exact ⟨rfl, Below.refl _ _, rfl⟩
        · intro vals W hB ⟨h2, h6, _⟩
          have h2 : vals 2 = _ := h2
          have h6 : vals 6 = _ := h6
          dsimp only [putsL, slotOf]
          rw [h2, h6]
          go_wp2
          exact ⟨rfl, Below.refl _ _, rfl⟩
        · intro vals W hB ⟨h2, h7, _⟩
          have h2 : vals 2 = _ := h2
          have h7 : vals 7 = _ := h7
          have c1 := (HCE.out W hB).2.1
          dsimp only [putsL, slotOf]
          rw [h2, h7]
          go_wp2
          exact ⟨rfl, Below.refl _ _, rfl⟩
        · intro vals W hB ⟨h2, ⟨pu4, cu4, h4, hz4⟩, h8, _⟩
          have h2 : vals 2 = _ := h2
          have h4 : vals 4 = _ := h4
          have h8 : vals 8 = _ := h8
          dsimp only [putsL, slotOf]
          rw [h2, h4, h8]
          go_wp2_with ((go_at_call 17; (refine (HIN.out W hB pu4 cu4 hz4).mono ?_); rintro e w4 ⟨rfl, hb4⟩))
          exact ⟨rfl, hb4, rfl⟩
        · intro vals W hB ⟨h2, h9, _⟩
          have h2 : vals 2 = _ := h2
          have h9 : vals 9 = _ := h9
          dsimp only [putsL, slotOf]
          rw [h2, h9]
          go_wp2
          exact ⟨rfl, Below.refl _ _, rfl⟩
        · intro vals W hB ⟨h2, h10, _⟩
          have h2 : vals 2 = _ := h2
          have h10 : vals 10 = _ := h10
          dsimp only [putsL, slotOf]
          rw [h2, h10]
          go_wp2
          exact ⟨rfl, Below.refl _ _, rfl⟩
        · intro vals W hB ⟨h9, h11, _⟩
          have h11 : vals 11 = _ := h11
          dsimp only [putsL, slotOf]
          rw [h11]
          go_wp2
          exact ⟨rfl, Below.refl _ _, rfl⟩
        · intro vals W hB ⟨h12, _⟩
          have h12 : vals 12 = _ := h12
          dsimp only [putsL, slotOf]
          rw [h12]
          go_wp2
          exact ⟨rfl, Below.refl _ _, rfl⟩
        · intro vals W hB ⟨h12, h13, _⟩
          have h12 : vals 12 = _ := h12
          have h13 : vals 13 = _ := h13
          dsimp only [putsL, slotOf]
          rw [h12, h13]
          go_wp2_with ((go_at_call 19; (refine (HOP.out W hB).mono ?_); rintro e w4 ⟨rfl, hb4⟩))
          exact ⟨rfl, hb4, rfl⟩
        · intro vals W hB ⟨h12, _⟩
          have h12 : vals 12 = _ := h12
          dsimp only [putsL, slotOf]
          rw [h12]
          go_wp2
          exact ⟨rfl, Below.refl _ _, rfl⟩
        · intro vals W hB ⟨h12, h15, _⟩
          have h12 : vals 12 = _ := h12
          have h15 : vals 15 = _ := h15
          dsimp only [putsL, slotOf]
          rw [h12, h15]
          go_wp2
          exact ⟨rfl, Below.refl _ _, rfl⟩
        · intro vals W hB ⟨h12, h16, _⟩
          have h12 : vals 12 = _ := h12
          have h16 : vals 16 = _ := h16
          dsimp only [putsL, slotOf]
          rw [h12, h16]
          go_wp2
          exact ⟨rfl, Below.refl _ _, rfl⟩
        · intro vals W hB ⟨h12, h17, _⟩
          have h12 : vals 12 = _ := h12
          have h17 : vals 17 = _ := h17
          have c1 := (HCE.out W hB).2.2
          dsimp only [putsL, slotOf]
          rw [h12, h17]
          go_wp2
          exact ⟨rfl, Below.refl _ _, rfl⟩
        · intro vals W hB ⟨h12, h14, h18, _⟩
          have h12 : vals 12 = _ := h12
          have h14 : vals 14 = _ := h14
          have h18 : vals 18 = _ := h18
          dsimp only [putsL, slotOf]
          rw [h12, h14, h18]
          go_wp2
          exact ⟨rfl, Below.refl _ _, rfl⟩
        · intro vals W hB ⟨h12, h19, _⟩
          have h12 : vals 12 = _ := h12
          have h19 : vals 19 = _ := h19
          dsimp only [putsL, slotOf]
          rw [h12, h19]
          go_wp2
          exact ⟨rfl, Below.refl _ _, rfl⟩
        · intro vals W hB ⟨h14, h20, _⟩
          have h20 : vals 20 = _ := h20
          dsimp only [putsL, slotOf]
          rw [h20]
          go_wp2
          exact ⟨rfl, Below.refl _ _, rfl⟩
        · intro vals W hB ⟨h21, _⟩
          have h21 : vals 21 = _ := h21
          dsimp only [putsL, slotOf]
          rw [h21]
          go_wp2
          exact ⟨rfl, Below.refl _ _, rfl⟩
        · intro vals W hB ⟨h21, h22, _⟩
          have h21 : vals 21 = _ := h21
          have h22 : vals 22 = _ := h22
          dsimp only [putsL, slotOf]
          rw [h21, h22]
          go_wp2_with ((go_at_call 20; (refine (HSE.out W hB).mono ?_); rintro e w4 ⟨rfl, hb4⟩))
          exact ⟨rfl, hb4, rfl⟩
        · intro vals W hB ⟨h21, _⟩
          have h21 : vals 21 = _ := h21
          dsimp only [putsL, slotOf]
          rw [h21]
          go_wp2
          exact ⟨rfl, Below.refl _ _, rfl⟩
        · intro vals W hB ⟨h21, h24, _⟩
          have h21 : vals 21 = _ := h21
          have h24 : vals 24 = _ := h24
          dsimp only [putsL, slotOf]
          rw [h21, h24]
          go_wp2
          exact ⟨rfl, Below.refl _ _, rfl⟩
        · intro vals W hB ⟨h21, h25, _⟩
          have h21 : vals 21 = _ := h21
          have h25 : vals 25 = _ := h25
          dsimp only [putsL, slotOf]
          rw [h21, h25]
          go_wp2
          exact ⟨rfl, Below.refl _ _, rfl⟩
        · intro vals W hB ⟨h21, h26, _⟩
          have h21 : vals 21 = _ := h21
          have h26 : vals 26 = _ := h26
          have c1 := (HCE.out W hB).1
          dsimp only [putsL, slotOf]
          rw [h21, h26]
          go_wp2
          exact ⟨rfl, Below.refl _ _, rfl⟩
        · intro vals W hB ⟨h21, h27, _⟩
          have h21 : vals 21 = _ := h21
          have h27 : vals 27 = _ := h27
          dsimp only [putsL, slotOf]
          rw [h21, h27]
          go_wp2
          exact ⟨rfl, Below.refl _ _, rfl⟩
        · intro vals W hB ⟨h21, h23, h28, _⟩
          have h21 : vals 21 = _ := h21
          have h23 : vals 23 = _ := h23
          have h28 : vals 28 = _ := h28
          dsimp only [putsL, slotOf]
          rw [h21, h23, h28]
          go_wp2
          exact ⟨rfl, Below.refl _ _, rfl⟩
        rintro vals W hB ⟨q0, q1, q2, q3, ⟨pu4, cu4, q4, hz4⟩, q5, q6, q7, q8, q9, q10, q11, q12, q13, q14, q15, q16, q17, q18, q19, q20, q21, q22, q23, q24, q25, q26, q27, q28, q29, -⟩
        have h0 : vals 0 = _ := q0
        have h1 : vals 1 = _ := q1
        have h2 : vals 2 = _ := q2
        have h3 : vals 3 = _ := q3
        have h4 : vals 4 = _ := q4
        have h5 : vals 5 = _ := q5
        have h6 : vals 6 = _ := q6
        have h7 : vals 7 = _ := q7
        have h8 : vals 8 = _ := q8
        have h9 : vals 9 = _ := q9
        have h10 : vals 10 = _ := q10
        have h11 : vals 11 = _ := q11
        have h12 : vals 12 = _ := q12
        have h13 : vals 13 = _ := q13
        have h14 : vals 14 = _ := q14
        have h15 : vals 15 = _ := q15
        have h16 : vals 16 = _ := q16
        have h17 : vals 17 = _ := q17
        have h18 : vals 18 = _ := q18
        have h19 : vals 19 = _ := q19
        have h20 : vals 20 = _ := q20
        have h21 : vals 21 = _ := q21
        have h22 : vals 22 = _ := q22
        have h23 : vals 23 = _ := q23
        have h24 : vals 24 = _ := q24
        have h25 : vals 25 = _ := q25
        have h26 : vals 26 = _ := q26
        have h27 : vals 27 = _ := q27
        have h28 : vals 28 = _ := q28
        have h29 : vals 29 = _ := q29
        dsimp only [putsL]
        rw [h0, h1, h2, h3, h4, h5, h6, h7, h8, h9, h10, h11, h12, h13, h14, h15, h16, h17, h18, h19, h20, h21, h22, h23, h24, h25, h26, h27, h28, h29]
        clear h0 q0 h1 q1 h2 q2 h3 q3 h4 q4 h5 q5 h6 q6 h7 q7 h8 q8 h9 q9 h10 q10 h11 q11 h12 q12 h13 q13 h14 q14 h15 q15 h16 q16 h17 q17 h18 q18 h19 q19 h20 q20 h21 q21 h22 q22 h23 q23 h24 q24 h25 q25 h26 q26 h27 q27 h28 q28 h29 q29
        simp only [List.length_cons, List.length_nil, Nat.reduceAdd, List.drop_succ_cons, List.drop_zero, List.setIfInBounds_toArray, List.set_cons_succ, List.set_cons_zero]
        have HM5 : Veil _ := ⟨HM4.out.below hB⟩
        clear hB hz4 HU HCE HIN HOP HSE HM4
        go_wp2
        have HU0 : Veil (∀ (A : World), Both w d kb sb r (fun _ => False) D1 D1 A → ∃ ps cs, A.cell? ⟨r, 0, none⟩ = some (.slice ps n cs)) := ⟨fun A hA => by
          obtain ⟨v, vs1, vw, vb, h1, h2, -⟩ := hA
          obtain ⟨ps, cs, hvs, -⟩ := row_form h2.s
          rw [HF.out.1] at hvs
          exact ⟨ps, cs, by rw [h2.c0, hvs]⟩⟩
        have HRD : Veil (∀ (j : Nat) (A : World), Both w d kb sb r (fun _ => False) D1 D1 A → ∃ (B : List UInt8) (C : Int), (Calls Try.prog 21 #[.pointer (some ⟨d, 0, none⟩), .int .i64 j] A fun e w' => e = .returned (.tuple #[.string ⟨B.toArray⟩, .int .i64 C]) ∧ Both w d kb sb r (fun _ => False) D1 D1 w') ∧
            ∀ A', Both w d kb sb r (fun _ => False) D1 D1 A' → Calls Try.prog 22 #[.pointer (some ⟨r, 0, none⟩), .int .i64 j] A' fun e w' => e = .returned (.tuple #[.string ⟨B.toArray⟩, .int .i64 C]) ∧ A' = w') := ⟨fun j A hA => by
          obtain ⟨B, C, hf⟩ := readR_form D1 (j : Int)
          refine ⟨B, C, (d_read hA (j : Int)).mono fun e w' ⟨h1, h2, h3⟩ => ⟨by rw [h1, hf], h2⟩, fun A' hA' => (d_rread hA' HF.out.2.2.2 (by have := HF.out; omega) (j : Int)).mono fun e w' ⟨h1, h2⟩ => ⟨by rw [h1, hf], h2⟩⟩⟩
        clear HK HNK
        go_loopw [12] (fun i w' => ∃ j : Nat, j ≤ n ∧ i = .int .i64 j ∧ Veil (Both w d kb sb r (fun _ => False) D1 D1 w')) (fun i _ => n - (intOf i).toNat)
        case atStart => exact ⟨0, Nat.zero_le _, rfl, HM5⟩
        case round =>
          obtain ⟨j, hj, rfl, hB⟩ := hrel
          clear HM5
          obtain ⟨ps1, cs1, c0⟩ := HU0.out _ hB.out
          by_cases hlt : j < n
          · obtain ⟨B, C, hr1, hr2⟩ := HRD.out j _ hB.out
            have HR1 : Veil _ := ⟨hr1⟩
            have HR2 : Veil _ := ⟨hr2⟩
            clear hr1 hr2
            go_wp2_with (first
              | (go_at_call 22; refine (HR2.out _ HB6.out).mono ?_; rintro e w7 ⟨rfl, rfl⟩)
              | (go_at_call 21; refine HR1.out.mono ?_; rintro e w6 ⟨rfl, hB6⟩; have HB6 : Veil _ := ⟨hB6⟩; clear hB6))
            go_roundw
            case rel => exact ⟨j + 1, by omega, by go_num, HB6⟩
            case measure => simp [intOf]; omega
          · obtain rfl : j = n := by omega
            go_wp2
            go_roundw
            case rel => exact ⟨k + 1, by omega, by omega, by go_num, ⟨D1, hB.out, HF.out.1, HF.out.2.1, HF.out.2.2.1, HF.out.2.2.2⟩⟩
            case measure => simp [intOf]; omega
      · obtain ⟨D, hM, -⟩ := hI.out
        by_cases h1 : k < l.length
        · have h2 : ¬ (k : Int) < 80 := by omega
          go_wp2
          go_ret
          exact ⟨rfl, hM.in⟩
        · have h2 : ¬ (k : Int) < l.length := by omega
          go_wp2
          go_ret
          exact ⟨rfl, hM.in⟩
end Go.Proofs.Ytapmppiiphbcpaa
