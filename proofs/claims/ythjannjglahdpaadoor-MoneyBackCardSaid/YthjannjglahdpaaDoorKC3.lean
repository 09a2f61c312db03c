/- Money: the document's own Same; the program's Bytes, Parse stand-ins are in CQ. -/
import Derived.BigQuiet
import Derived.Test.YthjannjglahdpaaDoorKC2
namespace Go.Proofs.YthjannjglahdpaaDoor
open Go Go.RowKit Sm
attribute [local go_sem] Oper.semAt_some

theorem take_nextI {a b : List Int} {m : Nat} (h1 : m < a.length) (h2 : m < b.length) (h : a.take m = b.take m) (he : a.getD m 0 = b.getD m 0) : a.take (m + 1) = b.take (m + 1) := by
  rw [List.take_add_one, List.take_add_one, h]
  have e1 : a[m]? = some (a.getD m 0) := by simp [List.getD, h1]
  have e2 : b[m]? = some (b.getD m 0) := by simp [List.getD, h2]
  rw [e1, e2, he]
theorem differI {a b : List Int} {m : Nat} (he : a.getD m 0 ≠ b.getD m 0) : a ≠ b := fun h => he (by rw [h])
theorem bc_drewN {B : Nat} {w w1 : World} (n : Nat) (h : Below B w w1) : Below B w (w1.drewN n) := ⟨h.os, h.tape, h.output, h.size, h.block⟩

set_option maxRecDepth 20000 in
set_option maxHeartbeats 1000000 in
theorem refsameM_any {w : World} {p q : Option Addr} (a b : List Int) (ca cb : Nat) (ha : Els elL w p a) (hb : Els elL w q b) (hl : a.length ≤ 1000000) (_ : b.length ≤ 1000000) :
    Calls Tryd.prog 25 #[.slice p a.length ca, .slice q b.length cb] w fun e w' => e = .returned (.bool (decide (a = b))) ∧ Below w.heap.size w w' := by
  obtain ⟨r, hr⟩ : ∃ r, decide (a = b) = r := ⟨_, rfl⟩
  have HR : Veil _ := ⟨hr⟩
  rw [hr]
  clear hr
  by_cases hlen : a.length = b.length
  · have HA : Veil _ := ⟨ha⟩
    have HB : Veil _ := ⟨hb⟩
    have HL : Veil _ := ⟨hlen⟩
    clear ha hb
    rw [← hlen]
    clear hlen
    go_enter Tryd.func25, Tryd.ntmps25
    go_wp2
    go_loopw [5] (fun i wr => ∃ k : Nat, k ≤ a.length ∧ i = .int .i64 k ∧ Veil (a.take k = b.take k ∧ Below w.heap.size w wr)) (fun i _ => a.length - (intOf i).toNat)
    case atStart => exact ⟨0, Nat.zero_le _, rfl, ⟨rfl, Below.refl _ _⟩⟩
    case round =>
      obtain ⟨k, hk, rfl, hJ⟩ := hrel
      by_cases hlt : k < a.length
      · obtain ⟨b1, o1, rfl, hc⟩ := els_load (HA.out.below hJ.out.2) hlt
        obtain ⟨b2, o2, rfl, hd⟩ := els_load (HB.out.below hJ.out.2) (by have := HL.out; omega : k < b.length)
        have HT : Veil _ := ⟨take_nextI hlt (by have := HL.out; omega : k < b.length) hJ.out.1⟩
        have HD : Veil _ := ⟨@differI a b k⟩
        revert HD; revert HT; revert hd; revert hc
        generalize a.getD k 0 = x
        generalize b.getD k 0 = y
        intro hc hd HT HD
        by_cases hxy : x = y
        · subst hxy
          have HT' : Veil _ := ⟨HT.out rfl⟩
          clear HT HD
          go_wp2
          go_quiet (fail)
          go_wp2
          refine ⟨⟨k + 1, by omega, by go_num, ⟨HT'.out, bc_drewN _ hJ.out.2⟩⟩, ?_⟩
          simp only [intOf]; omega
        · have HE : Veil (r = false) := ⟨by rw [← HR.out]; exact decide_eq_false (HD.out hxy)⟩
          have e1 := HE.out
          subst e1
          clear HT HD
          go_wp2
          go_quiet (fail)
          go_wp2
          go_ret
          exact ⟨rfl, bc_drewN _ hJ.out.2⟩
      · have HE : Veil (r = true) := ⟨by
          rw [← HR.out]
          have h := hJ.out.1
          have hl := HL.out
          rw [List.take_of_length_le (by omega), List.take_of_length_le (by omega)] at h
          exact decide_eq_true h⟩
        have e1 := HE.out
        subst e1
        go_wp2
        go_ret
        exact ⟨rfl, hJ.out.2⟩
  · have HE : Veil (r = false) := ⟨by rw [← HR.out]; exact decide_eq_false (fun h => hlen (by rw [h]))⟩
    have e1 := HE.out
    subst e1
    go_enter Tryd.func25, Tryd.ntmps25
    go_wp2
    go_ret
    exact ⟨rfl, Below.refl _ _⟩
end Go.Proofs.YthjannjglahdpaaDoor

/- Amounts and bytes are one to one: reckoning. -/
namespace Go.Proofs.YthjannjglahdpaaDoor
open Go Go.RowKit Sm
attribute [local go_sem] Oper.semAt_some

theorem p8e : (256 : Nat) ^ 8 = 18446744073709551616 := rfl
theorem eightM_cons (a : List UInt8) (r : List UInt8) (ha : a.length = 8) (i : Nat) : eightM (a ++ r) (i + 1) = eightM r i := by
  unfold eightM
  rw [show 8 * (i + 1) = 8 + 8 * i by omega, ← List.drop_drop, List.drop_left' ha]
theorem eightM_zero (a : List UInt8) (r : List UInt8) (ha : a.length = 8) : eightM (a ++ r) 0 = getB a := by
  unfold eightM
  rw [Nat.mul_zero, List.drop_zero, List.take_left' ha]
theorem eightsM_cons (a r : List UInt8) (ha : a.length = 8) : eightsM (a ++ r) = getB a :: eightsM r := by
  unfold eightsM
  rw [List.length_append, ha, show (8 + r.length) / 8 = r.length / 8 + 1 by omega, List.range_succ_eq_map, List.map_cons, List.map_map, eightM_zero a r ha]
  congr 1
  refine List.map_congr_left fun i _ => ?_
  exact eightM_cons a r ha i
theorem eights_bytes : ∀ l : List Int, l.all amt = true → (eightsM (bytesM l)).map (fun (n : Nat) => (n : Int)) = l ∧ (eightsM (bytesM l)).all (fun n => decide (n ≤ 1152921504606846976)) = true
  | [], _ => ⟨rfl, rfl⟩
  | a :: r, h => by
    rw [List.all_cons, Bool.and_eq_true] at h
    obtain ⟨i1, i2⟩ := eights_bytes r h.2
    have ha := (amt_iff a).1 h.1
    have e : bytesM (a :: r) = putB a.toNat 8 ++ bytesM r := rfl
    have g : getB (putB a.toNat 8) = a.toNat := getB_putB _ _ (by decide) (by rw [p8e]; omega)
    rw [e, eightsM_cons _ _ (putB_length _ _), g, List.map_cons, List.all_cons, i1, i2]
    exact ⟨by congr 1; omega, by simp; omega⟩
theorem bytes_back (l : List Int) (h : (bytesR l).2 = 0) : parseR (bytesR l).1 = (l, 0) ∧ (bytesR l).1.length = 8 * l.length := by
  unfold bytesR at h ⊢
  by_cases ha : l.all amt = true
  · rw [if_pos ha]
    obtain ⟨h1, h2⟩ := eights_bytes l ha
    unfold parseR isM
    dsimp only
    rw [h1, h2, bytesM_len, if_pos (by simp)]
    exact ⟨rfl, rfl⟩
  · rw [if_neg ha] at h
    exact absurd h (by decide)
theorem bytes_eights : ∀ (n : Nat) (s : List UInt8), s.length = 8 * n → bytesM ((eightsM s).map fun (n : Nat) => (n : Int)) = s
  | 0, s, h => by
    have : s = [] := List.eq_nil_of_length_eq_zero (by omega)
    subst this; rfl
  | n + 1, s, h => by
    have e : s = s.take 8 ++ s.drop 8 := (List.take_append_drop 8 s).symm
    have hl : (s.take 8).length = 8 := by rw [List.length_take]; omega
    have ih := bytes_eights n (s.drop 8) (by rw [List.length_drop]; omega)
    have g := putB_getB (s.take 8) (by omega)
    rw [hl] at g
    have h1 := eightsM_cons (s.take 8) (s.drop 8) hl
    rw [← e] at h1
    rw [h1, List.map_cons]
    show putB ((getB (s.take 8) : Nat) : Int).toNat 8 ++ bytesM _ = s
    rw [ih, Int.toNat_natCast, g]
    exact e.symm
theorem parse_back (s : List UInt8) (h : (parseR s).2 = 0) : bytesR (parseR s).1 = (s, 0) := by
  unfold parseR at h ⊢
  by_cases ha : isM s = true
  · rw [if_pos ha]
    unfold isM at ha
    rw [Bool.and_eq_true, decide_eq_true_iff] at ha
    unfold bytesR
    dsimp only
    rw [bytes_eights (s.length / 8) s (by omega), if_pos]
    rw [List.all_map, List.all_eq_true]
    intro n hn
    have h2 := List.all_eq_true.1 ha.2 n hn
    rw [decide_eq_true_iff] at h2
    show amt (n : Int) = true
    rw [amt_iff]
    omega
  · rw [if_neg ha] at h
    exact absurd h (by decide)
theorem parse_len (s : List UInt8) : (parseR s).1.length ≤ s.length := by
  unfold parseR
  by_cases ha : isM s = true
  · rw [if_pos ha, List.length_map, eightsM_len]; omega
  · rw [if_neg ha]; exact Nat.zero_le _
theorem bytesR_len (l : List Int) : (bytesR l).1.length ≤ 8 * l.length := by
  unfold bytesR
  split
  · exact Nat.le_of_eq (bytesM_len l)
  · exact Nat.zero_le _

end Go.Proofs.YthjannjglahdpaaDoor
