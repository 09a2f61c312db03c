/- Money: the document's own Same; the program's Bytes, Parse stand-ins are in CQ. -/
import Derived.BigQuiet
import Derived.Test.YtckkiilbabbeaaaDoorKC2
namespace Go.Proofs.YtckkiilbabbeaaaDoor
open Go Go.RowKit Sm
attribute [local go_sem] Oper.semAt_some

theorem take_nextI {a b : List Int} {m : Nat} (h1 : m < a.length) (h2 : m < b.length) (h : a.take m = b.take m) (he : a.getD m 0 = b.getD m 0) : a.take (m + 1) = b.take (m + 1) := by
  rw [List.take_add_one, List.take_add_one, h]
  have e1 : a[m]? = some (a.getD m 0) := by simp [List.getD, h1]
  have e2 : b[m]? = some (b.getD m 0) := by simp [List.getD, h2]
  rw [e1, e2, he]
theorem differI {a b : List Int} {m : Nat} (he : a.getD m 0 ≠ b.getD m 0) : a ≠ b := fun h => he (by rw [h])
theorem bc_drewN {B : Nat} {w w1 : World} (n : Nat) (h : Below B w w1) : Below B w (w1.drewN n) := ⟨h.os, h.tape, h.output, h.size, h.block⟩

end Go.Proofs.YtckkiilbabbeaaaDoor

/- Amounts and bytes are one to one: reckoning. -/
namespace Go.Proofs.YtckkiilbabbeaaaDoor
open Go Go.RowKit Sm
attribute [local go_sem] Oper.semAt_some

theorem p8e : (256 : Nat) ^ 8 = 18446744073709551616 := rfl
theorem eightM_cons (a : List UInt8) (r : List UInt8) (ha : a.length = 8) (i : Nat) : eightM (a ++ r) (i + 1) = eightM r i := by
  unfold eightM
  rw [show 8 * (i + 1) = 8 + 8 * i by omega, ← List.drop_drop, List.drop_left' ha]
theorem eightM_zero (a : List UInt8) (r : List UInt8) (ha : a.length = 8) : eightM (a ++ r) 0 = getB a := by
  unfold eightM
  rw [Nat.mul_zero, List.drop_zero, List.take_left' ha]
theorem eightsM_cons (a r : List UInt8) (ha : a.length = 8) : eightsM (a ++ r) = getB a :: eightsM r := by
  unfold eightsM
  rw [List.length_append, ha, show (8 + r.length) / 8 = r.length / 8 + 1 by omega, List.range_succ_eq_map, List.map_cons, List.map_map, eightM_zero a r ha]
  congr 1
  refine List.map_congr_left fun i _ => ?_
  exact eightM_cons a r ha i
theorem eights_bytes : ∀ l : List Int, l.all amt = true → (eightsM (bytesM l)).map (fun (n : Nat) => (n : Int)) = l ∧ (eightsM (bytesM l)).all (fun n => decide (n ≤ 1152921504606846976)) = true
  | [], _ => ⟨rfl, rfl⟩
  | a :: r, h => by
    rw [List.all_cons, Bool.and_eq_true] at h
    obtain ⟨i1, i2⟩ := eights_bytes r h.2
    have ha := (amt_iff a).1 h.1
    have e : bytesM (a :: r) = putB a.toNat 8 ++ bytesM r := rfl
    have g : getB (putB a.toNat 8) = a.toNat := getB_putB _ _ (by decide) (by rw [p8e]; omega)
    rw [e, eightsM_cons _ _ (putB_length _ _), g, List.map_cons, List.all_cons, i1, i2]
    exact ⟨by congr 1; omega, by simp; omega⟩
theorem bytes_back (l : List Int) (h : (bytesR l).2 = 0) : parseR (bytesR l).1 = (l, 0) ∧ (bytesR l).1.length = 8 * l.length := by
  unfold bytesR at h ⊢
  by_cases ha : l.all amt = true
  · rw [if_pos ha]
    obtain ⟨h1, h2⟩ := eights_bytes l ha
    unfold parseR isM
    dsimp only
    rw [h1, h2, bytesM_len, if_pos (by simp)]
    exact ⟨rfl, rfl⟩
  · rw [if_neg ha] at h
    exact absurd h (by decide)
theorem bytes_eights : ∀ (n : Nat) (s : List UInt8), s.length = 8 * n → bytesM ((eightsM s).map fun (n : Nat) => (n : Int)) = s
  | 0, s, h => by
    have : s = [] := List.eq_nil_of_length_eq_zero (by omega)
    subst this; rfl
  | n + 1, s, h => by
    have e : s = s.take 8 ++ s.drop 8 := (List.take_append_drop 8 s).symm
    have hl : (s.take 8).length = 8 := by rw [List.length_take]; omega
    have ih := bytes_eights n (s.drop 8) (by rw [List.length_drop]; omega)
    have g := putB_getB (s.take 8) (by omega)
    rw [hl] at g
    have h1 := eightsM_cons (s.take 8) (s.drop 8) hl
    rw [← e] at h1
    rw [h1, List.map_cons]
    show putB ((getB (s.take 8) : Nat) : Int).toNat 8 ++ bytesM _ = s
    rw [ih, Int.toNat_natCast, g]
    exact e.symm
theorem parse_back (s : List UInt8) (h : (parseR s).2 = 0) : bytesR (parseR s).1 = (s, 0) := by
  unfold parseR at h ⊢
  by_cases ha : isM s = true
  · rw [if_pos ha]
    unfold isM at ha
    rw [Bool.and_eq_true, decide_eq_true_iff] at ha
    unfold bytesR
    dsimp only
    rw [bytes_eights (s.length / 8) s (by omega), if_pos]
    rw [List.all_map, List.all_eq_true]
    intro n hn
    have h2 := List.all_eq_true.1 ha.2 n hn
    rw [decide_eq_true_iff] at h2
    show amt (n : Int) = true
    rw [amt_iff]
    omega
  · rw [if_neg ha] at h
    exact absurd h (by decide)
theorem parse_len (s : List UInt8) : (parseR s).1.length ≤ s.length := by
  unfold parseR
  by_cases ha : isM s = true
  · rw [if_pos ha, List.length_map, eightsM_len]; omega
  · rw [if_neg ha]; exact Nat.zero_le _
theorem bytesR_len (l : List Int) : (bytesR l).1.length ≤ 8 * l.length := by
  unfold bytesR
  split
  · exact Nat.le_of_eq (bytesM_len l)
  · exact Nat.zero_le _

end Go.Proofs.YtckkiilbabbeaaaDoor

/- Accounts: reckoning. -/
namespace Go.Proofs.YtckkiilbabbeaaaDoor
open Go Go.RowKit Sm

structure Ac where
  w : Int
  b : Int
def Ac.v (a : Ac) : Value := .agg #[.int .i64 a.w, .int .i64 a.b]
def Ac.zero : Ac := ⟨0, 0⟩
structure Ac.Ok (a : Ac) : Prop where
  w : I64 a.w
  b : I64 a.b
def rightA (a : Ac) : Bool := decide ((addA a.w a.b).2 = 0)
def bytesA (a : Ac) : List UInt8 × Int := if rightA a then bytesR [a.w, a.b] else ([], 130)
def acOf (l : List Int) : Ac := ⟨l.getD 0 0, l.getD 1 0⟩
def parseA (s : List UInt8) : Ac × Int := if (parseR s).2 = 0 ∧ (parseR s).1.length = 2 ∧ rightA (acOf (parseR s).1) = true then (acOf (parseR s).1, 0) else (Ac.zero, 130)
def depositA (a : Ac) (n : Int) : Ac × Int := if rightA a then (⟨(movA a.w a.b n).1, (movA a.w a.b n).2.1⟩, (movA a.w a.b n).2.2) else (Ac.zero, 130)
def withdrawA (a : Ac) (n : Int) : Ac × Int := if rightA a then (⟨(movA a.b a.w n).2.1, (movA a.b a.w n).1⟩, (movA a.b a.w n).2.2) else (Ac.zero, 130)
def earnA (a : Ac) (n : Int) : Ac × Int :=
  if rightA a then (if (addA a.w n).2 = 0 then (if (addA (addA a.w n).1 a.b).2 = 0 then (⟨(addA a.w n).1, a.b⟩, 0) else (Ac.zero, (addA (addA a.w n).1 a.b).2)) else (Ac.zero, (addA a.w n).2)) else (Ac.zero, 130)
def spendA (a : Ac) (n : Int) : Ac × Int := if rightA a then (if (subA a.w n).2 = 0 then (⟨(subA a.w n).1, a.b⟩, 0) else (Ac.zero, (subA a.w n).2)) else (Ac.zero, 130)
def payA (a b : Ac) (n : Int) : Ac × Ac × Int :=
  if rightA a && rightA b then (if (spendA a n).2 = 0 then (if (earnA b n).2 = 0 then ((spendA a n).1, (earnA b n).1, 0) else (Ac.zero, Ac.zero, (earnA b n).2)) else (Ac.zero, Ac.zero, (spendA a n).2)) else (Ac.zero, Ac.zero, 130)

theorem rightA_iff (a : Ac) : rightA a = true ↔ amt a.w = true ∧ amt a.b = true ∧ amt (a.w + a.b) = true := by
  unfold rightA
  rw [decide_eq_true_iff]
  constructor
  · intro h
    obtain ⟨h1, h2, h3, -⟩ := addA_ok _ _ h
    exact ⟨h1, h2, h3⟩
  · rintro ⟨h1, h2, h3⟩
    rw [addA_of _ _ h1 h2 h3]
theorem depositA_ok (a : Ac) (n : Int) (h : (depositA a n).2 = 0) : rightA a = true ∧ amt n = true ∧ n ≤ a.w ∧ depositA a n = (⟨a.w - n, a.b + n⟩, 0) ∧ rightA ⟨a.w - n, a.b + n⟩ = true := by
  unfold depositA at h ⊢
  by_cases hr : rightA a = true
  · rw [if_pos hr] at h ⊢
    obtain ⟨h1, h2, h3⟩ := movA_ok _ _ _ h
    obtain ⟨k1, k2, k3, -⟩ := subA_ok _ _ h1
    obtain ⟨l1, l2, l3, -⟩ := addA_ok _ _ h2
    rw [h3]
    refine ⟨hr, k2, k3, rfl, ?_⟩
    obtain ⟨r1, r2, r3⟩ := (rightA_iff a).1 hr
    rw [rightA_iff]
    rw [amt_iff] at *
    dsimp only
    rw [amt_iff, amt_iff]
    omega
  · rw [if_neg hr] at h; exact absurd h (by decide)
theorem withdrawA_ok (a : Ac) (n : Int) (h : (withdrawA a n).2 = 0) : rightA a = true ∧ amt n = true ∧ n ≤ a.b ∧ withdrawA a n = (⟨a.w + n, a.b - n⟩, 0) ∧ rightA ⟨a.w + n, a.b - n⟩ = true := by
  unfold withdrawA at h ⊢
  by_cases hr : rightA a = true
  · rw [if_pos hr] at h ⊢
    obtain ⟨h1, h2, h3⟩ := movA_ok _ _ _ h
    obtain ⟨k1, k2, k3, -⟩ := subA_ok _ _ h1
    obtain ⟨l1, l2, l3, -⟩ := addA_ok _ _ h2
    rw [h3]
    refine ⟨hr, k2, k3, rfl, ?_⟩
    obtain ⟨r1, r2, r3⟩ := (rightA_iff a).1 hr
    rw [rightA_iff]
    rw [amt_iff] at *
    dsimp only
    rw [amt_iff, amt_iff]
    omega
  · rw [if_neg hr] at h; exact absurd h (by decide)
theorem earnA_ok (a : Ac) (n : Int) (h : (earnA a n).2 = 0) : rightA a = true ∧ amt n = true ∧ earnA a n = (⟨a.w + n, a.b⟩, 0) ∧ rightA ⟨a.w + n, a.b⟩ = true := by
  unfold earnA at h ⊢
  by_cases hr : rightA a = true
  · rw [if_pos hr] at h ⊢
    by_cases h1 : (addA a.w n).2 = 0
    · rw [if_pos h1] at h ⊢
      by_cases h2 : (addA (addA a.w n).1 a.b).2 = 0
      · rw [if_pos h2]
        obtain ⟨l1, l2, l3, l4⟩ := addA_ok _ _ h1
        rw [l4] at h2 ⊢
        obtain ⟨m1, m2, m3, -⟩ := addA_ok _ _ h2
        exact ⟨hr, l2, rfl, (rightA_iff _).2 ⟨m1, m2, m3⟩⟩
      · rw [if_neg h2] at h; exact absurd h h2
    · rw [if_neg h1] at h; exact absurd h h1
  · rw [if_neg hr] at h; exact absurd h (by decide)
theorem spendA_ok (a : Ac) (n : Int) (h : (spendA a n).2 = 0) : rightA a = true ∧ amt n = true ∧ n ≤ a.w ∧ spendA a n = (⟨a.w - n, a.b⟩, 0) ∧ rightA ⟨a.w - n, a.b⟩ = true := by
  unfold spendA at h ⊢
  by_cases hr : rightA a = true
  · rw [if_pos hr] at h ⊢
    by_cases h1 : (subA a.w n).2 = 0
    · rw [if_pos h1]
      obtain ⟨k1, k2, k3, k4⟩ := subA_ok _ _ h1
      rw [k4]
      obtain ⟨r1, r2, r3⟩ := (rightA_iff a).1 hr
      refine ⟨hr, k2, k3, rfl, ?_⟩
      rw [rightA_iff]
      rw [amt_iff] at *
      dsimp only
      rw [amt_iff, amt_iff]
      omega
    · rw [if_neg h1] at h; exact absurd h h1
  · rw [if_neg hr] at h; exact absurd h (by decide)
theorem payA_ok (a b : Ac) (n : Int) (h : (payA a b n).2.2 = 0) : (spendA a n).2 = 0 ∧ (earnA b n).2 = 0 ∧ payA a b n = (⟨a.w - n, a.b⟩, ⟨b.w + n, b.b⟩, 0) := by
  unfold payA at h ⊢
  by_cases hr : (rightA a && rightA b) = true
  · rw [if_pos hr] at h ⊢
    by_cases h1 : (spendA a n).2 = 0
    · rw [if_pos h1] at h ⊢
      by_cases h2 : (earnA b n).2 = 0
      · rw [if_pos h2]
        refine ⟨h1, h2, ?_⟩
        rw [(spendA_ok a n h1).2.2.2.1, (earnA_ok b n h2).2.2.1]
      · rw [if_neg h2] at h; exact absurd h h2
    · rw [if_neg h1] at h; exact absurd h h1
  · rw [if_neg hr] at h; exact absurd h (by decide)
theorem depositA_of (a : Ac) (n : Int) (hr : rightA a = true) (hn : amt n = true) (hle : n ≤ a.w) : depositA a n = (⟨a.w - n, a.b + n⟩, 0) := by
  obtain ⟨r1, r2, r3⟩ := (rightA_iff a).1 hr
  have h3 : amt (a.b + n) = true := by rw [amt_iff] at *; omega
  unfold depositA movA
  rw [if_pos hr, subA_of _ _ r1 hn hle, addA_of _ _ r2 hn h3]
  rfl
theorem withdrawA_of (a : Ac) (n : Int) (hr : rightA a = true) (hn : amt n = true) (hle : n ≤ a.b) : withdrawA a n = (⟨a.w + n, a.b - n⟩, 0) := by
  obtain ⟨r1, r2, r3⟩ := (rightA_iff a).1 hr
  have h3 : amt (a.w + n) = true := by rw [amt_iff] at *; omega
  unfold withdrawA movA
  rw [if_pos hr, subA_of _ _ r2 hn hle, addA_of _ _ r1 hn h3]
  rfl
theorem spendA_of (a : Ac) (n : Int) (hr : rightA a = true) (hn : amt n = true) (hle : n ≤ a.w) : spendA a n = (⟨a.w - n, a.b⟩, 0) := by
  obtain ⟨r1, r2, r3⟩ := (rightA_iff a).1 hr
  unfold spendA
  rw [if_pos hr, subA_of _ _ r1 hn hle]
  rfl
/-- What is deposited may be withdrawn, what was earned be spent. -/
theorem deposit_withdraw (a : Ac) (n : Int) (h : (depositA a n).2 = 0) : withdrawA (depositA a n).1 n = (a, 0) := by
  obtain ⟨h1, h2, h3, h4, h5⟩ := depositA_ok a n h
  obtain ⟨r1, r2, r3⟩ := (rightA_iff a).1 h1
  rw [h4, withdrawA_of _ n h5 h2 (by rw [amt_iff] at *; dsimp only; omega)]
  obtain ⟨w, b⟩ := a
  dsimp only
  rw [Int.sub_add_cancel, Int.add_sub_cancel]
theorem earn_spend (a : Ac) (n : Int) (h : (earnA a n).2 = 0) : spendA (earnA a n).1 n = (a, 0) := by
  obtain ⟨h1, h2, h3, h4⟩ := earnA_ok a n h
  obtain ⟨r1, r2, r3⟩ := (rightA_iff a).1 h1
  rw [h3, spendA_of _ n h4 h2 (by rw [amt_iff] at *; dsimp only; omega)]
  obtain ⟨w, b⟩ := a
  dsimp only
  rw [Int.add_sub_cancel]
theorem deposit_twice (a : Ac) (n m : Int) (h : (depositA a n).2 = 0) (g : (depositA (depositA a n).1 m).2 = 0) : (0 ≤ n ∧ n ≤ 1152921504606846976) ∧ (0 ≤ m ∧ m ≤ 1152921504606846976) ∧ depositA a (n + m) = depositA (depositA a n).1 m := by
  obtain ⟨h1, h2, h3, h4, h5⟩ := depositA_ok a n h
  obtain ⟨g1, g2, g3, g4, -⟩ := depositA_ok _ m g
  rw [h4] at g3 g4 ⊢
  dsimp only at g3 g4 ⊢
  obtain ⟨r1, r2, r3⟩ := (rightA_iff a).1 h1
  have b1 := (amt_iff n).1 h2
  have b2 := (amt_iff m).1 g2
  refine ⟨b1, b2, ?_⟩
  rw [g4, depositA_of a (n + m) h1 (by rw [amt_iff] at *; omega) (by omega), Int.add_assoc, Int.sub_sub]
/-- Bytes and accounts are one to one. -/
theorem bytesA_back (a : Ac) (h : (bytesA a).2 = 0) : parseA (bytesA a).1 = (a, 0) := by
  unfold bytesA at h ⊢
  by_cases hr : rightA a = true
  · rw [if_pos hr] at h ⊢
    obtain ⟨e, -⟩ := bytes_back _ h
    unfold parseA
    rw [e, if_pos ⟨rfl, rfl, hr⟩]
    rfl
  · rw [if_neg hr] at h; exact absurd h (by decide)
theorem parseA_back (s : List UInt8) (h : (parseA s).2 = 0) : bytesA (parseA s).1 = (s, 0) := by
  unfold parseA at h ⊢
  by_cases hc : (parseR s).2 = 0 ∧ (parseR s).1.length = 2 ∧ rightA (acOf (parseR s).1) = true
  · rw [if_pos hc]
    obtain ⟨h1, h2, h3⟩ := hc
    have e := parse_back s h1
    unfold bytesA
    dsimp only
    rw [if_pos h3]
    have hl : [(acOf (parseR s).1).w, (acOf (parseR s).1).b] = (parseR s).1 := by
      generalize (parseR s).1 = L at h2
      match L, h2 with
      | [x, y], _ => rfl
    rw [hl, e]
  · rw [if_neg hc] at h; exact absurd h (by decide)
end Go.Proofs.YtckkiilbabbeaaaDoor
