/- A page of which one byte was changed is none: reckoning. -/
import Derived.Test.YtbmdodkgaehgnaaPC
import Derived.Test.YtbmdodkgaehgnaaSM
namespace Go.Proofs.Ytbmdodkgaehgnaa
open Go Go.RowKit Sm

theorem rawB_set : ∀ (s : List UInt8) (i : Nat) (c : UInt8), i < s.length → rawB (s.set i c) + (s.length - i) * (s.getD i 0).toNat = rawB s + (s.length - i) * c.toNat
  | a :: s, 0, c, _ => by simp [rawB, List.getD]; omega
  | a :: s, i + 1, c, h => by
    have := rawB_set s i c (by simpa using h)
    simp only [List.set_cons_succ, rawB, List.length_set, List.length_cons, Nat.add_sub_add_right, List.getD_cons_succ] at this ⊢
    omega
theorem rawA_le : ∀ (s : List UInt8), rawA s ≤ 255 * s.length
  | [] => by simp [rawA]
  | a :: s => by
    have := rawA_le s
    have := a.toNat_lt
    simp only [rawA, List.map_cons, List.sum_cons, List.length_cons] at *
    omega

def lowN (t : List UInt8) : Nat := (addS (1, 0) t).1
def upN (t : List UInt8) : Nat := (addS (1, 0) t).2
theorem low_eq (t : List UInt8) (h : t.length ≤ 252) : lowN t = 1 + rawA t := by
  unfold lowN
  rw [addS_one _ _ (by decide)]
  have := rawA_le t
  exact Nat.mod_eq_of_lt (by simp only; omega)
theorem up_eq (t : List UInt8) : upN t = (t.length + rawB t) % 65521 := by
  unfold upN
  rw [addS_two _ _ (by decide)]
  simp
theorem sumN_eq (t : List UInt8) : sumN t = upN t * 65536 + lowN t := rfl
theorem bounds (t : List UInt8) : upN t < 65521 ∧ lowN t < 65521 := ⟨(sum_lt t).2, (sum_lt t).1⟩

/-- The bytes of the seal and those behind it. -/
theorem Pg.enc_drop (p : Pg) : p.enc.drop (15 + p.body.length) = sealB (sumN p.text) ++ List.replicate (237 - p.body.length) 0 := by
  have h : p.text.length = 15 + p.body.length := by simp [Pg.text, p.head_len]
  have e : p.enc = p.text ++ (sealB (sumN p.text) ++ List.replicate (237 - p.body.length) 0) := by
    unfold Pg.enc
    rw [p.sealed_len, show 256 - (19 + p.body.length) = 237 - p.body.length by omega]
    simp [Pg.sealed]
  rw [e, ← h]
  exact List.drop_left' rfl
theorem Pg.enc_take (p : Pg) : p.enc.take (15 + p.body.length) = p.text := by
  have h : p.text.length = 15 + p.body.length := by simp [Pg.text, p.head_len]
  unfold Pg.enc Pg.sealed
  rw [List.append_assoc, ← h]
  exact List.take_left' rfl
theorem Pg.at_seal (p : Pg) (j : Nat) : p.enc.getD (15 + p.body.length + j) 0 = (sealB (sumN p.text) ++ List.replicate (237 - p.body.length) 0).getD j 0 := by
  rw [← p.enc_drop]
  simp [List.getD, List.getElem?_drop]
theorem seal_at (t : List UInt8) (r : List UInt8) : ((sealB (sumN t) ++ r).getD 0 0).toNat = upN t / 256 ∧ ((sealB (sumN t) ++ r).getD 1 0).toNat = upN t % 256 ∧ ((sealB (sumN t) ++ r).getD 2 0).toNat = lowN t / 256 ∧ ((sealB (sumN t) ++ r).getD 3 0).toNat = lowN t % 256 := by
  have h1 := (bounds t).1
  have h2 := (bounds t).2
  rw [sumN_eq]
  generalize upN t = b at *
  generalize lowN t = a at *
  simp only [sealB, List.cons_append, List.getD_cons_zero, List.getD_cons_succ, Nat.toUInt8, UInt8.toNat_ofNat']
  refine ⟨?_, ?_, ?_, ?_⟩ <;> omega
theorem behind (t : List UInt8) (k j : Nat) (h : 4 ≤ j) : (sealB t.length ++ List.replicate k 0).getD j 0 = 0 := by
  simp only [List.getD, List.getElem?_append, sealB_len, if_neg (show ¬ j < 4 by omega), List.getElem?_replicate]
  split <;> rfl
theorem behind' (n k j : Nat) (h : 4 ≤ j) : (sealB n ++ List.replicate k 0).getD j 0 = 0 := by
  simp only [List.getD, List.getElem?_append, sealB_len, if_neg (show ¬ j < 4 by omega), List.getElem?_replicate]
  split <;> rfl
theorem getD_set_ne' (s : List UInt8) (i j : Nat) (c : UInt8) (h : i ≠ j) : (s.set i c).getD j 0 = s.getD j 0 := by
  simp [List.getD, List.getElem?_set_ne h]

/-- Of two pages' bytes that part in the length's low byte alone neither body is the longer one. -/
theorem apart14 (p q : Pg) (hp : p.right = true) (hq : q.right = true) (c : UInt8) (h : q.enc = p.enc.set 14 c) (hn : p.body.length < q.body.length) : False := by
  obtain ⟨-, -, -, -, -, p6⟩ := p.right_iff.1 hp
  obtain ⟨-, -, -, -, -, q6⟩ := q.right_iff.1 hq
  have tq : q.text.length = 15 + q.body.length := by simp [Pg.text, q.head_len]
  have tp : p.text.length = 15 + p.body.length := by simp [Pg.text, p.head_len]
  have aq := low_eq q.text (by omega)
  have ap := low_eq p.text (by omega)
  have sq := seal_at q.text (List.replicate (237 - q.body.length) 0)
  have sp := seal_at p.text (List.replicate (237 - p.body.length) 0)
  have ex : ∀ j, 14 < j → q.enc.getD j 0 = p.enc.getD j 0 := fun j hj => by rw [h]; exact getD_set_ne' _ _ _ _ (by omega)
  by_cases h2 : p.body.length + 2 ≤ q.body.length
  · have z2 : (sealB (sumN q.text) ++ List.replicate (237 - q.body.length) 0).getD 2 0 = 0 := by
      rw [← q.at_seal, ex _ (by omega), show 15 + q.body.length + 2 = 15 + p.body.length + (q.body.length + 2 - p.body.length) by omega, p.at_seal]
      exact behind' _ _ _ (by omega)
    have z3 : (sealB (sumN q.text) ++ List.replicate (237 - q.body.length) 0).getD 3 0 = 0 := by
      rw [← q.at_seal, ex _ (by omega), show 15 + q.body.length + 3 = 15 + p.body.length + (q.body.length + 3 - p.body.length) by omega, p.at_seal]
      exact behind' _ _ _ (by omega)
    have s2 := sq.2.2.1
    have s3 := sq.2.2.2
    rw [z2] at s2
    rw [z3] at s3
    have : (0 : UInt8).toNat = 0 := rfl
    omega
  · have hq1 : q.body.length = p.body.length + 1 := by omega
    have y0 : (sealB (sumN q.text) ++ List.replicate (237 - q.body.length) 0).getD 0 0 = (sealB (sumN p.text) ++ List.replicate (237 - p.body.length) 0).getD 1 0 := by
      rw [← q.at_seal, ex _ (by omega), ← p.at_seal]; congr 1; omega
    have y1 : (sealB (sumN q.text) ++ List.replicate (237 - q.body.length) 0).getD 1 0 = (sealB (sumN p.text) ++ List.replicate (237 - p.body.length) 0).getD 2 0 := by
      rw [← q.at_seal, ex _ (by omega), ← p.at_seal]; congr 1; omega
    have y2 : (sealB (sumN q.text) ++ List.replicate (237 - q.body.length) 0).getD 2 0 = (sealB (sumN p.text) ++ List.replicate (237 - p.body.length) 0).getD 3 0 := by
      rw [← q.at_seal, ex _ (by omega), ← p.at_seal]; congr 1; omega
    have y3 : (sealB (sumN q.text) ++ List.replicate (237 - q.body.length) 0).getD 3 0 = 0 := by
      rw [← q.at_seal, ex _ (by omega), show 15 + q.body.length + 3 = 15 + p.body.length + 4 by omega, p.at_seal]
      exact behind' _ _ _ (by omega)
    -- the texts
    have hlp : p.enc.length = 256 := p.enc_len p6
    have c14 : p.enc.getD 14 0 = byteAt p.body.length 0 := by
      rw [p.enc_form]
      simp [putB, List.getD, List.range_succ]
    have d14 : q.enc.getD 14 0 = byteAt q.body.length 0 := by
      rw [q.enc_form]
      simp [putB, List.getD, List.range_succ]
    have hc : c = byteAt q.body.length 0 := by
      rw [← d14, h]
      simp [List.getD, hlp]
    have tt : q.text = p.text.set 14 c ++ [p.enc.getD (15 + p.body.length) 0] := by
      rw [← q.enc_take, h, hq1, ← p.enc_take]
      rw [show 15 + (p.body.length + 1) = 15 + p.body.length + 1 by omega, List.take_succ_eq_append_getElem (by simp; omega), List.take_set]
      simp [List.getD, hlp, show 15 + p.body.length < 256 by omega, List.getElem_set_ne (show 14 ≠ 15 + p.body.length by omega)]
    have x14 : p.text.getD 14 0 = byteAt p.body.length 0 := by
      rw [← c14, ← p.enc_take]
      simp [List.getD, List.getElem?_take, show 14 < 15 + p.body.length by omega]
    have b1 : (byteAt p.body.length 0).toNat = p.body.length := by simp [byteAt, Nat.toUInt8, UInt8.toNat_ofNat']; omega
    have b2 : (byteAt q.body.length 0).toNat = q.body.length := by simp [byteAt, Nat.toUInt8, UInt8.toNat_ofNat']; omega
    have ra := rawA_set p.text 14 c (by omega)
    have rb := rawB_set p.text 14 c (by omega)
    rw [x14, hc, b1, b2] at ra rb
    rw [← hc] at ra rb
    have uq := up_eq q.text
    have up := up_eq p.text
    have z0 : (p.enc.getD (15 + p.body.length) 0).toNat = upN p.text / 256 := by
      have := p.at_seal 0
      rw [Nat.add_zero] at this
      rw [this]; exact sp.1
    have ra2 : rawA q.text = rawA (p.text.set 14 c) + upN p.text / 256 := by
      rw [tt, ← z0]
      simp [rawA]
    have rb2 : rawB q.text = rawB (p.text.set 14 c) + rawA (p.text.set 14 c) + upN p.text / 256 := by
      rw [tt, rawB_append, ← z0]
      simp [rawB]
    have k0 := sq.1
    have k1 := sq.2.1
    have k2 := sq.2.2.1
    have k3 := sq.2.2.2
    rw [y0] at k0
    rw [y1] at k1
    rw [y2] at k2
    rw [y3] at k3
    rw [sp.2.1] at k0
    rw [sp.2.2.1] at k1
    rw [sp.2.2.2] at k2
    have e0 : (0 : UInt8).toNat = 0 := rfl
    rw [e0] at k3
    have bp := bounds p.text
    have bq := bounds q.text
    rw [tq] at uq
    rw [tp] at up rb
    rw [hq1] at uq ra rb
    clear sq sp y0 y1 y2 y3 ex h tt hc c14 d14 x14 b1 b2
    generalize upN p.text = B at *
    generalize lowN p.text = A at *
    generalize upN q.text = B' at *
    generalize lowN q.text = A' at *
    generalize rawA (p.text.set 14 c) = ra1 at *
    generalize rawB (p.text.set 14 c) = rb1 at *
    generalize rawA p.text = ra0 at *
    generalize rawB p.text = rb0 at *
    generalize rawA q.text = ra3 at *
    generalize rawB q.text = rb3 at *
    generalize p.body.length = n at *
    have rb' : rb1 = rb0 + (n + 1) := by
      rw [show 15 + n - 14 = n + 1 by omega, Nat.mul_add] at rb
      omega
    have e1 : A % 256 = A / 256 + 1 ∧ B / 256 + A % 256 = 255 := by
      clear uq up rb rb' rb2 k0 k1
      omega
    have e3 : B' = (B + (n + 1 + A')) % 65521 := by
      have : 15 + (n + 1) + rb3 = (15 + n + rb0) + (n + 1 + A') := by
        clear uq up k0 k1 k2 k3 e1
        omega
      rw [uq, this, up, Nat.mod_add_mod]
    clear uq up rb rb' rb2 ra ra2 aq ap
    obtain ⟨e1, e2⟩ := e1
    have f1 : B = 256 * (255 - A % 256) + B % 256 := by omega
    have f2 : B' = 256 * (B % 256) + A / 256 := by omega
    have f3 : A' = 256 * (A % 256) := by omega
    have g1 : A % 256 ≤ 255 := by omega
    have g2 : B % 256 ≤ 255 := by omega
    have g3 : n ≤ 236 := by omega
    generalize A % 256 = al at *
    generalize A / 256 = ah at *
    generalize B % 256 = bl at *
    have f4 : B + (n + 1 + A') = 65280 + bl + n + 1 := by omega
    rw [f4] at e3
    by_cases hw : 65280 + bl + n + 1 < 65521
    · rw [Nat.mod_eq_of_lt hw] at e3
      omega
    · rw [Nat.mod_eq_sub_mod (by omega), Nat.mod_eq_of_lt (by omega)] at e3
      omega
theorem Pg.enc_eq (p : Pg) : p.enc = p.text ++ (sealB (sumN p.text) ++ List.replicate (237 - p.body.length) 0) := by
  unfold Pg.enc
  rw [p.sealed_len, show 256 - (19 + p.body.length) = 237 - p.body.length by omega]
  simp [Pg.sealed]
theorem Pg.enc_13 (p : Pg) : p.enc.getD 13 0 = byteAt p.body.length 1 ∧ p.enc.getD 14 0 = byteAt p.body.length 0 := by
  rw [p.enc_form]
  constructor <;> simp [putB, List.getD, List.range_succ]
theorem byte0 (n : Nat) (h : n ≤ 237) : (byteAt n 0).toNat = n := by simp [byteAt, Nat.toUInt8, UInt8.toNat_ofNat']; omega
theorem byte1 (n : Nat) (h : n ≤ 237) : byteAt n 1 = 0 := by
  apply UInt8.toNat_inj.1
  simp [byteAt, Nat.toUInt8, UInt8.toNat_ofNat']; omega

theorem hurt (p : Pg) (hr : p.right = true) (i : Nat) (hi : i < 256) (c : UInt8) (hc : c ≠ p.enc.getD i 0) : isPg (p.enc.set i c) = false := by
  cases h : isPg (p.enc.set i c)
  · rfl
  exfalso
  have p6 := (p.right_iff.1 hr).2.2.2.2.2
  have hlp : p.enc.length = 256 := p.enc_len p6
  simp only [isPg, Bool.and_eq_true, decide_eq_true_eq] at h
  obtain ⟨⟨⟨e1, e2⟩, e3⟩, e4⟩ := h
  have hql : (Pg.of (p.enc.set i c)).body.length = lenOf (p.enc.set i c) := by
    show (((p.enc.set i c).drop 15).take (lenOf (p.enc.set i c))).length = _
    rw [List.length_take, List.length_drop, e1]
    omega
  rw [← hql] at e2
  generalize Pg.of (p.enc.set i c) = q at *
  clear hql e1
  have q13 := q.enc_13
  have p13 := p.enc_13
  have at_i : (p.enc.set i c).getD i 0 = c := by simp [List.getD, hlp, hi]
  have tp : p.text.length = 15 + p.body.length := by simp [Pg.text, p.head_len]
  have tq : q.text.length = 15 + q.body.length := by simp [Pg.text, q.head_len]
  by_cases h14 : i = 14
  · subst h14
    have hne : p.body.length ≠ q.body.length := fun e => hc (by rw [p13.2, ← at_i, ← e4, q13.2, e])
    rcases Nat.lt_or_gt_of_ne hne with hlt | hlt
    · exact apart14 p q hr e3 c e4 hlt
    · refine apart14 q p e3 hr (p.enc.getD 14 0) ?_ hlt
      rw [e4, List.set_set]
      apply List.ext_getElem?
      intro j
      by_cases hj : j = 14
      · subst hj; simp [List.getD, hlp]
      · rw [List.getElem?_set_ne (by omega)]
  · by_cases h13 : i = 13
    · subst h13
      apply hc
      rw [p13.1, byte1 _ p6, ← at_i, ← e4, q13.1, byte1 _ e2]
    · have hn : q.body.length = p.body.length := by
        have := q13.2
        rw [e4, getD_set_ne' _ _ _ _ h14, p13.2] at this
        have := congrArg UInt8.toNat this
        rw [byte0 _ p6, byte0 _ e2] at this
        exact this.symm
      by_cases hlt : i < 15 + p.body.length
      · have ht : q.text = p.text.set i c := by
          rw [← q.enc_take, e4, hn, List.take_set, p.enc_take]
        have hd : q.enc.drop (15 + q.body.length) = p.enc.drop (15 + p.body.length) := by
          rw [e4, hn, List.drop_set_of_lt hlt]
        rw [q.enc_drop, p.enc_drop, hn] at hd
        have hs := List.append_cancel_right hd
        have h2 := congrArg sealV hs
        rw [seal_back _ (sumN_lt _), seal_back _ (sumN_lt _), ht] at h2
        refine sum_changed p.text i c (by omega) (fun e => hc ?_) h2
        rw [e, ← p.enc_take]
        simp [List.getD, List.getElem?_take, hlt]
      · have ht : q.text = p.text := by
          rw [← q.enc_take, e4, hn, List.take_set_of_le (by omega), p.enc_take]
        apply hc
        rw [← at_i, ← e4, q.enc_eq, ht, hn, ← p.enc_eq]
end Go.Proofs.Ytbmdodkgaehgnaa
