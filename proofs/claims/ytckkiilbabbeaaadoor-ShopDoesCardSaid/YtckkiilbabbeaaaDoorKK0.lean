/- Mail: which mails are right, their bytes, sending, claiming: reckoning. -/
import Derived.Test.YtckkiilbabbeaaaDoorKJ9
import Derived.Test.YtckkiilbabbeaaaDoorKI9
import Derived.Test.YtckkiilbabbeaaaDoorKI0
import Derived.Test.YtckkiilbabbeaaaDoorKC0
namespace Go.Proofs.YtckkiilbabbeaaaDoor
open Go Go.RowKit Sm

structure Ml where
  src : Nat
  money : Int
  item : Nat
  n : Int
def Ml.v (m : Ml) : Value := .agg #[.int .u32 m.src, .int .i64 m.money, .int .u16 m.item, .int .i64 m.n]
structure Ml.Ok (m : Ml) : Prop where
  src : m.src < 4294967296
  money : I64 m.money
  item : m.item < 65536
  n : I64 m.n
def Ml.zero : Ml := ⟨0, 0, 0, 0⟩
def Ml.st (m : Ml) : St := ⟨m.item, m.n⟩
def rightM (m : Ml) : Bool := decide ((1 ≤ m.src ∧ m.src ≤ 1000000) ∧ (0 ≤ m.money ∧ m.money ≤ 1152921504606846976) ∧ (0 ≤ m.n ∧ m.n ≤ 1152921504606846976) ∧ (0 < m.money ∨ 0 < m.n) ∧ (0 < m.n ∨ m.item = 0))
theorem rightM_iff (m : Ml) : rightM m = true ↔ ((1 ≤ m.src ∧ m.src ≤ 1000000) ∧ (0 ≤ m.money ∧ m.money ≤ 1152921504606846976) ∧ (0 ≤ m.n ∧ m.n ≤ 1152921504606846976) ∧ (0 < m.money ∨ 0 < m.n) ∧ (0 < m.n ∨ m.item = 0)) := by unfold rightM; exact decide_eq_true_iff
def keyM (m : Ml) : List UInt8 := putB m.src 4 ++ (putB m.money.toNat 8 ++ (putB m.item 2 ++ putB m.n.toNat 8))
def bytesMl (m : Ml) : List UInt8 × Int := if rightM m then (keyM m, 0) else ([], 140)
/-- A number of eight bytes, as a signed one. -/
def sgn (n : Nat) : Int := if n < 9223372036854775808 then n else (n : Int) - 18446744073709551616
def mlOf (s : List UInt8) : Ml := ⟨seg s 0 4, sgn (seg s 4 8), seg s 12 2, sgn (seg s 14 8)⟩
def parseM (s : List UInt8) : Ml × Int := if s.length = 22 ∧ rightM (mlOf s) = true then (mlOf s, 0) else (Ml.zero, 140)
def sendM (a : Ac) (l : List St) (m : Ml) : Ac × List St × Int :=
  if rightM m then
    (if (spendA a m.money).2 = 0 then
      (if rightG l then (if m.n = 0 then ((spendA a m.money).1, l, 0) else (if (takeG l m.st).2 = 0 then ((spendA a m.money).1, (takeG l m.st).1, 0) else (Ac.zero, [], (takeG l m.st).2))) else (Ac.zero, [], 120))
     else (Ac.zero, [], (spendA a m.money).2))
  else (Ac.zero, [], 140)
def claimM (a : Ac) (l : List St) (m : Ml) : Ac × List St × Int :=
  if rightM m then
    (if (earnA a m.money).2 = 0 then
      (if rightG l then (if m.n = 0 then ((earnA a m.money).1, l, 0) else (if (giveG l m.st).2 = 0 then ((earnA a m.money).1, (giveG l m.st).1, 0) else (Ac.zero, [], (giveG l m.st).2))) else (Ac.zero, [], 120))
     else (Ac.zero, [], (earnA a m.money).2))
  else (Ac.zero, [], 140)

theorem q8 : (256 : Nat) ^ 8 = 18446744073709551616 := rfl
theorem sgn_wrap (n : Nat) (h : n < 18446744073709551616) : IntKind.i64.wrap (n : Int) = sgn n := by
  rw [IntKind.wrap_i64]
  unfold sgn
  split <;> omega
theorem sgn_i64 (n : Nat) (h : n < 18446744073709551616) : I64 (sgn n) := by
  unfold sgn I64
  split <;> omega
theorem mlOf_ok (s : List UInt8) : (mlOf s).Ok := by
  have h1 := seg_lt s 0 4
  have h2 := seg_lt s 4 8
  have h3 := seg_lt s 12 2
  have h4 := seg_lt s 14 8
  rw [q4] at h1
  rw [q8] at h2 h4
  rw [q2] at h3
  exact ⟨h1, sgn_i64 _ h2, h3, sgn_i64 _ h4⟩
theorem Ml.zero_ok : Ml.zero.Ok := ⟨by decide, by unfold I64; decide, by decide, by unfold I64; decide⟩
theorem parseM_ok (s : List UInt8) : (parseM s).1.Ok := by
  unfold parseM
  split
  · exact mlOf_ok s
  · exact Ml.zero_ok
theorem keyM_len (m : Ml) : (keyM m).length = 22 := by simp [keyM]
theorem bytesMl_len (m : Ml) : (bytesMl m).1.length ≤ 22 := by
  unfold bytesMl
  split
  · rw [keyM_len]; exact Nat.le_refl _
  · exact Nat.zero_le _
/-- A piece of bytes laid one behind the other. -/
theorem seg_skip (p r : List UInt8) (i n : Nat) (h : i = p.length) : seg (p ++ r) i n = seg r 0 n := by
  subst h
  unfold seg
  rw [List.drop_left, List.drop_zero]
theorem seg_here (x n : Nat) (r : List UInt8) (hn : n ≤ 8) (hx : x < 256 ^ n) : seg (putB x n ++ r) 0 n = x := by
  unfold seg
  rw [List.drop_zero, List.take_left' (putB_length x n), getB_putB x n hn hx]
theorem keyM_back (m : Ml) (h : rightM m = true) (hi : m.item < 65536) : mlOf (keyM m) = m := by
  obtain ⟨f, mo, i, n⟩ := m
  obtain ⟨h1, h2, h3, -⟩ := (rightM_iff _).1 h
  dsimp only at h1 h2 h3 hi
  have e1 : seg (putB f 4 ++ (putB mo.toNat 8 ++ (putB i 2 ++ putB n.toNat 8))) 0 4 = f := seg_here _ _ _ (by decide) (by rw [q4]; omega)
  have e2 : seg (putB f 4 ++ (putB mo.toNat 8 ++ (putB i 2 ++ putB n.toNat 8))) 4 8 = mo.toNat := by
    rw [seg_skip _ _ 4 8 (by simp)]; exact seg_here _ _ _ (by decide) (by rw [q8]; omega)
  have e3 : seg (putB f 4 ++ (putB mo.toNat 8 ++ (putB i 2 ++ putB n.toNat 8))) 12 2 = i := by
    rw [← List.append_assoc, seg_skip _ _ 12 2 (by simp)]; exact seg_here _ _ _ (by decide) (by rw [q2]; omega)
  have e4 : seg (putB f 4 ++ (putB mo.toNat 8 ++ (putB i 2 ++ putB n.toNat 8))) 14 8 = n.toNat := by
    rw [← List.append_assoc, ← List.append_assoc, seg_skip _ _ 14 8 (by simp)]
    have := seg_here n.toNat 8 [] (by decide) (by rw [q8]; omega)
    rwa [List.append_nil] at this
  unfold mlOf keyM
  dsimp only
  rw [e1, e2, e3, e4]
  have s1 : sgn mo.toNat = mo := by unfold sgn; split <;> omega
  have s2 : sgn n.toNat = n := by unfold sgn; split <;> omega
  rw [s1, s2]
theorem bytesMl_back (m : Ml) (hm : m.Ok) (h : (bytesMl m).2 = 0) : parseM (bytesMl m).1 = (m, 0) := by
  unfold bytesMl at h ⊢
  by_cases hr : rightM m = true
  · rw [if_pos hr]
    unfold parseM
    dsimp only
    rw [keyM_back m hr hm.item, if_pos ⟨keyM_len m, hr⟩]
  · rw [if_neg hr] at h
    exact absurd h (by decide)
theorem parseM_back (s : List UInt8) (h : (parseM s).2 = 0) : bytesMl (parseM s).1 = (s, 0) := by
  unfold parseM at h ⊢
  by_cases hc : s.length = 22 ∧ rightM (mlOf s) = true
  · rw [if_pos hc]
    obtain ⟨hl, hr⟩ := hc
    unfold bytesMl
    dsimp only
    rw [if_pos hr]
    obtain ⟨h1, h2, h3, -⟩ := (rightM_iff _).1 hr
    have t1 : sgn (seg s 4 8) = (seg s 4 8 : Nat) := by
      have := seg_lt s 4 8
      rw [q8] at this
      unfold mlOf at h2
      dsimp only at h2
      unfold sgn at h2 ⊢
      split
      · rfl
      · rename_i hh; rw [if_neg hh] at h2; omega
    have t2 : sgn (seg s 14 8) = (seg s 14 8 : Nat) := by
      have := seg_lt s 14 8
      rw [q8] at this
      unfold mlOf at h3
      dsimp only at h3
      unfold sgn at h3 ⊢
      split
      · rfl
      · rename_i hh; rw [if_neg hh] at h3; omega
    unfold keyM mlOf
    dsimp only
    rw [t1, t2, Int.toNat_natCast, Int.toNat_natCast, seg_put s 0 4 (by omega) (by decide), seg_put s 4 8 (by omega) (by decide), seg_put s 12 2 (by omega) (by decide), seg_put s 14 8 (by omega) (by decide)]
    have p3 : (s.drop 12).take 2 ++ (s.drop 14).take 8 = s.drop 12 := by
      have e : (s.drop 14).take 8 = s.drop 14 := List.take_of_length_le (by rw [List.length_drop]; omega)
      rw [e, show (14 : Nat) = 12 + 2 from rfl, ← List.drop_drop, List.take_append_drop]
    have p2 : (s.drop 4).take 8 ++ s.drop 12 = s.drop 4 := by
      rw [show (12 : Nat) = 4 + 8 from rfl, ← List.drop_drop, List.take_append_drop]
    rw [p3, p2, List.drop_zero, List.take_append_drop]
  · rw [if_neg hc] at h
    exact absurd h (by decide)

theorem spend_earn (a : Ac) (n : Int) (h : (spendA a n).2 = 0) : earnA (spendA a n).1 n = (a, 0) := by
  obtain ⟨h1, h2, h3, h4, h5⟩ := spendA_ok a n h
  rw [h4]
  dsimp only
  obtain ⟨r1, r2, r3⟩ := (rightA_iff _).1 h1
  unfold earnA
  rw [if_pos h5]
  dsimp only
  obtain ⟨s1, s2, s3⟩ := (rightA_iff _).1 h5
  dsimp only at s1 s2 s3
  rw [addA_of (a.w - n) n s1 h2 (by rwa [show a.w - n + n = a.w by omega])]
  dsimp only
  rw [if_pos rfl, show a.w - n + n = a.w by omega, addA_of a.w a.b r1 r2 r3, if_pos rfl]
theorem sendM_ok (a : Ac) (l : List St) (m : Ml) (h : (sendM a l m).2.2 = 0) : rightM m = true ∧ (spendA a m.money).2 = 0 ∧ rightG l = true ∧ (m.n = 0 ∧ sendM a l m = ((spendA a m.money).1, l, 0) ∨ m.n ≠ 0 ∧ (takeG l m.st).2 = 0 ∧ sendM a l m = ((spendA a m.money).1, (takeG l m.st).1, 0)) := by
  unfold sendM at h ⊢
  by_cases h1 : rightM m = true
  · rw [if_pos h1] at h ⊢
    by_cases h2 : (spendA a m.money).2 = 0
    · rw [if_pos h2] at h ⊢
      by_cases h3 : rightG l = true
      · rw [if_pos h3] at h ⊢
        by_cases h4 : m.n = 0
        · rw [if_pos h4]; exact ⟨h1, h2, h3, .inl ⟨h4, rfl⟩⟩
        · rw [if_neg h4] at h ⊢
          by_cases h5 : (takeG l m.st).2 = 0
          · rw [if_pos h5]; exact ⟨h1, h2, h3, .inr ⟨h4, h5, rfl⟩⟩
          · rw [if_neg h5] at h; exact absurd h h5
      · rw [if_neg h3] at h; exact absurd h (by decide)
    · rw [if_neg h2] at h; exact absurd h h2
  · rw [if_neg h1] at h; exact absurd h (by decide)
theorem claimM_ok (a : Ac) (l : List St) (m : Ml) (h : (claimM a l m).2.2 = 0) : rightM m = true ∧ (earnA a m.money).2 = 0 ∧ rightG l = true ∧ (m.n = 0 ∧ claimM a l m = ((earnA a m.money).1, l, 0) ∨ m.n ≠ 0 ∧ (giveG l m.st).2 = 0 ∧ claimM a l m = ((earnA a m.money).1, (giveG l m.st).1, 0)) := by
  unfold claimM at h ⊢
  by_cases h1 : rightM m = true
  · rw [if_pos h1] at h ⊢
    by_cases h2 : (earnA a m.money).2 = 0
    · rw [if_pos h2] at h ⊢
      by_cases h3 : rightG l = true
      · rw [if_pos h3] at h ⊢
        by_cases h4 : m.n = 0
        · rw [if_pos h4]; exact ⟨h1, h2, h3, .inl ⟨h4, rfl⟩⟩
        · rw [if_neg h4] at h ⊢
          by_cases h5 : (giveG l m.st).2 = 0
          · rw [if_pos h5]; exact ⟨h1, h2, h3, .inr ⟨h4, h5, rfl⟩⟩
          · rw [if_neg h5] at h; exact absurd h h5
      · rw [if_neg h3] at h; exact absurd h (by decide)
    · rw [if_neg h2] at h; exact absurd h h2
  · rw [if_neg h1] at h; exact absurd h (by decide)
/-- What is sent and claimed by the sender is as it was. -/
theorem send_claim (a : Ac) (l : List St) (m : Ml) (h : (sendM a l m).2.2 = 0) : claimM (sendM a l m).1 (sendM a l m).2.1 m = (a, l, 0) := by
  obtain ⟨h1, h2, h3, h4⟩ := sendM_ok a l m h
  have he := spend_earn a m.money h2
  rcases h4 with ⟨h4, h5⟩ | ⟨h4, h5, h6⟩
  · rw [h5]
    dsimp only
    unfold claimM
    rw [if_pos h1, he, if_pos rfl, if_pos h3, if_pos h4]
  · rw [h6]
    dsimp only
    have hg := take_give l m.st h5
    have hr : rightG (takeG l m.st).1 = true := (giveG_ok _ _ (by rw [hg])).1
    unfold claimM
    rw [if_pos h1, he, if_pos rfl, if_pos hr, if_neg h4, hg, if_pos rfl]
theorem sendM_len (a : Ac) (l : List St) (m : Ml) (hl : l.length ≤ 30) : (sendM a l m).2.1.length ≤ 30 := by
  by_cases h : (sendM a l m).2.2 = 0
  · obtain ⟨-, -, -, h4⟩ := sendM_ok a l m h
    rcases h4 with ⟨-, h5⟩ | ⟨-, -, h6⟩
    · rw [h5]; exact hl
    · rw [h6]; have := (sizes_ok l m.st).2; dsimp only; omega
  · unfold sendM at h ⊢
    split
    · rename_i h1
      rw [if_pos h1] at h
      split
      · rename_i h2
        rw [if_pos h2] at h
        split
        · rename_i h3
          rw [if_pos h3] at h
          split
          · rename_i h4; rw [if_pos h4] at h; exact absurd rfl h
          · rename_i h4
            rw [if_neg h4] at h
            split
            · rename_i h5; rw [if_pos h5] at h; exact absurd rfl h
            · exact Nat.zero_le _
        · exact Nat.zero_le _
      · exact Nat.zero_le _
    · exact Nat.zero_le _
theorem claimM_len (a : Ac) (l : List St) (m : Ml) (hl : l.length ≤ 30) : (claimM a l m).2.1.length ≤ 30 := by
  have hz := (sizes_ok l m.st).1
  unfold claimM
  split
  · split
    · split
      · split
        · exact hl
        · split
          · dsimp only; omega
          · exact Nat.zero_le _
      · exact Nat.zero_le _
    · exact Nat.zero_le _
  · exact Nat.zero_le _
end Go.Proofs.YtckkiilbabbeaaaDoor

/- Shop: which listings are right, their bytes, listing, canceling, buying: reckoning. -/
namespace Go.Proofs.YtckkiilbabbeaaaDoor
open Go Go.RowKit Sm

structure Li where
  src : Nat
  item : Nat
  n : Int
  price : Int
def Li.v (m : Li) : Value := .agg #[.int .u32 m.src, .int .u16 m.item, .int .i64 m.n, .int .i64 m.price]
structure Li.Ok (m : Li) : Prop where
  src : m.src < 4294967296
  item : m.item < 65536
  n : I64 m.n
  price : I64 m.price
def Li.zero : Li := ⟨0, 0, 0, 0⟩
def Li.st (m : Li) : St := ⟨m.item, m.n⟩
def rightLi (m : Li) : Bool := decide ((1 ≤ m.src ∧ m.src ≤ 1000000) ∧ (0 ≤ m.n ∧ m.n ≤ 1152921504606846976) ∧ (0 ≤ m.price ∧ m.price ≤ 1152921504606846976) ∧ 0 < m.n)
theorem rightLi_iff (m : Li) : rightLi m = true ↔ ((1 ≤ m.src ∧ m.src ≤ 1000000) ∧ (0 ≤ m.n ∧ m.n ≤ 1152921504606846976) ∧ (0 ≤ m.price ∧ m.price ≤ 1152921504606846976) ∧ 0 < m.n) := by unfold rightLi; exact decide_eq_true_iff
def keyLi (m : Li) : List UInt8 := putB m.src 4 ++ (putB m.item 2 ++ (putB m.n.toNat 8 ++ putB m.price.toNat 8))
def bytesLi (m : Li) : List UInt8 × Int := if rightLi m then (keyLi m, 0) else ([], 150)
def liOf (s : List UInt8) : Li := ⟨seg s 0 4, seg s 4 2, sgn (seg s 6 8), sgn (seg s 14 8)⟩
def parseLi (s : List UInt8) : Li × Int := if s.length = 22 ∧ rightLi (liOf s) = true then (liOf s, 0) else (Li.zero, 150)
def listS (l : List St) (x : Li) : List St × Int := if rightLi x then takeG l x.st else ([], 150)
def cancelS (l : List St) (x : Li) : List St × Int := if rightLi x then giveG l x.st else ([], 150)
def buyS (a b : Ac) (l : List St) (x : Li) : Ac × Ac × List St × Int :=
  if rightLi x then
    (if (payA a b x.price).2.2 = 0 then
      (if (giveG l x.st).2 = 0 then ((payA a b x.price).1, (payA a b x.price).2.1, (giveG l x.st).1, 0) else (Ac.zero, Ac.zero, [], (giveG l x.st).2))
     else (Ac.zero, Ac.zero, [], (payA a b x.price).2.2))
  else (Ac.zero, Ac.zero, [], 150)

theorem liOf_ok (s : List UInt8) : (liOf s).Ok := by
  have h1 := seg_lt s 0 4
  have h2 := seg_lt s 4 2
  have h3 := seg_lt s 6 8
  have h4 := seg_lt s 14 8
  rw [q4] at h1
  rw [q8] at h3 h4
  rw [q2] at h2
  exact ⟨h1, h2, sgn_i64 _ h3, sgn_i64 _ h4⟩
theorem Li.zero_ok : Li.zero.Ok := ⟨by decide, by decide, by unfold I64; decide, by unfold I64; decide⟩
theorem parseLi_ok (s : List UInt8) : (parseLi s).1.Ok := by
  unfold parseLi
  split
  · exact liOf_ok s
  · exact Li.zero_ok
theorem keyLi_len (m : Li) : (keyLi m).length = 22 := by simp [keyLi]
theorem bytesLi_len (m : Li) : (bytesLi m).1.length ≤ 22 := by
  unfold bytesLi
  split
  · rw [keyLi_len]; exact Nat.le_refl _
  · exact Nat.zero_le _
theorem keyLi_back (m : Li) (h : rightLi m = true) (hi : m.item < 65536) : liOf (keyLi m) = m := by
  obtain ⟨f, i, n, mo⟩ := m
  obtain ⟨h1, h2, h3, -⟩ := (rightLi_iff _).1 h
  dsimp only at h1 h2 h3 hi
  have e1 : seg (putB f 4 ++ (putB i 2 ++ (putB n.toNat 8 ++ putB mo.toNat 8))) 0 4 = f := seg_here _ _ _ (by decide) (by rw [q4]; omega)
  have e2 : seg (putB f 4 ++ (putB i 2 ++ (putB n.toNat 8 ++ putB mo.toNat 8))) 4 2 = i := by
    rw [seg_skip _ _ 4 2 (by simp)]; exact seg_here _ _ _ (by decide) (by rw [q2]; omega)
  have e3 : seg (putB f 4 ++ (putB i 2 ++ (putB n.toNat 8 ++ putB mo.toNat 8))) 6 8 = n.toNat := by
    rw [← List.append_assoc, seg_skip _ _ 6 8 (by simp)]; exact seg_here _ _ _ (by decide) (by rw [q8]; omega)
  have e4 : seg (putB f 4 ++ (putB i 2 ++ (putB n.toNat 8 ++ putB mo.toNat 8))) 14 8 = mo.toNat := by
    rw [← List.append_assoc, ← List.append_assoc, seg_skip _ _ 14 8 (by simp)]
    have := seg_here mo.toNat 8 [] (by decide) (by rw [q8]; omega)
    rwa [List.append_nil] at this
  unfold liOf keyLi
  dsimp only
  rw [e1, e2, e3, e4]
  have s1 : sgn mo.toNat = mo := by unfold sgn; split <;> omega
  have s2 : sgn n.toNat = n := by unfold sgn; split <;> omega
  rw [s1, s2]
theorem bytesLi_back (m : Li) (hm : m.Ok) (h : (bytesLi m).2 = 0) : parseLi (bytesLi m).1 = (m, 0) := by
  unfold bytesLi at h ⊢
  by_cases hr : rightLi m = true
  · rw [if_pos hr]
    unfold parseLi
    dsimp only
    rw [keyLi_back m hr hm.item, if_pos ⟨keyLi_len m, hr⟩]
  · rw [if_neg hr] at h
    exact absurd h (by decide)
theorem parseLi_back (s : List UInt8) (h : (parseLi s).2 = 0) : bytesLi (parseLi s).1 = (s, 0) := by
  unfold parseLi at h ⊢
  by_cases hc : s.length = 22 ∧ rightLi (liOf s) = true
  · rw [if_pos hc]
    obtain ⟨hl, hr⟩ := hc
    unfold bytesLi
    dsimp only
    rw [if_pos hr]
    obtain ⟨h1, h2, h3, -⟩ := (rightLi_iff _).1 hr
    have t1 : sgn (seg s 6 8) = (seg s 6 8 : Nat) := by
      have := seg_lt s 6 8
      rw [q8] at this
      unfold liOf at h2
      dsimp only at h2
      unfold sgn at h2 ⊢
      split
      · rfl
      · rename_i hh; rw [if_neg hh] at h2; omega
    have t2 : sgn (seg s 14 8) = (seg s 14 8 : Nat) := by
      have := seg_lt s 14 8
      rw [q8] at this
      unfold liOf at h3
      dsimp only at h3
      unfold sgn at h3 ⊢
      split
      · rfl
      · rename_i hh; rw [if_neg hh] at h3; omega
    unfold keyLi liOf
    dsimp only
    rw [t1, t2, Int.toNat_natCast, Int.toNat_natCast, seg_put s 0 4 (by omega) (by decide), seg_put s 4 2 (by omega) (by decide), seg_put s 6 8 (by omega) (by decide), seg_put s 14 8 (by omega) (by decide)]
    have p3 : (s.drop 6).take 8 ++ (s.drop 14).take 8 = s.drop 6 := by
      have e : (s.drop 14).take 8 = s.drop 14 := List.take_of_length_le (by rw [List.length_drop]; omega)
      rw [e, show (14 : Nat) = 6 + 8 from rfl, ← List.drop_drop, List.take_append_drop]
    have p2 : (s.drop 4).take 2 ++ s.drop 6 = s.drop 4 := by
      rw [show (6 : Nat) = 4 + 2 from rfl, ← List.drop_drop, List.take_append_drop]
    rw [p3, p2, List.drop_zero, List.take_append_drop]
  · rw [if_neg hc] at h
    exact absurd h (by decide)

theorem listS_ok (l : List St) (x : Li) (h : (listS l x).2 = 0) : rightLi x = true ∧ (takeG l x.st).2 = 0 ∧ listS l x = takeG l x.st := by
  unfold listS at h ⊢
  by_cases h1 : rightLi x = true
  · rw [if_pos h1] at h ⊢; exact ⟨h1, h, rfl⟩
  · rw [if_neg h1] at h; exact absurd h (by decide)
/-- What is listed and canceled is as it was. -/
theorem list_cancel (l : List St) (x : Li) (h : (listS l x).2 = 0) : cancelS (listS l x).1 x = (l, 0) := by
  obtain ⟨h1, h2, h3⟩ := listS_ok l x h
  rw [h3]
  unfold cancelS
  rw [if_pos h1]
  exact take_give l x.st h2
theorem buyS_ok (a b : Ac) (l : List St) (x : Li) (h : (buyS a b l x).2.2.2 = 0) : rightLi x = true ∧ (giveG l x.st).2 = 0 ∧ (payA a b x.price).2.2 = 0 ∧ buyS a b l x = (⟨a.w - x.price, a.b⟩, ⟨b.w + x.price, b.b⟩, (giveG l x.st).1, 0) := by
  unfold buyS at h ⊢
  by_cases h1 : rightLi x = true
  · rw [if_pos h1] at h ⊢
    by_cases h2 : (payA a b x.price).2.2 = 0
    · rw [if_pos h2] at h ⊢
      by_cases h3 : (giveG l x.st).2 = 0
      · rw [if_pos h3]
        obtain ⟨-, -, e⟩ := payA_ok a b x.price h2
        rw [e]
        exact ⟨h1, h3, rfl, rfl⟩
      · rw [if_neg h3] at h; exact absurd h h3
    · rw [if_neg h2] at h; exact absurd h h2
  · rw [if_neg h1] at h; exact absurd h (by decide)
theorem buyS_fails (a b : Ac) (l : List St) (x : Li) (h : (buyS a b l x).2.2.2 ≠ 0) : buyS a b l x = (Ac.zero, Ac.zero, [], (buyS a b l x).2.2.2) := by
  unfold buyS at h ⊢
  split
  · rename_i h1
    rw [if_pos h1] at h
    split
    · rename_i h2
      rw [if_pos h2] at h
      split
      · rename_i h3; rw [if_pos h3] at h; exact absurd rfl h
      · rfl
    · rfl
  · rfl
theorem listS_len (l : List St) (x : Li) (_ : l.length ≤ 30) : (listS l x).1.length ≤ 30 := by
  have hz := (sizes_ok l x.st).2
  unfold listS
  split
  · omega
  · exact Nat.zero_le _
end Go.Proofs.YtckkiilbabbeaaaDoor
