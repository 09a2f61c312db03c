/- Mail: which mails are right, their bytes, sending, claiming: reckoning. -/
import Derived.Test.YtfjjodkapofgjaaGreatDoorKJ9
import Derived.Test.YtfjjodkapofgjaaGreatDoorKI9
import Derived.Test.YtfjjodkapofgjaaGreatDoorKI0
import Derived.Test.YtfjjodkapofgjaaGreatDoorKC0
import Derived.Test.YtfjjodkapofgjaaGreatDoorKF1
namespace Go.Proofs.YtfjjodkapofgjaaGreatDoor
open Go Go.RowKit Sm

structure Ml where
  src : Nat
  money : Int
  item : Nat
  n : Int
def Ml.v (m : Ml) : Value := .agg #[.int .u32 m.src, .int .i64 m.money, .int .u16 m.item, .int .i64 m.n]
structure Ml.Ok (m : Ml) : Prop where
  src : m.src < 4294967296
  money : I64 m.money
  item : m.item < 65536
  n : I64 m.n
def Ml.zero : Ml := ⟨0, 0, 0, 0⟩
def Ml.st (m : Ml) : St := ⟨m.item, m.n⟩
def rightM (m : Ml) : Bool := decide ((1 ≤ m.src ∧ m.src ≤ 1000000) ∧ (0 ≤ m.money ∧ m.money ≤ 1152921504606846976) ∧ (0 ≤ m.n ∧ m.n ≤ 1152921504606846976) ∧ (0 < m.money ∨ 0 < m.n) ∧ (0 < m.n ∨ m.item = 0))
theorem rightM_iff (m : Ml) : rightM m = true ↔ ((1 ≤ m.src ∧ m.src ≤ 1000000) ∧ (0 ≤ m.money ∧ m.money ≤ 1152921504606846976) ∧ (0 ≤ m.n ∧ m.n ≤ 1152921504606846976) ∧ (0 < m.money ∨ 0 < m.n) ∧ (0 < m.n ∨ m.item = 0)) := by unfold rightM; exact decide_eq_true_iff
def keyM (m : Ml) : List UInt8 := putB m.src 4 ++ (putB m.money.toNat 8 ++ (putB m.item 2 ++ putB m.n.toNat 8))
def bytesMl (m : Ml) : List UInt8 × Int := if rightM m then (keyM m, 0) else ([], 140)
/-- A number of eight bytes, as a signed one. -/
def sgn (n : Nat) : Int := if n < 9223372036854775808 then n else (n : Int) - 18446744073709551616
def mlOf (s : List UInt8) : Ml := ⟨seg s 0 4, sgn (seg s 4 8), seg s 12 2, sgn (seg s 14 8)⟩
def parseM (s : List UInt8) : Ml × Int := if s.length = 22 ∧ rightM (mlOf s) = true then (mlOf s, 0) else (Ml.zero, 140)
def sendM (a : Ac) (l : List St) (m : Ml) : Ac × List St × Int :=
  if rightM m then
    (if (spendA a m.money).2 = 0 then
      (if rightG l then (if m.n = 0 then ((spendA a m.money).1, l, 0) else (if (takeG l m.st).2 = 0 then ((spendA a m.money).1, (takeG l m.st).1, 0) else (Ac.zero, [], (takeG l m.st).2))) else (Ac.zero, [], 120))
     else (Ac.zero, [], (spendA a m.money).2))
  else (Ac.zero, [], 140)
def claimM (a : Ac) (l : List St) (m : Ml) : Ac × List St × Int :=
  if rightM m then
    (if (earnA a m.money).2 = 0 then
      (if rightG l then (if m.n = 0 then ((earnA a m.money).1, l, 0) else (if (giveG l m.st).2 = 0 then ((earnA a m.money).1, (giveG l m.st).1, 0) else (Ac.zero, [], (giveG l m.st).2))) else (Ac.zero, [], 120))
     else (Ac.zero, [], (earnA a m.money).2))
  else (Ac.zero, [], 140)

theorem q8 : (256 : Nat) ^ 8 = 18446744073709551616 := rfl
theorem sgn_wrap (n : Nat) (h : n < 18446744073709551616) : IntKind.i64.wrap (n : Int) = sgn n := by
  rw [IntKind.wrap_i64]
  unfold sgn
  split <;> omega
theorem sgn_i64 (n : Nat) (h : n < 18446744073709551616) : I64 (sgn n) := by
  unfold sgn I64
  split <;> omega
theorem mlOf_ok (s : List UInt8) : (mlOf s).Ok := by
  have h1 := seg_lt s 0 4
  have h2 := seg_lt s 4 8
  have h3 := seg_lt s 12 2
  have h4 := seg_lt s 14 8
  rw [q4] at h1
  rw [q8] at h2 h4
  rw [q2] at h3
  exact ⟨h1, sgn_i64 _ h2, h3, sgn_i64 _ h4⟩
theorem Ml.zero_ok : Ml.zero.Ok := ⟨by decide, by unfold I64; decide, by decide, by unfold I64; decide⟩
theorem parseM_ok (s : List UInt8) : (parseM s).1.Ok := by
  unfold parseM
  split
  · exact mlOf_ok s
  · exact Ml.zero_ok
theorem keyM_len (m : Ml) : (keyM m).length = 22 := by simp [keyM]
theorem bytesMl_len (m : Ml) : (bytesMl m).1.length ≤ 22 := by
  unfold bytesMl
  split
  · rw [keyM_len]; exact Nat.le_refl _
  · exact Nat.zero_le _
/-- A piece of bytes laid one behind the other. -/
theorem seg_skip (p r : List UInt8) (i n : Nat) (h : i = p.length) : seg (p ++ r) i n = seg r 0 n := by
  subst h
  unfold seg
  rw [List.drop_left, List.drop_zero]
theorem seg_here (x n : Nat) (r : List UInt8) (hn : n ≤ 8) (hx : x < 256 ^ n) : seg (putB x n ++ r) 0 n = x := by
  unfold seg
  rw [List.drop_zero, List.take_left' (putB_length x n), getB_putB x n hn hx]
theorem keyM_back (m : Ml) (h : rightM m = true) (hi : m.item < 65536) : mlOf (keyM m) = m := by
  obtain ⟨f, mo, i, n⟩ := m
  obtain ⟨h1, h2, h3, -⟩ := (rightM_iff _).1 h
  dsimp only at h1 h2 h3 hi
  have e1 : seg (putB f 4 ++ (putB mo.toNat 8 ++ (putB i 2 ++ putB n.toNat 8))) 0 4 = f := seg_here _ _ _ (by decide) (by rw [q4]; omega)
  have e2 : seg (putB f 4 ++ (putB mo.toNat 8 ++ (putB i 2 ++ putB n.toNat 8))) 4 8 = mo.toNat := by
    rw [seg_skip _ _ 4 8 (by simp)]; exact seg_here _ _ _ (by decide) (by rw [q8]; omega)
  have e3 : seg (putB f 4 ++ (putB mo.toNat 8 ++ (putB i 2 ++ putB n.toNat 8))) 12 2 = i := by
    rw [← List.append_assoc, seg_skip _ _ 12 2 (by simp)]; exact seg_here _ _ _ (by decide) (by rw [q2]; omega)
  have e4 : seg (putB f 4 ++ (putB mo.toNat 8 ++ (putB i 2 ++ putB n.toNat 8))) 14 8 = n.toNat := by
    rw [← List.append_assoc, ← List.append_assoc, seg_skip _ _ 14 8 (by simp)]
    have := seg_here n.toNat 8 [] (by decide) (by rw [q8]; omega)
    rwa [List.append_nil] at this
  unfold mlOf keyM
  dsimp only
  rw [e1, e2, e3, e4]
  have s1 : sgn mo.toNat = mo := by unfold sgn; split <;> omega
  have s2 : sgn n.toNat = n := by unfold sgn; split <;> omega
  rw [s1, s2]
theorem bytesMl_back (m : Ml) (hm : m.Ok) (h : (bytesMl m).2 = 0) : parseM (bytesMl m).1 = (m, 0) := by
  unfold bytesMl at h ⊢
  by_cases hr : rightM m = true
  · rw [if_pos hr]
    unfold parseM
    dsimp only
    rw [keyM_back m hr hm.item, if_pos ⟨keyM_len m, hr⟩]
  · rw [if_neg hr] at h
    exact absurd h (by decide)
theorem parseM_back (s : List UInt8) (h : (parseM s).2 = 0) : bytesMl (parseM s).1 = (s, 0) := by
  unfold parseM at h ⊢
  by_cases hc : s.length = 22 ∧ rightM (mlOf s) = true
  · rw [if_pos hc]
    obtain ⟨hl, hr⟩ := hc
    unfold bytesMl
    dsimp only
    rw [if_pos hr]
    obtain ⟨h1, h2, h3, -⟩ := (rightM_iff _).1 hr
    have t1 : sgn (seg s 4 8) = (seg s 4 8 : Nat) := by
      have := seg_lt s 4 8
      rw [q8] at this
      unfold mlOf at h2
      dsimp only at h2
      unfold sgn at h2 ⊢
      split
      · rfl
      · rename_i hh; rw [if_neg hh] at h2; omega
    have t2 : sgn (seg s 14 8) = (seg s 14 8 : Nat) := by
      have := seg_lt s 14 8
      rw [q8] at this
      unfold mlOf at h3
      dsimp only at h3
      unfold sgn at h3 ⊢
      split
      · rfl
      · rename_i hh; rw [if_neg hh] at h3; omega
    unfold keyM mlOf
    dsimp only
    rw [t1, t2, Int.toNat_natCast, Int.toNat_natCast, seg_put s 0 4 (by omega) (by decide), seg_put s 4 8 (by omega) (by decide), seg_put s 12 2 (by omega) (by decide), seg_put s 14 8 (by omega) (by decide)]
    have p3 : (s.drop 12).take 2 ++ (s.drop 14).take 8 = s.drop 12 := by
      have e : (s.drop 14).take 8 = s.drop 14 := List.take_of_length_le (by rw [List.length_drop]; omega)
      rw [e, show (14 : Nat) = 12 + 2 from rfl, ← List.drop_drop, List.take_append_drop]
    have p2 : (s.drop 4).take 8 ++ s.drop 12 = s.drop 4 := by
      rw [show (12 : Nat) = 4 + 8 from rfl, ← List.drop_drop, List.take_append_drop]
    rw [p3, p2, List.drop_zero, List.take_append_drop]
  · rw [if_neg hc] at h
    exact absurd h (by decide)

theorem spend_earn (a : Ac) (n : Int) (h : (spendA a n).2 = 0) : earnA (spendA a n).1 n = (a, 0) := by
  obtain ⟨h1, h2, h3, h4, h5⟩ := spendA_ok a n h
  rw [h4]
  dsimp only
  obtain ⟨r1, r2, r3⟩ := (rightA_iff _).1 h1
  unfold earnA
  rw [if_pos h5]
  dsimp only
  obtain ⟨s1, s2, s3⟩ := (rightA_iff _).1 h5
  dsimp only at s1 s2 s3
  rw [addA_of (a.w - n) n s1 h2 (by rwa [show a.w - n + n = a.w by omega])]
  dsimp only
  rw [if_pos rfl, show a.w - n + n = a.w by omega, addA_of a.w a.b r1 r2 r3, if_pos rfl]
theorem sendM_ok (a : Ac) (l : List St) (m : Ml) (h : (sendM a l m).2.2 = 0) : rightM m = true ∧ (spendA a m.money).2 = 0 ∧ rightG l = true ∧ (m.n = 0 ∧ sendM a l m = ((spendA a m.money).1, l, 0) ∨ m.n ≠ 0 ∧ (takeG l m.st).2 = 0 ∧ sendM a l m = ((spendA a m.money).1, (takeG l m.st).1, 0)) := by
  unfold sendM at h ⊢
  by_cases h1 : rightM m = true
  · rw [if_pos h1] at h ⊢
    by_cases h2 : (spendA a m.money).2 = 0
    · rw [if_pos h2] at h ⊢
      by_cases h3 : rightG l = true
      · rw [if_pos h3] at h ⊢
        by_cases h4 : m.n = 0
        · rw [if_pos h4]; exact ⟨h1, h2, h3, .inl ⟨h4, rfl⟩⟩
        · rw [if_neg h4] at h ⊢
          by_cases h5 : (takeG l m.st).2 = 0
          · rw [if_pos h5]; exact ⟨h1, h2, h3, .inr ⟨h4, h5, rfl⟩⟩
          · rw [if_neg h5] at h; exact absurd h h5
      · rw [if_neg h3] at h; exact absurd h (by decide)
    · rw [if_neg h2] at h; exact absurd h h2
  · rw [if_neg h1] at h; exact absurd h (by decide)
theorem claimM_ok (a : Ac) (l : List St) (m : Ml) (h : (claimM a l m).2.2 = 0) : rightM m = true ∧ (earnA a m.money).2 = 0 ∧ rightG l = true ∧ (m.n = 0 ∧ claimM a l m = ((earnA a m.money).1, l, 0) ∨ m.n ≠ 0 ∧ (giveG l m.st).2 = 0 ∧ claimM a l m = ((earnA a m.money).1, (giveG l m.st).1, 0)) := by
  unfold claimM at h ⊢
  by_cases h1 : rightM m = true
  · rw [if_pos h1] at h ⊢
    by_cases h2 : (earnA a m.money).2 = 0
    · rw [if_pos h2] at h ⊢
      by_cases h3 : rightG l = true
      · rw [if_pos h3] at h ⊢
        by_cases h4 : m.n = 0
        · rw [if_pos h4]; exact ⟨h1, h2, h3, .inl ⟨h4, rfl⟩⟩
        · rw [if_neg h4] at h ⊢
          by_cases h5 : (giveG l m.st).2 = 0
          · rw [if_pos h5]; exact ⟨h1, h2, h3, .inr ⟨h4, h5, rfl⟩⟩
          · rw [if_neg h5] at h; exact absurd h h5
      · rw [if_neg h3] at h; exact absurd h (by decide)
    · rw [if_neg h2] at h; exact absurd h h2
  · rw [if_neg h1] at h; exact absurd h (by decide)
/-- What is sent and claimed by the sender is as it was. -/
theorem send_claim (a : Ac) (l : List St) (m : Ml) (h : (sendM a l m).2.2 = 0) : claimM (sendM a l m).1 (sendM a l m).2.1 m = (a, l, 0) := by
  obtain ⟨h1, h2, h3, h4⟩ := sendM_ok a l m h
  have he := spend_earn a m.money h2
  rcases h4 with ⟨h4, h5⟩ | ⟨h4, h5, h6⟩
  · rw [h5]
    dsimp only
    unfold claimM
    rw [if_pos h1, he, if_pos rfl, if_pos h3, if_pos h4]
  · rw [h6]
    dsimp only
    have hg := take_give l m.st h5
    have hr : rightG (takeG l m.st).1 = true := (giveG_ok _ _ (by rw [hg])).1
    unfold claimM
    rw [if_pos h1, he, if_pos rfl, if_pos hr, if_neg h4, hg, if_pos rfl]
theorem sendM_len (a : Ac) (l : List St) (m : Ml) (hl : l.length ≤ 30) : (sendM a l m).2.1.length ≤ 30 := by
  by_cases h : (sendM a l m).2.2 = 0
  · obtain ⟨-, -, -, h4⟩ := sendM_ok a l m h
    rcases h4 with ⟨-, h5⟩ | ⟨-, -, h6⟩
    · rw [h5]; exact hl
    · rw [h6]; have := (sizes_ok l m.st).2; dsimp only; omega
  · unfold sendM at h ⊢
    split
    · rename_i h1
      rw [if_pos h1] at h
      split
      · rename_i h2
        rw [if_pos h2] at h
        split
        · rename_i h3
          rw [if_pos h3] at h
          split
          · rename_i h4; rw [if_pos h4] at h; exact absurd rfl h
          · rename_i h4
            rw [if_neg h4] at h
            split
            · rename_i h5; rw [if_pos h5] at h; exact absurd rfl h
            · exact Nat.zero_le _
        · exact Nat.zero_le _
      · exact Nat.zero_le _
    · exact Nat.zero_le _
theorem claimM_len (a : Ac) (l : List St) (m : Ml) (hl : l.length ≤ 30) : (claimM a l m).2.1.length ≤ 30 := by
  have hz := (sizes_ok l m.st).1
  unfold claimM
  split
  · split
    · split
      · split
        · exact hl
        · split
          · dsimp only; omega
          · exact Nat.zero_le _
      · exact Nat.zero_le _
    · exact Nat.zero_le _
  · exact Nat.zero_le _
end Go.Proofs.YtfjjodkapofgjaaGreatDoor

/- Mail: the document's own Right, Bytes. -/
namespace Go.Proofs.YtfjjodkapofgjaaGreatDoor
open Go Go.RowKit Sm
attribute [local go_sem] Oper.semAt_some

theorem ret_boolM {a b : Bool} (h : a = b) : Ending.returned (.bool a) = Ending.returned (.bool b) := by rw [h]
/-- A mail in a box. -/
structure MlBox (w : World) (b : Nat) (f : Int) (mo : Int) (i : Int) (n : Int) : Prop where
  f : w.cell? ⟨b, 0, none⟩ = some (.int .u32 f)
  mo : w.cell? ⟨b, 1, none⟩ = some (.int .i64 mo)
  i : w.cell? ⟨b, 2, none⟩ = some (.int .u16 i)
  n : w.cell? ⟨b, 3, none⟩ = some (.int .i64 n)
theorem MlBox.new (w : World) (f mo i n : Int) (T : TypeId) : MlBox (w.alloc (.cells #[.int .u32 f, .int .i64 mo, .int .u16 i, .int .i64 n] T)) w.heap.size f mo i n := by
  constructor <;> exact cell_whole (cur := [.int .u32 f, .int .i64 mo, .int .u16 i, .int .i64 n]) (heap_alloc_new _ _) _
theorem MlBox.below {w w' : World} {b : Nat} {f mo i n : Int} (h : MlBox w b f mo i n) (hb : Below w.heap.size w w') : MlBox w' b f mo i n :=
  ⟨(hb.cell (World.block_lt_of_cell? _ _ h.f)).trans h.f, (hb.cell (World.block_lt_of_cell? _ _ h.mo)).trans h.mo, (hb.cell (World.block_lt_of_cell? _ _ h.i)).trans h.i, (hb.cell (World.block_lt_of_cell? _ _ h.n)).trans h.n⟩

set_option maxRecDepth 20000 in
set_option maxHeartbeats 4000000 in
theorem refrightM_any (m : Ml) (w : World) : Calls Tryz.prog 17 #[m.v] w fun e w' => e = .returned (.bool (rightM m)) ∧ Below w.heap.size w w' := by
  obtain ⟨r, hr⟩ : ∃ r, rightM m = r := ⟨_, rfl⟩
  rw [hr]
  obtain ⟨f, mo, i, n⟩ := m
  unfold Ml.v
  unfold rightM at hr
  dsimp only at *
  obtain ⟨F, hF⟩ : ∃ F : Int, (f : Int) = F := ⟨_, rfl⟩
  obtain ⟨I, hI⟩ : ∃ I : Int, (i : Int) = I := ⟨_, rfl⟩
  have HN : Veil ((f : Int) = F ∧ (i : Int) = I) := ⟨hF, hI⟩
  have HR : Veil _ := ⟨hr⟩
  have H1 : Veil _ := ⟨fun w => refamt_any mo w⟩
  have H2 : Veil _ := ⟨fun w => refamt_any n w⟩
  obtain ⟨A1, hA1⟩ : ∃ A, amt mo = A := ⟨_, rfl⟩
  obtain ⟨A2, hA2⟩ : ∃ A, amt n = A := ⟨_, rfl⟩
  rw [hA1] at H1
  rw [hA2] at H2
  have HA1 : Veil (A1 = true ↔ (0 ≤ mo ∧ mo ≤ 1152921504606846976)) := ⟨by rw [← hA1]; exact amt_iff mo⟩
  have HA2 : Veil (A2 = true ↔ (0 ≤ n ∧ n ≤ 1152921504606846976)) := ⟨by rw [← hA2]; exact amt_iff n⟩
  rw [hF, hI]
  clear hF hI hr hA1 hA2
  have HB : Veil _ := ⟨MlBox.new w F mo I n 30⟩
  have hT : Below w.heap.size w (w.alloc (.cells #[.int .u32 F, .int .i64 mo, .int .u16 I, .int .i64 n] 30)) := below_al (Below.refl _ _) _
  cases A1 <;> cases A2
  all_goals
    go_enter Tryz.func17, Tryz.ntmps17
    go_wp2_with (first
      | (go_at_call 36; (with_reducible refine (H2.out _).mono ?_); rintro e w2 ⟨rfl, hb2⟩; have hT := bc_then hT hb2; have HB : Veil _ := ⟨HB.out.below hb2⟩; obtain ⟨x0, x1, x2, x3⟩ := HB.out)
      | (go_at_call 36; (with_reducible refine (H1.out _).mono ?_); rintro e w1 ⟨rfl, hb1⟩; have hT := bc_then hT hb1; have HB : Veil _ := ⟨HB.out.below hb1⟩; obtain ⟨x0, x1, x2, x3⟩ := HB.out))
    all_goals
      go_ret
      refine ⟨ret_boolM ?_, hT⟩
      have h := HR.out
      obtain ⟨h1, h2⟩ := HN.out
      have a1 := HA1.out
      have a2 := HA2.out
      subst h
      rw [Bool.eq_iff_iff]
      simp at *
      omega

end Go.Proofs.YtfjjodkapofgjaaGreatDoor

/- Mail: the document's own Parse. -/
namespace Go.Proofs.YtfjjodkapofgjaaGreatDoor
open Go Go.RowKit Sm
attribute [local go_sem] Oper.semAt_some

theorem info_mail : (Tryz.prog.info? 30).map (·.size) = some 4 := by kernel_rfl
theorem results_mail2 {fn : Func} {p q : Tmp} {tmps : Array Value} {w : World} {g : Nat} {x0 x1 x2 x3 y : Value} (h : fn.results = #[.cell p 30, .tmp q]) (hp : tmps.getD p undef = .pointer (some ⟨g, 0, none⟩)) (hq : tmps.getD q undef = y) (hg : w.heap[g]? = some (.cells #[x0, x1, x2, x3] 30 (0, 0))) :
    (results fn tmps).run Tryz.prog w = .ok (.tuple #[.agg #[x0, x1, x2, x3], y]) w := by
  rw [results_cell_tmp h]
  have hp' : tmps[p]?.getD undef = .pointer (some ⟨g, 0, none⟩) := by simpa using hp
  have hq' : tmps[q]?.getD undef = y := by simpa using hq
  simp [hp', hq', asAddr, run_loadVar_row w g 30 30 #[x0, x1, x2, x3] (0, 0) _ hg Tryz.underlying30 rfl info_mail]
theorem pkM {w : World} {g : Nat} {a0 a1 a2 a3 : Value} {t : TypeId} (h : w.heap[g]? = some (.cells #[a0, a1, a2, a3] t (0, 0))) :
    (w.cell? ⟨g, 0, none⟩ = some a0 ∧ w.cell? ⟨g, 1, none⟩ = some a1 ∧ w.cell? ⟨g, 2, none⟩ = some a2 ∧ w.cell? ⟨g, 3, none⟩ = some a3) ∧ (w.frozen? ⟨g, 0, none⟩ = false ∧ w.frozen? ⟨g, 1, none⟩ = false ∧ w.frozen? ⟨g, 2, none⟩ = false ∧ w.frozen? ⟨g, 3, none⟩ = false) := by
  have h' : w.heap[g]? = some (.cells [a0, a1, a2, a3].toArray t (0, 0)) := h
  exact ⟨⟨cell_whole h' 0, cell_whole h' 1, cell_whole h' 2, cell_whole h' 3⟩, frozen_whole h _, frozen_whole h _, frozen_whole h _, frozen_whole h _⟩
theorem stM {w : World} {g : Nat} {a0 a1 a2 a3 : Value} {t : TypeId} (h : w.heap[g]? = some (.cells #[a0, a1, a2, a3] t (0, 0))) (v0 v1 v2 v3 : Value) :
    ((((w.setCell ⟨g, 0, none⟩ v0).setCell ⟨g, 1, none⟩ v1).setCell ⟨g, 2, none⟩ v2).setCell ⟨g, 3, none⟩ v3).heap[g]? = some (.cells #[v0, v1, v2, v3] t (0, 0)) :=
  heap_setCell_at (heap_setCell_at (heap_setCell_at (heap_setCell_at h 0 v0) 1 v1) 2 v2) 3 v3
theorem tnM {w0 w : World} {g : Nat} (h : Below w0.heap.size w0 w) (hg : w0.heap.size ≤ g) (v0 v1 v2 v3 : Value) :
    Below w0.heap.size w0 ((((w.setCell ⟨g, 0, none⟩ v0).setCell ⟨g, 1, none⟩ v1).setCell ⟨g, 2, none⟩ v2).setCell ⟨g, 3, none⟩ v3) :=
  (((h.setCell hg v0).setCell hg v1).setCell hg v2).setCell hg v3
/-- Four cells stored elsewhere leave a block. -/
theorem otherM {w : World} {g k : Nat} {o : Obj} (h : w.heap[k]? = some o) (hne : k ≠ g) (v0 v1 v2 v3 : Value) :
    ((((w.setCell ⟨g, 0, none⟩ v0).setCell ⟨g, 1, none⟩ v1).setCell ⟨g, 2, none⟩ v2).setCell ⟨g, 3, none⟩ v3).heap[k]? = some o := by
  rw [Below.heap_setCell _ _ _ _ hne, Below.heap_setCell _ _ _ _ hne, Below.heap_setCell _ _ _ _ hne, Below.heap_setCell _ _ _ _ hne]
  exact h

end Go.Proofs.YtfjjodkapofgjaaGreatDoor

/- Mail: the document's own copied, Send, Claim. -/
namespace Go.Proofs.YtfjjodkapofgjaaGreatDoor
open Go Go.RowKit Sm
attribute [local go_sem] Oper.semAt_some

set_option maxRecDepth 20000 in
theorem refcopied_any {w : World} {p : Option Addr} (l : List St) (c : Nat) (h : Els elS w p l) (hl : l.length ≤ 1000) : Calls Tryz.prog 20 #[.slice p l.length c] w (FreshPost elS w l) := by
  have H : Veil _ := ⟨h⟩
  clear h
  go_enter Tryz.func20, Tryz.ntmps20
  go_wp2_with (at_builtin; refine wpList_append_els elS rfl (.tmp 4) (.tmp 5) rfl w.heap.size _ [] l rfl (OwnE.nil _ _ _) p c rfl H.out (by simp; omega) (Nat.le_refl _) ?_; intro v' w9 hown hgrow hfrom)
  go_ret
  rw [List.nil_append] at hown
  exact ⟨_, rfl, hown.fresh (Nat.le_refl _), ownE_grown (Below.refl _ _) (Nat.le_refl _) (OwnE.nil elS w w.heap.size) hgrow⟩
theorem results_acc3 {fn : Func} {p q r : Tmp} {tmps : Array Value} {w : World} {g : Nat} {x0 x1 z y : Value} (h : fn.results = #[.cell p 23, .tmp q, .tmp r]) (hp : tmps.getD p undef = .pointer (some ⟨g, 0, none⟩)) (hq : tmps.getD q undef = z) (hr : tmps.getD r undef = y) (hg : w.heap[g]? = some (.cells #[x0, x1] 23 (0, 0))) :
    (results fn tmps).run Tryz.prog w = .ok (.tuple #[.agg #[x0, x1], z, y]) w := by
  have hp' : tmps[p]?.getD undef = .pointer (some ⟨g, 0, none⟩) := by simpa using hp
  have hq' : tmps[q]?.getD undef = z := by simpa using hq
  have hr' : tmps[r]?.getD undef = y := by simpa using hr
  obtain ⟨⟨c0, c1⟩, -⟩ := pk2 hg
  simp [results, h, go_sem, hp', hq', hr', c0, c1]
/-- The boxes of an account, a mail, the answer, behind calls. -/
structure SdB (w W : World) (a b f mo i n : Int) : Prop where
  x : W.heap[w.heap.size]? = some (.cells #[.int .i64 a, .int .i64 b] 23 (0, 0))
  m : W.heap[w.heap.size + 1]? = some (.cells #[.int .u32 f, .int .i64 mo, .int .u16 i, .int .i64 n] 30 (0, 0))
  r : W.heap[w.heap.size + 2]? = some (.cells #[.int .i64 0, .int .i64 0] 23 (0, 0))
  below : Below w.heap.size w W
theorem SdB.new (w : World) (a b f mo i n : Int) : SdB w (((w.alloc (.cells #[.int .i64 a, .int .i64 b] 23)).alloc (.cells #[.int .u32 f, .int .i64 mo, .int .u16 i, .int .i64 n] 30)).alloc (.cells #[.int .i64 0, .int .i64 0] 23)) a b f mo i n := by
  refine ⟨?_, ?_, ?_, below_al (below_al (below_al (Below.refl _ _) _) _) _⟩
  all_goals
    simp only [heap_alloc_if, World.size_alloc]; repeat (first | rw [if_neg (by omega)] | rw [if_pos (by first | trivial | omega)])
theorem SdB.after {w W W' : World} {a b f mo i n : Int} (h : SdB w W a b f mo i n) (hb : Below W.heap.size W W') : SdB w W' a b f mo i n :=
  ⟨(hb.block _ (lt_of_heap h.x)).trans h.x, (hb.block _ (lt_of_heap h.m)).trans h.m, (hb.block _ (lt_of_heap h.r)).trans h.r, bc_then h.below hb⟩
theorem FreshE.turned {α : Type} {E : El α} {B : Nat} {w w' : World} {v : Value} {L : List α} {F : Nat → Prop} (h : FreshE E B w v L) (ht : Turned F w w') (hF : ∀ k, F k → k < B) : FreshE E B w' v L := by
  obtain ⟨p, c, rfl, he, hc, ha, hf⟩ := h
  refine ⟨p, c, rfl, ?_, hc, fun hn a hp => ?_, fun b o hp j hj => ?_⟩
  · by_cases hn : L = []
    · subst hn; exact Els.nil _ _
    · exact he.turned ht fun a hp h => by have := (ha hn a hp).1; have := hF _ h; omega
  · obtain ⟨h1, h2, h3⟩ := ha hn a hp
    exact ⟨h1, Nat.lt_of_lt_of_le h2 ht.size, h3⟩
  · have hn : L ≠ [] := by rintro rfl; simp at hj
    obtain ⟨h1, h2, -⟩ := ha hn _ hp
    have hb : w'.heap[b]? = w.heap[b]? := ht.block b h2 fun h => by have := hF _ h; dsimp only at h1; omega
    rw [World.frozen?_of_block hb]
    exact hf b o hp j hj
theorem two_turned (w : World) (g : Nat) (v0 v1 : Value) : Turned (· = g) w ((w.setCell ⟨g, 0, none⟩ v0).setCell ⟨g, 1, none⟩ v1) :=
  ((Turned.refl (· = g) w).setCell (p := ⟨g, 0, none⟩) rfl _).setCell (p := ⟨g, 1, none⟩) rfl _
def MailPost (w : World) (A : Ac) (L : List St) (c : Int) (e : Ending) (w' : World) : Prop := ∃ v, e = .returned (.tuple #[A.v, v, .int .i64 c]) ∧ FreshE elS w.heap.size w' v L ∧ Below w.heap.size w w'
theorem MailPost.nil {w w' : World} {c : Int} (hb : Below w.heap.size w w') : MailPost w Ac.zero [] c (.returned (.tuple #[.agg #[.int .i64 0, .int .i64 0], .slice none 0 0, .int .i64 c])) w' := ⟨_, rfl, FreshE.nil _ _ _, hb⟩

set_option maxRecDepth 20000 in
set_option maxHeartbeats 4000000 in
theorem refsend_any {w : World} {p : Option Addr} (a : Ac) (ha : a.Ok) (l : List St) (lc : Nat) (m : Ml) (hm : m.Ok) (h : Els elS w p l) (hl : l.length ≤ 1000) :
    Calls Tryz.prog 7 #[a.v, .slice p l.length lc, m.v] w (MailPost w (sendM a l m).1 (sendM a l m).2.1 (sendM a l m).2.2) := by
  have RM : Veil _ := ⟨fun w => refrightM_any m w⟩
  have SP : Veil _ := ⟨fun w => refspendA_any a ha m.money hm.money w⟩
  have RG : Veil (∀ W, Below w.heap.size w W → Calls Tryz.prog 19 #[.slice p l.length lc] W fun e w' => e = .returned (.bool (rightG l)) ∧ Below W.heap.size W w') := ⟨fun W hW => refrightG_any l lc (h.below hW) (by omega)⟩
  have TK : Veil (∀ W, Below w.heap.size w W → Calls Tryz.prog 21 #[.slice p l.length lc, m.st.v] W (GoodsPost W (takeG l m.st).1 (takeG l m.st).2)) := ⟨fun W hW => reftakeG_any l lc m.st (h.below hW) hl hm.n⟩
  have CP : Veil (∀ W, Below w.heap.size w W → Calls Tryz.prog 20 #[.slice p l.length lc] W (FreshPost elS W l)) := ⟨fun W hW => refcopied_any l lc (h.below hW) hl⟩
  obtain ⟨R, hR⟩ : ∃ R, sendM a l m = R := ⟨_, rfl⟩
  have HR : Veil _ := ⟨hR⟩
  rw [hR]
  clear hR h ha hm
  unfold sendM at HR
  generalize rightM m = r1 at RM HR
  generalize spendA a m.money = s1 at SP HR
  generalize rightG l = r2 at RG HR
  generalize takeG l m.st = s2 at TK HR
  obtain ⟨⟨bw, bb⟩, e1⟩ := s1
  obtain ⟨T, e2⟩ := s2
  obtain ⟨aw, ab⟩ := a
  obtain ⟨f, mo, i, n⟩ := m
  unfold Ml.st St.v Ml.v Ac.v at *
  dsimp only at *
  have HB0 : Veil _ := ⟨SdB.new w aw ab f mo i n⟩
  cases r1
  · have e : R = (Ac.zero, [], 140) := HR.out.symm
    subst e
    go_enter Tryz.func7, Tryz.ntmps7
    go_wp2_with (first
      | (go_at_call 21; (with_reducible refine (TK.out _ HB.out.below).mono ?_); rintro e w4 ⟨v4, rfl, hF4, hb4⟩; have hlt3 := lt_of_heap HB.out.r; have HF4 : Veil _ := ⟨hF4⟩; have HB : Veil _ := ⟨HB.out.after hb4⟩; have HT3 : Veil _ := ⟨(hb4.block _ (lt_of_heap HT3.out)).trans HT3.out⟩; obtain ⟨p4, c4, ev4, -, -⟩ := hF4.form; subst ev4; clear hb4 hF4; obtain ⟨⟨x0, x1⟩, -⟩ := pk2 HB.out.x; obtain ⟨⟨z0, z1⟩, k0, k1⟩ := pk2 HB.out.r; obtain ⟨⟨y0, y1, y2, y3⟩, -⟩ := pkM HB.out.m; have hlt := lt_of_heap HB.out.r; obtain ⟨⟨u0, u1⟩, -⟩ := pk2 HT3.out)
      | (go_at_call 19; (with_reducible refine (RG.out _ (HB.out.after (below_al (Below.refl _ _) (.cells #[.int .i64 bw, .int .i64 bb] 23))).below).mono ?_); rintro e w3 ⟨rfl, hb3⟩; have HT3 : Veil (w3.heap[w2.heap.size]? = _) := ⟨(hb3.block _ (by simp)).trans (heap_alloc_new w2 (.cells #[.int .i64 bw, .int .i64 bb] 23))⟩; have HB : Veil _ := ⟨(HB.out.after (below_al (Below.refl _ _) (.cells #[.int .i64 bw, .int .i64 bb] 23))).after hb3⟩; clear hb3; obtain ⟨⟨x0, x1⟩, -⟩ := pk2 HB.out.x; obtain ⟨⟨z0, z1⟩, k0, k1⟩ := pk2 HB.out.r; obtain ⟨⟨y0, y1, y2, y3⟩, -⟩ := pkM HB.out.m; have hlt := lt_of_heap HB.out.r; obtain ⟨⟨u0, u1⟩, -⟩ := pk2 HT3.out)
      | (go_at_call 18; (with_reducible refine (SP.out _).mono ?_); rintro e w2 ⟨rfl, hb2⟩; have HB : Veil _ := ⟨HB.out.after hb2⟩; clear hb2; obtain ⟨⟨x0, x1⟩, -⟩ := pk2 HB.out.x; obtain ⟨⟨z0, z1⟩, k0, k1⟩ := pk2 HB.out.r; obtain ⟨⟨y0, y1, y2, y3⟩, -⟩ := pkM HB.out.m; have hlt := lt_of_heap HB.out.r)
      | (go_at_call 17; (with_reducible refine (RM.out _).mono ?_); rintro e w1 ⟨rfl, hb1⟩; have HB : Veil _ := ⟨HB0.out.after hb1⟩; clear hb1; obtain ⟨⟨x0, x1⟩, -⟩ := pk2 HB.out.x; obtain ⟨⟨z0, z1⟩, k0, k1⟩ := pk2 HB.out.r; obtain ⟨⟨y0, y1, y2, y3⟩, -⟩ := pkM HB.out.m; have hlt := lt_of_heap HB.out.r))
    exact bodyPost_ret (results_acc3 (g := w.heap.size + 2) rfl rfl rfl rfl (st2 HB.out.r _ _)) rfl (MailPost.nil (tn2 HB.out.below (by omega) _ _))
  by_cases he1 : e1 = 0
  rotate_left 1
  · have e : R = (Ac.zero, [], e1) := by rw [← HR.out, if_pos rfl, if_neg he1]
    subst e
    have he1' : (e1 != 0) = true := by simpa using he1
    have he1'' : ¬ e1 = 0 := he1
    go_enter Tryz.func7, Tryz.ntmps7
    go_wp2_with (first
      | (go_at_call 21; (with_reducible refine (TK.out _ HB.out.below).mono ?_); rintro e w4 ⟨v4, rfl, hF4, hb4⟩; have hlt3 := lt_of_heap HB.out.r; have HF4 : Veil _ := ⟨hF4⟩; have HB : Veil _ := ⟨HB.out.after hb4⟩; have HT3 : Veil _ := ⟨(hb4.block _ (lt_of_heap HT3.out)).trans HT3.out⟩; obtain ⟨p4, c4, ev4, -, -⟩ := hF4.form; subst ev4; clear hb4 hF4; obtain ⟨⟨x0, x1⟩, -⟩ := pk2 HB.out.x; obtain ⟨⟨z0, z1⟩, k0, k1⟩ := pk2 HB.out.r; obtain ⟨⟨y0, y1, y2, y3⟩, -⟩ := pkM HB.out.m; have hlt := lt_of_heap HB.out.r; obtain ⟨⟨u0, u1⟩, -⟩ := pk2 HT3.out)
      | (go_at_call 19; (with_reducible refine (RG.out _ (HB.out.after (below_al (Below.refl _ _) (.cells #[.int .i64 bw, .int .i64 bb] 23))).below).mono ?_); rintro e w3 ⟨rfl, hb3⟩; have HT3 : Veil (w3.heap[w2.heap.size]? = _) := ⟨(hb3.block _ (by simp)).trans (heap_alloc_new w2 (.cells #[.int .i64 bw, .int .i64 bb] 23))⟩; have HB : Veil _ := ⟨(HB.out.after (below_al (Below.refl _ _) (.cells #[.int .i64 bw, .int .i64 bb] 23))).after hb3⟩; clear hb3; obtain ⟨⟨x0, x1⟩, -⟩ := pk2 HB.out.x; obtain ⟨⟨z0, z1⟩, k0, k1⟩ := pk2 HB.out.r; obtain ⟨⟨y0, y1, y2, y3⟩, -⟩ := pkM HB.out.m; have hlt := lt_of_heap HB.out.r; obtain ⟨⟨u0, u1⟩, -⟩ := pk2 HT3.out)
      | (go_at_call 18; (with_reducible refine (SP.out _).mono ?_); rintro e w2 ⟨rfl, hb2⟩; have HB : Veil _ := ⟨HB.out.after hb2⟩; clear hb2; obtain ⟨⟨x0, x1⟩, -⟩ := pk2 HB.out.x; obtain ⟨⟨z0, z1⟩, k0, k1⟩ := pk2 HB.out.r; obtain ⟨⟨y0, y1, y2, y3⟩, -⟩ := pkM HB.out.m; have hlt := lt_of_heap HB.out.r)
      | (go_at_call 17; (with_reducible refine (RM.out _).mono ?_); rintro e w1 ⟨rfl, hb1⟩; have HB : Veil _ := ⟨HB0.out.after hb1⟩; clear hb1; obtain ⟨⟨x0, x1⟩, -⟩ := pk2 HB.out.x; obtain ⟨⟨z0, z1⟩, k0, k1⟩ := pk2 HB.out.r; obtain ⟨⟨y0, y1, y2, y3⟩, -⟩ := pkM HB.out.m; have hlt := lt_of_heap HB.out.r))
    exact bodyPost_ret (results_acc3 (g := w.heap.size + 2) rfl rfl rfl rfl ((Below.heap_alloc _ _ _ (by have := lt_of_heap (st2 HB.out.r (.int .i64 0) (.int .i64 0)); exact this)).trans (st2 HB.out.r (.int .i64 0) (.int .i64 0)))) rfl (MailPost.nil (below_al (tn2 HB.out.below (by omega) _ _) _))
  subst he1
  cases r2
  · have e : R = (Ac.zero, [], 120) := by rw [← HR.out, if_pos rfl, if_pos rfl]; rfl
    subst e
    go_enter Tryz.func7, Tryz.ntmps7
    go_wp2_with (first
      | (go_at_call 21; (with_reducible refine (TK.out _ HB.out.below).mono ?_); rintro e w4 ⟨v4, rfl, hF4, hb4⟩; have hlt3 := lt_of_heap HB.out.r; have HF4 : Veil _ := ⟨hF4⟩; have HB : Veil _ := ⟨HB.out.after hb4⟩; have HT3 : Veil _ := ⟨(hb4.block _ (lt_of_heap HT3.out)).trans HT3.out⟩; obtain ⟨p4, c4, ev4, -, -⟩ := hF4.form; subst ev4; clear hb4 hF4; obtain ⟨⟨x0, x1⟩, -⟩ := pk2 HB.out.x; obtain ⟨⟨z0, z1⟩, k0, k1⟩ := pk2 HB.out.r; obtain ⟨⟨y0, y1, y2, y3⟩, -⟩ := pkM HB.out.m; have hlt := lt_of_heap HB.out.r; obtain ⟨⟨u0, u1⟩, -⟩ := pk2 HT3.out)
      | (go_at_call 19; (with_reducible refine (RG.out _ (HB.out.after (below_al (Below.refl _ _) (.cells #[.int .i64 bw, .int .i64 bb] 23))).below).mono ?_); rintro e w3 ⟨rfl, hb3⟩; have HT3 : Veil (w3.heap[w2.heap.size]? = _) := ⟨(hb3.block _ (by simp)).trans (heap_alloc_new w2 (.cells #[.int .i64 bw, .int .i64 bb] 23))⟩; have HB : Veil _ := ⟨(HB.out.after (below_al (Below.refl _ _) (.cells #[.int .i64 bw, .int .i64 bb] 23))).after hb3⟩; clear hb3; obtain ⟨⟨x0, x1⟩, -⟩ := pk2 HB.out.x; obtain ⟨⟨z0, z1⟩, k0, k1⟩ := pk2 HB.out.r; obtain ⟨⟨y0, y1, y2, y3⟩, -⟩ := pkM HB.out.m; have hlt := lt_of_heap HB.out.r; obtain ⟨⟨u0, u1⟩, -⟩ := pk2 HT3.out)
      | (go_at_call 18; (with_reducible refine (SP.out _).mono ?_); rintro e w2 ⟨rfl, hb2⟩; have HB : Veil _ := ⟨HB.out.after hb2⟩; clear hb2; obtain ⟨⟨x0, x1⟩, -⟩ := pk2 HB.out.x; obtain ⟨⟨z0, z1⟩, k0, k1⟩ := pk2 HB.out.r; obtain ⟨⟨y0, y1, y2, y3⟩, -⟩ := pkM HB.out.m; have hlt := lt_of_heap HB.out.r)
      | (go_at_call 17; (with_reducible refine (RM.out _).mono ?_); rintro e w1 ⟨rfl, hb1⟩; have HB : Veil _ := ⟨HB0.out.after hb1⟩; clear hb1; obtain ⟨⟨x0, x1⟩, -⟩ := pk2 HB.out.x; obtain ⟨⟨z0, z1⟩, k0, k1⟩ := pk2 HB.out.r; obtain ⟨⟨y0, y1, y2, y3⟩, -⟩ := pkM HB.out.m; have hlt := lt_of_heap HB.out.r))
    exact bodyPost_ret (results_acc3 (g := w.heap.size + 2) rfl rfl rfl rfl (st2 HB.out.r _ _)) rfl (MailPost.nil (tn2 HB.out.below (by omega) _ _))
  by_cases hn : n = 0
  · subst hn
    have e : R = (⟨bw, bb⟩, l, 0) := by rw [← HR.out, if_pos rfl, if_pos rfl, if_pos rfl, if_pos rfl]
    subst e
    go_enter Tryz.func7, Tryz.ntmps7
    go_wp2_with (first
      | (go_at_call 21; (with_reducible refine (TK.out _ HB.out.below).mono ?_); rintro e w4 ⟨v4, rfl, hF4, hb4⟩; have hlt3 := lt_of_heap HB.out.r; have HF4 : Veil _ := ⟨hF4⟩; have HB : Veil _ := ⟨HB.out.after hb4⟩; have HT3 : Veil _ := ⟨(hb4.block _ (lt_of_heap HT3.out)).trans HT3.out⟩; obtain ⟨p4, c4, ev4, -, -⟩ := hF4.form; subst ev4; clear hb4 hF4; obtain ⟨⟨x0, x1⟩, -⟩ := pk2 HB.out.x; obtain ⟨⟨z0, z1⟩, k0, k1⟩ := pk2 HB.out.r; obtain ⟨⟨y0, y1, y2, y3⟩, -⟩ := pkM HB.out.m; have hlt := lt_of_heap HB.out.r; obtain ⟨⟨u0, u1⟩, -⟩ := pk2 HT3.out)
      | (go_at_call 19; (with_reducible refine (RG.out _ (HB.out.after (below_al (Below.refl _ _) (.cells #[.int .i64 bw, .int .i64 bb] 23))).below).mono ?_); rintro e w3 ⟨rfl, hb3⟩; have HT3 : Veil (w3.heap[w2.heap.size]? = _) := ⟨(hb3.block _ (by simp)).trans (heap_alloc_new w2 (.cells #[.int .i64 bw, .int .i64 bb] 23))⟩; have HB : Veil _ := ⟨(HB.out.after (below_al (Below.refl _ _) (.cells #[.int .i64 bw, .int .i64 bb] 23))).after hb3⟩; clear hb3; obtain ⟨⟨x0, x1⟩, -⟩ := pk2 HB.out.x; obtain ⟨⟨z0, z1⟩, k0, k1⟩ := pk2 HB.out.r; obtain ⟨⟨y0, y1, y2, y3⟩, -⟩ := pkM HB.out.m; have hlt := lt_of_heap HB.out.r; obtain ⟨⟨u0, u1⟩, -⟩ := pk2 HT3.out)
      | (go_at_call 18; (with_reducible refine (SP.out _).mono ?_); rintro e w2 ⟨rfl, hb2⟩; have HB : Veil _ := ⟨HB.out.after hb2⟩; clear hb2; obtain ⟨⟨x0, x1⟩, -⟩ := pk2 HB.out.x; obtain ⟨⟨z0, z1⟩, k0, k1⟩ := pk2 HB.out.r; obtain ⟨⟨y0, y1, y2, y3⟩, -⟩ := pkM HB.out.m; have hlt := lt_of_heap HB.out.r)
      | (go_at_call 17; (with_reducible refine (RM.out _).mono ?_); rintro e w1 ⟨rfl, hb1⟩; have HB : Veil _ := ⟨HB0.out.after hb1⟩; clear hb1; obtain ⟨⟨x0, x1⟩, -⟩ := pk2 HB.out.x; obtain ⟨⟨z0, z1⟩, k0, k1⟩ := pk2 HB.out.r; obtain ⟨⟨y0, y1, y2, y3⟩, -⟩ := pkM HB.out.m; have hlt := lt_of_heap HB.out.r))
    refine region_new [.is (.agg #[.int .i64 bw, .int .i64 bb]), .is (.slice p l.length lc), .gen (fun v W => ∃ (q : Option Addr) (c : Nat), v = .slice q l.length c ∧ FreshE elS (w.heap.size + 3) W (.slice q l.length c) l) (fun v W W' hb ⟨q, c, h, hz⟩ => ⟨q, c, h, hz.below hb⟩)]
      [[], [], [(1, 41)]]
      [[], [], [1]]
      [(0, 40), (1, 41), (2, 42)] rfl (by kernel_rfl) ⟨?_, ?_, ?_, trivial⟩ ?_
    · intro vals W hB _
      obtain ⟨⟨v0, v1⟩, -⟩ := pk2 ((hB.block _ (lt_of_heap HT3.out)).trans HT3.out)
      dsimp only [putsL, slotOf]
      go_wp2
      exact ⟨rfl, Below.refl _ _, rfl⟩
    · intro vals W hB _
      dsimp only [putsL, slotOf]
      go_wp2
      exact ⟨rfl, Below.refl _ _, rfl⟩
    · intro vals W hB ⟨h1, _⟩
      have h1 : vals 1 = _ := h1
      dsimp only [putsL, slotOf]
      rw [h1]
      go_wp2_with ((go_at_call 20; (with_reducible refine (CP.out _ (bc_then HB.out.below hB)).mono ?_); rintro e w4 ⟨v4, rfl, HF4, hb4⟩; obtain ⟨q4, c4, ev4, -, -⟩ := HF4.form; subst ev4))
      exact ⟨rfl, hb4, ⟨q4, c4, rfl, HF4.base (Nat.le_trans (lt_of_heap HB.out.r) hB.size)⟩⟩
    rintro vals W hB ⟨q0, q1, ⟨pu2, cu2, q2, hz2⟩, -⟩
    have h0 : vals 0 = _ := q0
    have h1 : vals 1 = _ := q1
    have h2 : vals 2 = _ := q2
    dsimp only [putsL]
    rw [h0, h1, h2]
    clear h0 q0 h1 q1 h2 q2
    simp only [List.length_cons, List.length_nil, Nat.reduceAdd, List.drop_succ_cons, List.drop_zero, List.setIfInBounds_toArray, List.set_cons_succ, List.set_cons_zero]
    have HF2 : Veil _ := ⟨hz2⟩
    have HB4 : Veil _ := ⟨HB.out.after hB⟩
    obtain ⟨-, m0, m1⟩ := pk2 HB4.out.r
    obtain ⟨⟨n0, n1⟩, -⟩ := pk2 HB4.out.r
    clear hB hz2
    go_wp2
    exact bodyPost_ret (results_acc3 (g := w.heap.size + 2) rfl rfl rfl rfl (st2 HB4.out.r _ _)) rfl ⟨_, rfl, (HF2.out.turned (two_turned _ _ _ _) (fun k hk => by omega)).base (by omega), tn2 HB4.out.below (by omega) _ _⟩
  by_cases he2 : e2 = 0
  · subst he2
    have e : R = (⟨bw, bb⟩, T, 0) := by rw [← HR.out, if_pos rfl, if_pos rfl, if_pos rfl, if_neg hn, if_pos rfl]
    subst e
    go_enter Tryz.func7, Tryz.ntmps7
    go_wp2_with (first
      | (go_at_call 21; (with_reducible refine (TK.out _ HB.out.below).mono ?_); rintro e w4 ⟨v4, rfl, hF4, hb4⟩; have hlt3 := lt_of_heap HB.out.r; have HF4 : Veil _ := ⟨hF4⟩; have HB : Veil _ := ⟨HB.out.after hb4⟩; have HT3 : Veil _ := ⟨(hb4.block _ (lt_of_heap HT3.out)).trans HT3.out⟩; obtain ⟨p4, c4, ev4, -, -⟩ := hF4.form; subst ev4; clear hb4 hF4; obtain ⟨⟨x0, x1⟩, -⟩ := pk2 HB.out.x; obtain ⟨⟨z0, z1⟩, k0, k1⟩ := pk2 HB.out.r; obtain ⟨⟨y0, y1, y2, y3⟩, -⟩ := pkM HB.out.m; have hlt := lt_of_heap HB.out.r; obtain ⟨⟨u0, u1⟩, -⟩ := pk2 HT3.out)
      | (go_at_call 19; (with_reducible refine (RG.out _ (HB.out.after (below_al (Below.refl _ _) (.cells #[.int .i64 bw, .int .i64 bb] 23))).below).mono ?_); rintro e w3 ⟨rfl, hb3⟩; have HT3 : Veil (w3.heap[w2.heap.size]? = _) := ⟨(hb3.block _ (by simp)).trans (heap_alloc_new w2 (.cells #[.int .i64 bw, .int .i64 bb] 23))⟩; have HB : Veil _ := ⟨(HB.out.after (below_al (Below.refl _ _) (.cells #[.int .i64 bw, .int .i64 bb] 23))).after hb3⟩; clear hb3; obtain ⟨⟨x0, x1⟩, -⟩ := pk2 HB.out.x; obtain ⟨⟨z0, z1⟩, k0, k1⟩ := pk2 HB.out.r; obtain ⟨⟨y0, y1, y2, y3⟩, -⟩ := pkM HB.out.m; have hlt := lt_of_heap HB.out.r; obtain ⟨⟨u0, u1⟩, -⟩ := pk2 HT3.out)
      | (go_at_call 18; (with_reducible refine (SP.out _).mono ?_); rintro e w2 ⟨rfl, hb2⟩; have HB : Veil _ := ⟨HB.out.after hb2⟩; clear hb2; obtain ⟨⟨x0, x1⟩, -⟩ := pk2 HB.out.x; obtain ⟨⟨z0, z1⟩, k0, k1⟩ := pk2 HB.out.r; obtain ⟨⟨y0, y1, y2, y3⟩, -⟩ := pkM HB.out.m; have hlt := lt_of_heap HB.out.r)
      | (go_at_call 17; (with_reducible refine (RM.out _).mono ?_); rintro e w1 ⟨rfl, hb1⟩; have HB : Veil _ := ⟨HB0.out.after hb1⟩; clear hb1; obtain ⟨⟨x0, x1⟩, -⟩ := pk2 HB.out.x; obtain ⟨⟨z0, z1⟩, k0, k1⟩ := pk2 HB.out.r; obtain ⟨⟨y0, y1, y2, y3⟩, -⟩ := pkM HB.out.m; have hlt := lt_of_heap HB.out.r))
    exact bodyPost_ret (results_acc3 (g := w.heap.size + 2) rfl rfl rfl rfl (st2 HB.out.r _ _)) rfl ⟨_, rfl, (HF4.out.turned (two_turned _ _ _ _) (fun k hk => by have := hlt3; omega)).base (by have := hlt3; omega), tn2 HB.out.below (by omega) _ _⟩
  · have e : R = (Ac.zero, [], e2) := by rw [← HR.out, if_pos rfl, if_pos rfl, if_pos rfl, if_neg hn, if_neg he2]
    subst e
    have he2' : (e2 != 0) = true := by simpa using he2
    go_enter Tryz.func7, Tryz.ntmps7
    go_wp2_with (first
      | (go_at_call 21; (with_reducible refine (TK.out _ HB.out.below).mono ?_); rintro e w4 ⟨v4, rfl, hF4, hb4⟩; have hlt3 := lt_of_heap HB.out.r; have HF4 : Veil _ := ⟨hF4⟩; have HB : Veil _ := ⟨HB.out.after hb4⟩; have HT3 : Veil _ := ⟨(hb4.block _ (lt_of_heap HT3.out)).trans HT3.out⟩; obtain ⟨p4, c4, ev4, -, -⟩ := hF4.form; subst ev4; clear hb4 hF4; obtain ⟨⟨x0, x1⟩, -⟩ := pk2 HB.out.x; obtain ⟨⟨z0, z1⟩, k0, k1⟩ := pk2 HB.out.r; obtain ⟨⟨y0, y1, y2, y3⟩, -⟩ := pkM HB.out.m; have hlt := lt_of_heap HB.out.r; obtain ⟨⟨u0, u1⟩, -⟩ := pk2 HT3.out)
      | (go_at_call 19; (with_reducible refine (RG.out _ (HB.out.after (below_al (Below.refl _ _) (.cells #[.int .i64 bw, .int .i64 bb] 23))).below).mono ?_); rintro e w3 ⟨rfl, hb3⟩; have HT3 : Veil (w3.heap[w2.heap.size]? = _) := ⟨(hb3.block _ (by simp)).trans (heap_alloc_new w2 (.cells #[.int .i64 bw, .int .i64 bb] 23))⟩; have HB : Veil _ := ⟨(HB.out.after (below_al (Below.refl _ _) (.cells #[.int .i64 bw, .int .i64 bb] 23))).after hb3⟩; clear hb3; obtain ⟨⟨x0, x1⟩, -⟩ := pk2 HB.out.x; obtain ⟨⟨z0, z1⟩, k0, k1⟩ := pk2 HB.out.r; obtain ⟨⟨y0, y1, y2, y3⟩, -⟩ := pkM HB.out.m; have hlt := lt_of_heap HB.out.r; obtain ⟨⟨u0, u1⟩, -⟩ := pk2 HT3.out)
      | (go_at_call 18; (with_reducible refine (SP.out _).mono ?_); rintro e w2 ⟨rfl, hb2⟩; have HB : Veil _ := ⟨HB.out.after hb2⟩; clear hb2; obtain ⟨⟨x0, x1⟩, -⟩ := pk2 HB.out.x; obtain ⟨⟨z0, z1⟩, k0, k1⟩ := pk2 HB.out.r; obtain ⟨⟨y0, y1, y2, y3⟩, -⟩ := pkM HB.out.m; have hlt := lt_of_heap HB.out.r)
      | (go_at_call 17; (with_reducible refine (RM.out _).mono ?_); rintro e w1 ⟨rfl, hb1⟩; have HB : Veil _ := ⟨HB0.out.after hb1⟩; clear hb1; obtain ⟨⟨x0, x1⟩, -⟩ := pk2 HB.out.x; obtain ⟨⟨z0, z1⟩, k0, k1⟩ := pk2 HB.out.r; obtain ⟨⟨y0, y1, y2, y3⟩, -⟩ := pkM HB.out.m; have hlt := lt_of_heap HB.out.r))
    exact bodyPost_ret (results_acc3 (g := w.heap.size + 2) rfl rfl rfl rfl (st2 HB.out.r _ _)) rfl (MailPost.nil (tn2 HB.out.below (by omega) _ _))

set_option maxRecDepth 20000 in
set_option maxHeartbeats 4000000 in
theorem refclaim_any {w : World} {p : Option Addr} (a : Ac) (ha : a.Ok) (l : List St) (lc : Nat) (m : Ml) (hm : m.Ok) (h : Els elS w p l) (hl : l.length ≤ 1000) :
    Calls Tryz.prog 9 #[a.v, .slice p l.length lc, m.v] w (MailPost w (claimM a l m).1 (claimM a l m).2.1 (claimM a l m).2.2) := by
  have RM : Veil _ := ⟨fun w => refrightM_any m w⟩
  have SP : Veil _ := ⟨fun w => refearnA_any a ha m.money hm.money w⟩
  have RG : Veil (∀ W, Below w.heap.size w W → Calls Tryz.prog 19 #[.slice p l.length lc] W fun e w' => e = .returned (.bool (rightG l)) ∧ Below W.heap.size W w') := ⟨fun W hW => refrightG_any l lc (h.below hW) (by omega)⟩
  have TK : Veil (∀ W, Below w.heap.size w W → Calls Tryz.prog 27 #[.slice p l.length lc, m.st.v] W (GoodsPost W (giveG l m.st).1 (giveG l m.st).2)) := ⟨fun W hW => refgiveG_any l lc m.st (h.below hW) hl hm.n⟩
  have CP : Veil (∀ W, Below w.heap.size w W → Calls Tryz.prog 20 #[.slice p l.length lc] W (FreshPost elS W l)) := ⟨fun W hW => refcopied_any l lc (h.below hW) hl⟩
  obtain ⟨R, hR⟩ : ∃ R, claimM a l m = R := ⟨_, rfl⟩
  have HR : Veil _ := ⟨hR⟩
  rw [hR]
  clear hR h ha hm
  unfold claimM at HR
  generalize rightM m = r1 at RM HR
  generalize earnA a m.money = s1 at SP HR
  generalize rightG l = r2 at RG HR
  generalize giveG l m.st = s2 at TK HR
  obtain ⟨⟨bw, bb⟩, e1⟩ := s1
  obtain ⟨T, e2⟩ := s2
  obtain ⟨aw, ab⟩ := a
  obtain ⟨f, mo, i, n⟩ := m
  unfold Ml.st St.v Ml.v Ac.v at *
  dsimp only at *
  have HB0 : Veil _ := ⟨SdB.new w aw ab f mo i n⟩
  cases r1
  · have e : R = (Ac.zero, [], 140) := HR.out.symm
    subst e
    go_enter Tryz.func9, Tryz.ntmps9
    go_wp2_with (first
      | (go_at_call 27; (with_reducible refine (TK.out _ HB.out.below).mono ?_); rintro e w4 ⟨v4, rfl, hF4, hb4⟩; have hlt3 := lt_of_heap HB.out.r; have HF4 : Veil _ := ⟨hF4⟩; have HB : Veil _ := ⟨HB.out.after hb4⟩; have HT3 : Veil _ := ⟨(hb4.block _ (lt_of_heap HT3.out)).trans HT3.out⟩; obtain ⟨p4, c4, ev4, -, -⟩ := hF4.form; subst ev4; clear hb4 hF4; obtain ⟨⟨x0, x1⟩, -⟩ := pk2 HB.out.x; obtain ⟨⟨z0, z1⟩, k0, k1⟩ := pk2 HB.out.r; obtain ⟨⟨y0, y1, y2, y3⟩, -⟩ := pkM HB.out.m; have hlt := lt_of_heap HB.out.r; obtain ⟨⟨u0, u1⟩, -⟩ := pk2 HT3.out)
      | (go_at_call 19; (with_reducible refine (RG.out _ (HB.out.after (below_al (Below.refl _ _) (.cells #[.int .i64 bw, .int .i64 bb] 23))).below).mono ?_); rintro e w3 ⟨rfl, hb3⟩; have HT3 : Veil (w3.heap[w2.heap.size]? = _) := ⟨(hb3.block _ (by simp)).trans (heap_alloc_new w2 (.cells #[.int .i64 bw, .int .i64 bb] 23))⟩; have HB : Veil _ := ⟨(HB.out.after (below_al (Below.refl _ _) (.cells #[.int .i64 bw, .int .i64 bb] 23))).after hb3⟩; clear hb3; obtain ⟨⟨x0, x1⟩, -⟩ := pk2 HB.out.x; obtain ⟨⟨z0, z1⟩, k0, k1⟩ := pk2 HB.out.r; obtain ⟨⟨y0, y1, y2, y3⟩, -⟩ := pkM HB.out.m; have hlt := lt_of_heap HB.out.r; obtain ⟨⟨u0, u1⟩, -⟩ := pk2 HT3.out)
      | (go_at_call 26; (with_reducible refine (SP.out _).mono ?_); rintro e w2 ⟨rfl, hb2⟩; have HB : Veil _ := ⟨HB.out.after hb2⟩; clear hb2; obtain ⟨⟨x0, x1⟩, -⟩ := pk2 HB.out.x; obtain ⟨⟨z0, z1⟩, k0, k1⟩ := pk2 HB.out.r; obtain ⟨⟨y0, y1, y2, y3⟩, -⟩ := pkM HB.out.m; have hlt := lt_of_heap HB.out.r)
      | (go_at_call 17; (with_reducible refine (RM.out _).mono ?_); rintro e w1 ⟨rfl, hb1⟩; have HB : Veil _ := ⟨HB0.out.after hb1⟩; clear hb1; obtain ⟨⟨x0, x1⟩, -⟩ := pk2 HB.out.x; obtain ⟨⟨z0, z1⟩, k0, k1⟩ := pk2 HB.out.r; obtain ⟨⟨y0, y1, y2, y3⟩, -⟩ := pkM HB.out.m; have hlt := lt_of_heap HB.out.r))
    exact bodyPost_ret (results_acc3 (g := w.heap.size + 2) rfl rfl rfl rfl (st2 HB.out.r _ _)) rfl (MailPost.nil (tn2 HB.out.below (by omega) _ _))
  by_cases he1 : e1 = 0
  rotate_left 1
  · have e : R = (Ac.zero, [], e1) := by rw [← HR.out, if_pos rfl, if_neg he1]
    subst e
    have he1' : (e1 != 0) = true := by simpa using he1
    have he1'' : ¬ e1 = 0 := he1
    go_enter Tryz.func9, Tryz.ntmps9
    go_wp2_with (first
      | (go_at_call 27; (with_reducible refine (TK.out _ HB.out.below).mono ?_); rintro e w4 ⟨v4, rfl, hF4, hb4⟩; have hlt3 := lt_of_heap HB.out.r; have HF4 : Veil _ := ⟨hF4⟩; have HB : Veil _ := ⟨HB.out.after hb4⟩; have HT3 : Veil _ := ⟨(hb4.block _ (lt_of_heap HT3.out)).trans HT3.out⟩; obtain ⟨p4, c4, ev4, -, -⟩ := hF4.form; subst ev4; clear hb4 hF4; obtain ⟨⟨x0, x1⟩, -⟩ := pk2 HB.out.x; obtain ⟨⟨z0, z1⟩, k0, k1⟩ := pk2 HB.out.r; obtain ⟨⟨y0, y1, y2, y3⟩, -⟩ := pkM HB.out.m; have hlt := lt_of_heap HB.out.r; obtain ⟨⟨u0, u1⟩, -⟩ := pk2 HT3.out)
      | (go_at_call 19; (with_reducible refine (RG.out _ (HB.out.after (below_al (Below.refl _ _) (.cells #[.int .i64 bw, .int .i64 bb] 23))).below).mono ?_); rintro e w3 ⟨rfl, hb3⟩; have HT3 : Veil (w3.heap[w2.heap.size]? = _) := ⟨(hb3.block _ (by simp)).trans (heap_alloc_new w2 (.cells #[.int .i64 bw, .int .i64 bb] 23))⟩; have HB : Veil _ := ⟨(HB.out.after (below_al (Below.refl _ _) (.cells #[.int .i64 bw, .int .i64 bb] 23))).after hb3⟩; clear hb3; obtain ⟨⟨x0, x1⟩, -⟩ := pk2 HB.out.x; obtain ⟨⟨z0, z1⟩, k0, k1⟩ := pk2 HB.out.r; obtain ⟨⟨y0, y1, y2, y3⟩, -⟩ := pkM HB.out.m; have hlt := lt_of_heap HB.out.r; obtain ⟨⟨u0, u1⟩, -⟩ := pk2 HT3.out)
      | (go_at_call 26; (with_reducible refine (SP.out _).mono ?_); rintro e w2 ⟨rfl, hb2⟩; have HB : Veil _ := ⟨HB.out.after hb2⟩; clear hb2; obtain ⟨⟨x0, x1⟩, -⟩ := pk2 HB.out.x; obtain ⟨⟨z0, z1⟩, k0, k1⟩ := pk2 HB.out.r; obtain ⟨⟨y0, y1, y2, y3⟩, -⟩ := pkM HB.out.m; have hlt := lt_of_heap HB.out.r)
      | (go_at_call 17; (with_reducible refine (RM.out _).mono ?_); rintro e w1 ⟨rfl, hb1⟩; have HB : Veil _ := ⟨HB0.out.after hb1⟩; clear hb1; obtain ⟨⟨x0, x1⟩, -⟩ := pk2 HB.out.x; obtain ⟨⟨z0, z1⟩, k0, k1⟩ := pk2 HB.out.r; obtain ⟨⟨y0, y1, y2, y3⟩, -⟩ := pkM HB.out.m; have hlt := lt_of_heap HB.out.r))
    exact bodyPost_ret (results_acc3 (g := w.heap.size + 2) rfl rfl rfl rfl ((Below.heap_alloc _ _ _ (by have := lt_of_heap (st2 HB.out.r (.int .i64 0) (.int .i64 0)); exact this)).trans (st2 HB.out.r (.int .i64 0) (.int .i64 0)))) rfl (MailPost.nil (below_al (tn2 HB.out.below (by omega) _ _) _))
  subst he1
  cases r2
  · have e : R = (Ac.zero, [], 120) := by rw [← HR.out, if_pos rfl, if_pos rfl]; rfl
    subst e
    go_enter Tryz.func9, Tryz.ntmps9
    go_wp2_with (first
      | (go_at_call 27; (with_reducible refine (TK.out _ HB.out.below).mono ?_); rintro e w4 ⟨v4, rfl, hF4, hb4⟩; have hlt3 := lt_of_heap HB.out.r; have HF4 : Veil _ := ⟨hF4⟩; have HB : Veil _ := ⟨HB.out.after hb4⟩; have HT3 : Veil _ := ⟨(hb4.block _ (lt_of_heap HT3.out)).trans HT3.out⟩; obtain ⟨p4, c4, ev4, -, -⟩ := hF4.form; subst ev4; clear hb4 hF4; obtain ⟨⟨x0, x1⟩, -⟩ := pk2 HB.out.x; obtain ⟨⟨z0, z1⟩, k0, k1⟩ := pk2 HB.out.r; obtain ⟨⟨y0, y1, y2, y3⟩, -⟩ := pkM HB.out.m; have hlt := lt_of_heap HB.out.r; obtain ⟨⟨u0, u1⟩, -⟩ := pk2 HT3.out)
      | (go_at_call 19; (with_reducible refine (RG.out _ (HB.out.after (below_al (Below.refl _ _) (.cells #[.int .i64 bw, .int .i64 bb] 23))).below).mono ?_); rintro e w3 ⟨rfl, hb3⟩; have HT3 : Veil (w3.heap[w2.heap.size]? = _) := ⟨(hb3.block _ (by simp)).trans (heap_alloc_new w2 (.cells #[.int .i64 bw, .int .i64 bb] 23))⟩; have HB : Veil _ := ⟨(HB.out.after (below_al (Below.refl _ _) (.cells #[.int .i64 bw, .int .i64 bb] 23))).after hb3⟩; clear hb3; obtain ⟨⟨x0, x1⟩, -⟩ := pk2 HB.out.x; obtain ⟨⟨z0, z1⟩, k0, k1⟩ := pk2 HB.out.r; obtain ⟨⟨y0, y1, y2, y3⟩, -⟩ := pkM HB.out.m; have hlt := lt_of_heap HB.out.r; obtain ⟨⟨u0, u1⟩, -⟩ := pk2 HT3.out)
      | (go_at_call 26; (with_reducible refine (SP.out _).mono ?_); rintro e w2 ⟨rfl, hb2⟩; have HB : Veil _ := ⟨HB.out.after hb2⟩; clear hb2; obtain ⟨⟨x0, x1⟩, -⟩ := pk2 HB.out.x; obtain ⟨⟨z0, z1⟩, k0, k1⟩ := pk2 HB.out.r; obtain ⟨⟨y0, y1, y2, y3⟩, -⟩ := pkM HB.out.m; have hlt := lt_of_heap HB.out.r)
      | (go_at_call 17; (with_reducible refine (RM.out _).mono ?_); rintro e w1 ⟨rfl, hb1⟩; have HB : Veil _ := ⟨HB0.out.after hb1⟩; clear hb1; obtain ⟨⟨x0, x1⟩, -⟩ := pk2 HB.out.x; obtain ⟨⟨z0, z1⟩, k0, k1⟩ := pk2 HB.out.r; obtain ⟨⟨y0, y1, y2, y3⟩, -⟩ := pkM HB.out.m; have hlt := lt_of_heap HB.out.r))
    exact bodyPost_ret (results_acc3 (g := w.heap.size + 2) rfl rfl rfl rfl (st2 HB.out.r _ _)) rfl (MailPost.nil (tn2 HB.out.below (by omega) _ _))
  by_cases hn : n = 0
  · subst hn
    have e : R = (⟨bw, bb⟩, l, 0) := by rw [← HR.out, if_pos rfl, if_pos rfl, if_pos rfl, if_pos rfl]
    subst e
    go_enter Tryz.func9, Tryz.ntmps9
    go_wp2_with (first
      | (go_at_call 27; (with_reducible refine (TK.out _ HB.out.below).mono ?_); rintro e w4 ⟨v4, rfl, hF4, hb4⟩; have hlt3 := lt_of_heap HB.out.r; have HF4 : Veil _ := ⟨hF4⟩; have HB : Veil _ := ⟨HB.out.after hb4⟩; have HT3 : Veil _ := ⟨(hb4.block _ (lt_of_heap HT3.out)).trans HT3.out⟩; obtain ⟨p4, c4, ev4, -, -⟩ := hF4.form; subst ev4; clear hb4 hF4; obtain ⟨⟨x0, x1⟩, -⟩ := pk2 HB.out.x; obtain ⟨⟨z0, z1⟩, k0, k1⟩ := pk2 HB.out.r; obtain ⟨⟨y0, y1, y2, y3⟩, -⟩ := pkM HB.out.m; have hlt := lt_of_heap HB.out.r; obtain ⟨⟨u0, u1⟩, -⟩ := pk2 HT3.out)
      | (go_at_call 19; (with_reducible refine (RG.out _ (HB.out.after (below_al (Below.refl _ _) (.cells #[.int .i64 bw, .int .i64 bb] 23))).below).mono ?_); rintro e w3 ⟨rfl, hb3⟩; have HT3 : Veil (w3.heap[w2.heap.size]? = _) := ⟨(hb3.block _ (by simp)).trans (heap_alloc_new w2 (.cells #[.int .i64 bw, .int .i64 bb] 23))⟩; have HB : Veil _ := ⟨(HB.out.after (below_al (Below.refl _ _) (.cells #[.int .i64 bw, .int .i64 bb] 23))).after hb3⟩; clear hb3; obtain ⟨⟨x0, x1⟩, -⟩ := pk2 HB.out.x; obtain ⟨⟨z0, z1⟩, k0, k1⟩ := pk2 HB.out.r; obtain ⟨⟨y0, y1, y2, y3⟩, -⟩ := pkM HB.out.m; have hlt := lt_of_heap HB.out.r; obtain ⟨⟨u0, u1⟩, -⟩ := pk2 HT3.out)
      | (go_at_call 26; (with_reducible refine (SP.out _).mono ?_); rintro e w2 ⟨rfl, hb2⟩; have HB : Veil _ := ⟨HB.out.after hb2⟩; clear hb2; obtain ⟨⟨x0, x1⟩, -⟩ := pk2 HB.out.x; obtain ⟨⟨z0, z1⟩, k0, k1⟩ := pk2 HB.out.r; obtain ⟨⟨y0, y1, y2, y3⟩, -⟩ := pkM HB.out.m; have hlt := lt_of_heap HB.out.r)
      | (go_at_call 17; (with_reducible refine (RM.out _).mono ?_); rintro e w1 ⟨rfl, hb1⟩; have HB : Veil _ := ⟨HB0.out.after hb1⟩; clear hb1; obtain ⟨⟨x0, x1⟩, -⟩ := pk2 HB.out.x; obtain ⟨⟨z0, z1⟩, k0, k1⟩ := pk2 HB.out.r; obtain ⟨⟨y0, y1, y2, y3⟩, -⟩ := pkM HB.out.m; have hlt := lt_of_heap HB.out.r))
    refine region_new [.is (.agg #[.int .i64 bw, .int .i64 bb]), .is (.slice p l.length lc), .gen (fun v W => ∃ (q : Option Addr) (c : Nat), v = .slice q l.length c ∧ FreshE elS (w.heap.size + 3) W (.slice q l.length c) l) (fun v W W' hb ⟨q, c, h, hz⟩ => ⟨q, c, h, hz.below hb⟩)]
      [[], [], [(1, 41)]]
      [[], [], [1]]
      [(0, 40), (1, 41), (2, 42)] rfl (by kernel_rfl) ⟨?_, ?_, ?_, trivial⟩ ?_
    · intro vals W hB _
      obtain ⟨⟨v0, v1⟩, -⟩ := pk2 ((hB.block _ (lt_of_heap HT3.out)).trans HT3.out)
      dsimp only [putsL, slotOf]
      go_wp2
      exact ⟨rfl, Below.refl _ _, rfl⟩
    · intro vals W hB _
      dsimp only [putsL, slotOf]
      go_wp2
      exact ⟨rfl, Below.refl _ _, rfl⟩
    · intro vals W hB ⟨h1, _⟩
      have h1 : vals 1 = _ := h1
      dsimp only [putsL, slotOf]
      rw [h1]
      go_wp2_with ((go_at_call 20; (with_reducible refine (CP.out _ (bc_then HB.out.below hB)).mono ?_); rintro e w4 ⟨v4, rfl, HF4, hb4⟩; obtain ⟨q4, c4, ev4, -, -⟩ := HF4.form; subst ev4))
      exact ⟨rfl, hb4, ⟨q4, c4, rfl, HF4.base (Nat.le_trans (lt_of_heap HB.out.r) hB.size)⟩⟩
    rintro vals W hB ⟨q0, q1, ⟨pu2, cu2, q2, hz2⟩, -⟩
    have h0 : vals 0 = _ := q0
    have h1 : vals 1 = _ := q1
    have h2 : vals 2 = _ := q2
    dsimp only [putsL]
    rw [h0, h1, h2]
    clear h0 q0 h1 q1 h2 q2
    simp only [List.length_cons, List.length_nil, Nat.reduceAdd, List.drop_succ_cons, List.drop_zero, List.setIfInBounds_toArray, List.set_cons_succ, List.set_cons_zero]
    have HF2 : Veil _ := ⟨hz2⟩
    have HB4 : Veil _ := ⟨HB.out.after hB⟩
    obtain ⟨-, m0, m1⟩ := pk2 HB4.out.r
    obtain ⟨⟨n0, n1⟩, -⟩ := pk2 HB4.out.r
    clear hB hz2
    go_wp2
    exact bodyPost_ret (results_acc3 (g := w.heap.size + 2) rfl rfl rfl rfl (st2 HB4.out.r _ _)) rfl ⟨_, rfl, (HF2.out.turned (two_turned _ _ _ _) (fun k hk => by omega)).base (by omega), tn2 HB4.out.below (by omega) _ _⟩
  by_cases he2 : e2 = 0
  · subst he2
    have e : R = (⟨bw, bb⟩, T, 0) := by rw [← HR.out, if_pos rfl, if_pos rfl, if_pos rfl, if_neg hn, if_pos rfl]
    subst e
    go_enter Tryz.func9, Tryz.ntmps9
    go_wp2_with (first
      | (go_at_call 27; (with_reducible refine (TK.out _ HB.out.below).mono ?_); rintro e w4 ⟨v4, rfl, hF4, hb4⟩; have hlt3 := lt_of_heap HB.out.r; have HF4 : Veil _ := ⟨hF4⟩; have HB : Veil _ := ⟨HB.out.after hb4⟩; have HT3 : Veil _ := ⟨(hb4.block _ (lt_of_heap HT3.out)).trans HT3.out⟩; obtain ⟨p4, c4, ev4, -, -⟩ := hF4.form; subst ev4; clear hb4 hF4; obtain ⟨⟨x0, x1⟩, -⟩ := pk2 HB.out.x; obtain ⟨⟨z0, z1⟩, k0, k1⟩ := pk2 HB.out.r; obtain ⟨⟨y0, y1, y2, y3⟩, -⟩ := pkM HB.out.m; have hlt := lt_of_heap HB.out.r; obtain ⟨⟨u0, u1⟩, -⟩ := pk2 HT3.out)
      | (go_at_call 19; (with_reducible refine (RG.out _ (HB.out.after (below_al (Below.refl _ _) (.cells #[.int .i64 bw, .int .i64 bb] 23))).below).mono ?_); rintro e w3 ⟨rfl, hb3⟩; have HT3 : Veil (w3.heap[w2.heap.size]? = _) := ⟨(hb3.block _ (by simp)).trans (heap_alloc_new w2 (.cells #[.int .i64 bw, .int .i64 bb] 23))⟩; have HB : Veil _ := ⟨(HB.out.after (below_al (Below.refl _ _) (.cells #[.int .i64 bw, .int .i64 bb] 23))).after hb3⟩; clear hb3; obtain ⟨⟨x0, x1⟩, -⟩ := pk2 HB.out.x; obtain ⟨⟨z0, z1⟩, k0, k1⟩ := pk2 HB.out.r; obtain ⟨⟨y0, y1, y2, y3⟩, -⟩ := pkM HB.out.m; have hlt := lt_of_heap HB.out.r; obtain ⟨⟨u0, u1⟩, -⟩ := pk2 HT3.out)
      | (go_at_call 26; (with_reducible refine (SP.out _).mono ?_); rintro e w2 ⟨rfl, hb2⟩; have HB : Veil _ := ⟨HB.out.after hb2⟩; clear hb2; obtain ⟨⟨x0, x1⟩, -⟩ := pk2 HB.out.x; obtain ⟨⟨z0, z1⟩, k0, k1⟩ := pk2 HB.out.r; obtain ⟨⟨y0, y1, y2, y3⟩, -⟩ := pkM HB.out.m; have hlt := lt_of_heap HB.out.r)
      | (go_at_call 17; (with_reducible refine (RM.out _).mono ?_); rintro e w1 ⟨rfl, hb1⟩; have HB : Veil _ := ⟨HB0.out.after hb1⟩; clear hb1; obtain ⟨⟨x0, x1⟩, -⟩ := pk2 HB.out.x; obtain ⟨⟨z0, z1⟩, k0, k1⟩ := pk2 HB.out.r; obtain ⟨⟨y0, y1, y2, y3⟩, -⟩ := pkM HB.out.m; have hlt := lt_of_heap HB.out.r))
    exact bodyPost_ret (results_acc3 (g := w.heap.size + 2) rfl rfl rfl rfl (st2 HB.out.r _ _)) rfl ⟨_, rfl, (HF4.out.turned (two_turned _ _ _ _) (fun k hk => by have := hlt3; omega)).base (by have := hlt3; omega), tn2 HB.out.below (by omega) _ _⟩
  · have e : R = (Ac.zero, [], e2) := by rw [← HR.out, if_pos rfl, if_pos rfl, if_pos rfl, if_neg hn, if_neg he2]
    subst e
    have he2' : (e2 != 0) = true := by simpa using he2
    go_enter Tryz.func9, Tryz.ntmps9
    go_wp2_with (first
      | (go_at_call 27; (with_reducible refine (TK.out _ HB.out.below).mono ?_); rintro e w4 ⟨v4, rfl, hF4, hb4⟩; have hlt3 := lt_of_heap HB.out.r; have HF4 : Veil _ := ⟨hF4⟩; have HB : Veil _ := ⟨HB.out.after hb4⟩; have HT3 : Veil _ := ⟨(hb4.block _ (lt_of_heap HT3.out)).trans HT3.out⟩; obtain ⟨p4, c4, ev4, -, -⟩ := hF4.form; subst ev4; clear hb4 hF4; obtain ⟨⟨x0, x1⟩, -⟩ := pk2 HB.out.x; obtain ⟨⟨z0, z1⟩, k0, k1⟩ := pk2 HB.out.r; obtain ⟨⟨y0, y1, y2, y3⟩, -⟩ := pkM HB.out.m; have hlt := lt_of_heap HB.out.r; obtain ⟨⟨u0, u1⟩, -⟩ := pk2 HT3.out)
      | (go_at_call 19; (with_reducible refine (RG.out _ (HB.out.after (below_al (Below.refl _ _) (.cells #[.int .i64 bw, .int .i64 bb] 23))).below).mono ?_); rintro e w3 ⟨rfl, hb3⟩; have HT3 : Veil (w3.heap[w2.heap.size]? = _) := ⟨(hb3.block _ (by simp)).trans (heap_alloc_new w2 (.cells #[.int .i64 bw, .int .i64 bb] 23))⟩; have HB : Veil _ := ⟨(HB.out.after (below_al (Below.refl _ _) (.cells #[.int .i64 bw, .int .i64 bb] 23))).after hb3⟩; clear hb3; obtain ⟨⟨x0, x1⟩, -⟩ := pk2 HB.out.x; obtain ⟨⟨z0, z1⟩, k0, k1⟩ := pk2 HB.out.r; obtain ⟨⟨y0, y1, y2, y3⟩, -⟩ := pkM HB.out.m; have hlt := lt_of_heap HB.out.r; obtain ⟨⟨u0, u1⟩, -⟩ := pk2 HT3.out)
      | (go_at_call 26; (with_reducible refine (SP.out _).mono ?_); rintro e w2 ⟨rfl, hb2⟩; have HB : Veil _ := ⟨HB.out.after hb2⟩; clear hb2; obtain ⟨⟨x0, x1⟩, -⟩ := pk2 HB.out.x; obtain ⟨⟨z0, z1⟩, k0, k1⟩ := pk2 HB.out.r; obtain ⟨⟨y0, y1, y2, y3⟩, -⟩ := pkM HB.out.m; have hlt := lt_of_heap HB.out.r)
      | (go_at_call 17; (with_reducible refine (RM.out _).mono ?_); rintro e w1 ⟨rfl, hb1⟩; have HB : Veil _ := ⟨HB0.out.after hb1⟩; clear hb1; obtain ⟨⟨x0, x1⟩, -⟩ := pk2 HB.out.x; obtain ⟨⟨z0, z1⟩, k0, k1⟩ := pk2 HB.out.r; obtain ⟨⟨y0, y1, y2, y3⟩, -⟩ := pkM HB.out.m; have hlt := lt_of_heap HB.out.r))
    exact bodyPost_ret (results_acc3 (g := w.heap.size + 2) rfl rfl rfl rfl (st2 HB.out.r _ _)) rfl (MailPost.nil (tn2 HB.out.below (by omega) _ _))
end Go.Proofs.YtfjjodkapofgjaaGreatDoor

/- Mail, by the program: fields and their iterator, amounts, Right. -/
namespace Go.Proofs.YtfjjodkapofgjaaGreatDoor
open Go Go.RowKit Sm
attribute [local go_sem] Oper.semAt_some

theorem mlfields_any (m : Ml) (w : World) : Calls Tryz.prog 65 #[m.v] w fun e w' => e = .returned (.func (.func 83) #[] #[.pointer (some ⟨w.heap.size, 0, none⟩)]) ∧ w.alloc (.cells #[.int .u32 m.src, .int .i64 m.money, .int .u16 m.item, .int .i64 m.n] 30) = w' := by
  obtain ⟨f, mo, i, n⟩ := m
  unfold Ml.v
  go_enter Tryz.func65, Tryz.ntmps65
  go_wp2
  go_ret
  exact ⟨rfl, rfl⟩

/-- How many bytes each number of a mail has, and the number. -/
def Ml.flds (m : Ml) : List (Nat × Int) := [(4, m.src), (8, m.money), (2, m.item), (8, m.n)]
def handsMl (m : Ml) (k : Nat) : Array Value := #[.int .i64 (m.flds.getD k (0, 0)).1, .int .i64 (m.flds.getD k (0, 0)).2]
theorem flds_len (m : Ml) : m.flds.length = 4 := rfl

set_option maxRecDepth 20000 in
set_option maxHeartbeats 2000000 in
theorem mlfields_seq (Bx : Nat) (m : Ml) (hm : m.Ok) :
    Seq Tryz.prog 83 #[.pointer (some ⟨Bx, 0, none⟩)] (handsMl m) 4 (fun W => MlBox W Bx m.src m.money m.item m.n) := by
  intro l n J Jx W hJ hJx hF hY h0
  have ws : IntKind.i64.wrap (m.src : Int) = m.src := by rw [IntKind.wrap_i64]; have := hm.src; omega
  have wi : IntKind.i64.wrap (m.item : Int) = m.item := by rw [IntKind.wrap_i64]; have := hm.item; omega
  have vs : wrap64 (m.src : Int) = m.src := by unfold wrap64; have := hm.src; omega
  have vi : wrap64 (m.item : Int) = m.item := by unfold wrap64; have := hm.item; omega
  obtain ⟨f0, f1, f2, f3⟩ := hF 0 W h0
  have hY0 : ∀ A, J 0 A → YieldAt Fence.wide n Tryz.prog l #[.int .i64 4, .int .i64 m.src] A fun e A' => (e = .returned (.bool true) ∧ J 1 A') ∨ (e = .returned (.bool false) ∧ Jx 0 A') := fun A => hY 0 A (by decide)
  have hY1 : ∀ A, J 1 A → YieldAt Fence.wide n Tryz.prog l #[.int .i64 8, .int .i64 m.money] A fun e A' => (e = .returned (.bool true) ∧ J 2 A') ∨ (e = .returned (.bool false) ∧ Jx 1 A') := fun A => hY 1 A (by decide)
  have hY2 : ∀ A, J 2 A → YieldAt Fence.wide n Tryz.prog l #[.int .i64 2, .int .i64 m.item] A fun e A' => (e = .returned (.bool true) ∧ J 3 A') ∨ (e = .returned (.bool false) ∧ Jx 2 A') := fun A => hY 2 A (by decide)
  have hY3 : ∀ A, J 3 A → YieldAt Fence.wide n Tryz.prog l #[.int .i64 8, .int .i64 m.n] A fun e A' => (e = .returned (.bool true) ∧ J 4 A') ∨ (e = .returned (.bool false) ∧ Jx 3 A') := fun A => hY 3 A (by decide)
  obtain ⟨f, mo, i, x⟩ := m
  dsimp only at *
  clear hm hY
  obtain ⟨fn, tmps, assign, body, hy, hR⟩ := hY0 _ h0
  refine callsIn_of_wp Tryz.func83 rfl trivial ?_
  simp only [Tryz.ntmps83, List.size_toArray, List.length_cons, List.length_nil, Nat.reduceAdd, Nat.reduceSub, Array.replicate_succ, Array.replicate_zero, List.push_toArray, List.append_toArray, List.nil_append, List.cons_append]
  gi_wp2
  refine hR.mono ?_
  clear hy hR fn tmps assign body f0 f1 f2 f3
  rintro e W1 (⟨rfl, hj1⟩ | ⟨rfl, hjx⟩)
  rotate_left 1
  · gi_wp2
    repeat (refine ⟨fun _ h => (by cases h), ?_⟩; rename ∀ (a : Act) (w : World), wpListIn _ _ _ _ _ _ a w → _ => hK0; refine hK0 _ _ ?_; clear hK0; gi_wp2)
    go_end0
    exact ⟨⟨_, rfl⟩, .inr ⟨0, by decide, hjx⟩⟩
  obtain ⟨f0, f1, f2, f3⟩ := hF _ _ hj1
  obtain ⟨fn, tmps, assign, body, hy, hR⟩ := hY1 _ hj1
  gi_wp2
  refine hR.mono ?_
  clear hy hR fn tmps assign body f0 f1 f2 f3
  rintro e W2 (⟨rfl, hj2⟩ | ⟨rfl, hjx⟩)
  rotate_left 1
  · gi_wp2
    repeat (refine ⟨fun _ h => (by cases h), ?_⟩; rename ∀ (a : Act) (w : World), wpListIn _ _ _ _ _ _ a w → _ => hK0; refine hK0 _ _ ?_; clear hK0; gi_wp2)
    go_end0
    exact ⟨⟨_, rfl⟩, .inr ⟨1, by decide, hjx⟩⟩
  obtain ⟨f0, f1, f2, f3⟩ := hF _ _ hj2
  obtain ⟨fn, tmps, assign, body, hy, hR⟩ := hY2 _ hj2
  gi_wp2
  refine hR.mono ?_
  clear hy hR fn tmps assign body f0 f1 f2 f3
  rintro e W3 (⟨rfl, hj3⟩ | ⟨rfl, hjx⟩)
  rotate_left 1
  · gi_wp2
    repeat (refine ⟨fun _ h => (by cases h), ?_⟩; rename ∀ (a : Act) (w : World), wpListIn _ _ _ _ _ _ a w → _ => hK0; refine hK0 _ _ ?_; clear hK0; gi_wp2)
    go_end0
    exact ⟨⟨_, rfl⟩, .inr ⟨2, by decide, hjx⟩⟩
  obtain ⟨f0, f1, f2, f3⟩ := hF _ _ hj3
  obtain ⟨fn, tmps, assign, body, hy, hR⟩ := hY3 _ hj3
  gi_wp2
  refine hR.mono ?_
  clear hy hR fn tmps assign body f0 f1 f2 f3
  rintro e W4 (⟨rfl, hj4⟩ | ⟨rfl, hjx⟩)
  · gi_wp2
    go_end0
    exact ⟨⟨_, rfl⟩, .inl hj4⟩
  · gi_wp2
    go_end0
    exact ⟨⟨_, rfl⟩, .inr ⟨3, by decide, hjx⟩⟩

/-- Between two rounds: the boxes of what was found, and of the mail that is gone through. -/
structure AmI (w : World) (B1 B2 : Nat) (m : Ml) (b : Bool) (A : World) : Prop where
  f : A.heap[B1]? = some (.cells #[.bool b] 4 (0, 0))
  bx : A.heap[B2]? = some (.cells #[.int .u32 m.src, .int .i64 m.money, .int .u16 m.item, .int .i64 m.n] 30 (0, 0))
  t : Turned (fun _ => False) w A
section
variable {w : World} {B1 B2 : Nat} {m : Ml} {b : Bool} {A A' : World}
theorem AmI.booked {B : Nat} (h : AmI w B1 B2 m b A) (hb : Booked B A A') (hB : w.heap.size ≤ B) : AmI w B1 B2 m b A' :=
  ⟨hb.heap h.f, hb.heap h.bx, hb.turned h.t hB⟩
theorem AmI.new (h : AmI w B1 B2 m b A) (hb : Turned (fun _ => False) A A') : AmI w B1 B2 m b A' :=
  ⟨hb.heap h.f (fun h => h), hb.heap h.bx (fun h => h), h.t.trans hb⟩
theorem AmI.box (h : AmI w B1 B2 m b A) : MlBox A B2 m.src m.money m.item m.n := by
  constructor <;> exact cell_whole (cur := [.int .u32 m.src, .int .i64 m.money, .int .u16 m.item, .int .i64 m.n]) h.bx _
theorem AmI.found (h : AmI w B1 B2 m b A) (hw : w.heap.size ≤ B1) (hne : B1 ≠ B2) : AmI w B1 B2 m false (A.setCell ⟨B1, 0, none⟩ (.bool false)) :=
  ⟨heap_setCell_at h.f 0 _, (Below.heap_setCell _ _ _ _ (by dsimp only; omega)).trans h.bx, h.t.then ((Turned.refl (· = B1) A).setCell (p := ⟨B1, 0, none⟩) rfl _) (fun k hk e => by omega)⟩
end
theorem all_upto (L : List (Nat × Int)) (k : Nat) (h : k < L.length) (hn : ((L.take k).all fun x => amt x.2) = true) : ((L.take (k + 1)).all fun x => amt x.2) = amt (L.getD k (0, 0)).2 := by
  rw [List.take_succ_eq_append_getElem h, List.all_append, hn]
  simp [List.getD, h]
theorem all_out (L : List (Nat × Int)) (k : Nat) (h : k < L.length) (hb : amt (L.getD k (0, 0)).2 = false) : (L.all fun x => amt x.2) = false := by
  rw [List.all_eq_false]
  exact ⟨L[k], List.getElem_mem h, by rw [show L.getD k (0, 0) = L[k] by simp [List.getD, h]] at hb; rw [hb]; decide⟩
theorem flds_all (m : Ml) (hm : m.Ok) : (m.flds.all fun x => amt x.2) = (amt m.money && amt m.n) := by
  have h1 : amt (m.src : Int) = true := (amt_iff _).2 (by have := hm.src; omega)
  have h2 : amt (m.item : Int) = true := (amt_iff _).2 (by have := hm.item; omega)
  simp [Ml.flds, h1, h2]

set_option maxRecDepth 20000 in
set_option maxHeartbeats 2000000 in
theorem mlamounts_any (m : Ml) (hm : m.Ok) (w : World) : Calls Tryz.prog 47 #[m.v] w fun e w' => e = .returned (.bool (m.flds.all fun x => amt x.2)) ∧ Below w.heap.size w w' := by
  refine calls_of_wp_marks Tryz.func47 rfl ?_
  simp only [Tryz.ntmps47, List.size_toArray, List.length_cons, List.length_nil, Nat.reduceAdd, Nat.reduceSub, Array.replicate_succ, Array.replicate_zero, List.push_toArray, List.append_toArray, List.nil_append, List.cons_append]
  have HF : Veil _ := ⟨fun w => mlfields_any m w⟩
  have HSQ : Veil _ := ⟨fun Bx => mlfields_seq Bx m hm⟩
  obtain ⟨R, hR⟩ : ∃ R, (m.flds.all fun x => amt x.2) = R := ⟨_, rfl⟩
  rw [hR]
  have HR : Veil _ := ⟨hR⟩
  have HM0 : Veil (∀ W : World, MlBox (W.alloc (.cells #[.int .u32 m.src, .int .i64 m.money, .int .u16 m.item, .int .i64 m.n] 30)) W.heap.size m.src m.money m.item m.n) := ⟨fun W => MlBox.new _ _ _ _ _ _⟩
  clear hR
  obtain ⟨M, hM⟩ : ∃ M : Ml, M = m := ⟨_, rfl⟩
  obtain ⟨f, mo, i, n⟩ := m
  unfold Ml.v at *
  dsimp only at *
  clear hm
  go_wp2
  go_step3
  go_wp2
  go_step3
  go_wp2_with (go_at_call 65; refine (HF.out _).mono ?_; rintro e w1 ⟨rfl, hw1⟩)
  obtain ⟨B1, e1⟩ : ∃ B1, w.heap.size + 1 = B1 := ⟨_, rfl⟩
  obtain ⟨B2, e2⟩ : ∃ B2, B1 + 1 = B2 := ⟨_, rfl⟩
  have hI : AmI w B1 B2 ⟨f, mo, i, n⟩ true w1 := by
    rw [← hw1]
    refine ⟨?_, ?_, (((Turned.refl (fun _ => False) w).alloc _).alloc _).alloc _⟩
    all_goals
      simp only [heap_alloc_if, World.size_alloc]
      repeat (first | rw [if_neg (by omega)] | rw [if_pos (by first | trivial | omega)])
    all_goals rfl
  have hz1 : w1.heap.size = B2 + 1 := by rw [← hw1]; simp; omega
  have HW : Veil (w.heap.size < B1 ∧ B1 < B2) := ⟨by omega⟩
  have HZ : Veil (w1.heap.size = B2 + 1) := ⟨hz1⟩
  rw [e1, e2]
  clear hw1 e1 e2 hz1
  refine wp_range_break (gf := 83) (lb := #[.pointer (some ⟨B2, 0, none⟩)]) rfl (enters_of Tryz.func83 (by kernel_rfl) rfl)
    (HSQ.out B2) (fun k => rfl)
    (fun k A => AmI w B1 B2 ⟨f, mo, i, n⟩ true A ∧ (((Ml.flds ⟨f, mo, i, n⟩).take k).all fun x => amt x.2) = true)
    (fun A => AmI w B1 B2 ⟨f, mo, i, n⟩ R A) ?hI ?hE ?hF ?h0 ?hN ?hround ?hend
  case hI => rintro k A A' ⟨h1, h3⟩ hb; exact ⟨h1.booked hb (by have := HW.out; have := HZ.out; omega), h3⟩
  case hE => rintro A A' h1 hb; exact h1.booked hb (by have := HW.out; have := HZ.out; omega)
  case hF => rintro k A ⟨h, _⟩; exact h.box
  case h0 => exact ⟨hI, rfl⟩
  case hN =>
    rintro A ⟨h1, h3⟩
    rw [List.take_of_length_le (Nat.le_of_eq (flds_len _)), HR.out] at h3
    rw [h3]
    exact h1
  case hround =>
    rintro l m k A hl2 hlt ⟨hi, hr⟩
    simp only [handsMl, List.zip_cons_cons, List.zip_nil_right, List.foldl_cons, List.foldl_nil, List.setIfInBounds_toArray, List.set_cons_succ, List.set_cons_zero]
    have HK : Veil (amt ((Ml.flds ⟨f, mo, i, n⟩).getD k (0, 0)).2 = false → R = false) := ⟨fun ht => by rw [← HR.out]; exact all_out _ k hlt ht⟩
    have HKF : Veil (amt ((Ml.flds ⟨f, mo, i, n⟩).getD k (0, 0)).2 = true → (((Ml.flds ⟨f, mo, i, n⟩).take (k + 1)).all fun x => amt x.2) = true) := ⟨fun hf => by rw [all_upto _ k (show k < (Ml.flds ⟨f, mo, i, n⟩).length from hlt) hr]; exact hf⟩
    have HC : Veil _ := ⟨fun W => moright_of ((Ml.flds ⟨f, mo, i, n⟩).getD k (0, 0)).2 W⟩
    clear hI hr
    revert HK HKF HC
    generalize (Ml.flds ⟨f, mo, i, n⟩).getD k (0, 0) = x
    obtain ⟨sz, y⟩ := x
    intro HK HKF HC
    dsimp only at *
    have HI : Veil _ := ⟨hi⟩
    clear hi
    gi_wp2
    refine ⟨KeepsFrom.refl _ _, fun A2 hbk hsz => ?_⟩
    have HI2 : Veil _ := ⟨HI.out.booked hbk (by have := HW.out; have := HZ.out; omega)⟩
    clear hbk hsz
    by_cases hge : amt y = true
    · have HP : Veil _ := ⟨HKF.out hge⟩
      rw [hge] at HC
      clear hge
      gi_wp2_with (refine calls_roundG ?_; refine (HC.out _).mono ?_; rintro e w2 ⟨rfl, hb2⟩; have HT2 : Veil (Turned (fun _ => False) A2 w2) := ⟨Turned.new hb2⟩; clear hb2)
      exact ⟨keepsFrom_new6 HT2.out, HI2.out.new HT2.out, HP.out⟩
    · have hgf : amt y = false := by simpa using hge
      have HP : Veil _ := ⟨HK.out hgf⟩
      rw [hgf] at HC
      clear hge hgf
      gi_wp2_with (refine calls_roundG ?_; refine (HC.out _).mono ?_; rintro e w2 ⟨rfl, hb2⟩; have HT2 : Veil (Turned (fun _ => False) A2 w2) := ⟨Turned.new hb2⟩; have HI3 : Veil _ := ⟨HI2.out.new HT2.out⟩; clear hb2; have c1 := cell_row6 HI3.out.f; have c2 : w2.frozen? ⟨B1, 0, none⟩ = false := frozen_whole HI3.out.f _)
      have hT : Turned (· = B1) w2 (w2.setCell ⟨B1, 0, none⟩ (.bool false)) := (Turned.refl (· = B1) w2).setCell (p := ⟨B1, 0, none⟩) rfl _
      have hW := HW.out
      refine ⟨keepsFrom_turned6 ((HT2.out.wider (fun _ _ h => h.elim)).trans hT) (fun j hj => .inl (by have := HZ.out; omega)), rfl, ?_⟩
      rw [HP.out]
      exact HI3.out.found (by omega) (by omega)
  case hend =>
    rintro Dd A hDd h1 hdd
    have HI : Veil _ := ⟨h1⟩
    have HD : Veil _ := ⟨hdd⟩
    have c1 := cell_row6 h1.f
    clear h1 hdd hI
    go_wp2
    try rw [Exit.noGoto_ret]
    refine leaves_mark (D := Dd) (B := w.heap.size) HD.out (by have := HW.out; have := HZ.out; omega) ?_
    intro w' hb _
    refine leaves_none (results_tmp rfl _ _ _) ⟨rfl, ?_⟩
    exact (hb.turned HI.out.t (Nat.le_refl _)).toBelow (Nat.le_refl _) (fun _ _ h => h.elim)

theorem heap_alloc3 (w : World) (a b c : Obj) : ((((w.alloc a).alloc b).alloc c).heap[w.heap.size]? = some a) ∧ ((((w.alloc a).alloc b).alloc c).heap[w.heap.size + 1]? = some b) ∧ ((((w.alloc a).alloc b).alloc c).heap[w.heap.size + 1 + 1]? = some c) := by
  refine ⟨?_, ?_, ?_⟩
  all_goals
    simp only [heap_alloc_if, World.size_alloc]
    repeat (first | rw [if_neg (by omega)] | rw [if_pos (by first | trivial | omega)])
set_option maxRecDepth 20000 in
set_option maxHeartbeats 4000000 in
theorem mlright_any (m : Ml) (hm : m.Ok) (w : World) : Calls Tryz.prog 29 #[m.v] w fun e w' => e = .returned (.bool (rightM m)) ∧ Below w.heap.size w w' := by
  have HC : Veil _ := ⟨fun w => mlamounts_any m hm w⟩
  rw [flds_all m hm] at HC
  have HR := rightM_iff m
  obtain ⟨r, hr⟩ : ∃ r, rightM m = r := ⟨_, rfl⟩
  rw [hr] at HR ⊢
  have H1 : (amt m.money && amt m.n) = true ↔ ((0 ≤ m.money ∧ m.money ≤ 1152921504606846976) ∧ (0 ≤ m.n ∧ m.n ≤ 1152921504606846976)) := by rw [Bool.and_eq_true, amt_iff, amt_iff]
  revert H1 HC HR
  generalize (amt m.money && amt m.n) = B
  clear hr
  obtain ⟨f, mo, i, n⟩ := m
  unfold Ml.v
  dsimp only
  intro HC HR H1
  have HH : Veil _ := ⟨And.intro HR H1⟩
  obtain ⟨F, hF⟩ : ∃ F : Int, (f : Int) = F := ⟨_, rfl⟩
  obtain ⟨I, hI⟩ : ∃ I : Int, (i : Int) = I := ⟨_, rfl⟩
  have HN : Veil ((f : Int) = F ∧ (i : Int) = I) := ⟨hF, hI⟩
  rw [hF, hI] at HC
  rw [hF, hI]
  clear hF hI hm HR H1
  have hT : Below w.heap.size w (((w.alloc (.cells #[.int .u32 F, .int .i64 mo, .int .u16 I, .int .i64 n] 30)).alloc (.cells #[.int .u32 F, .int .i64 0, .int .u16 0, .int .i64 0] 30)).alloc (.cells #[.int .u16 0, .int .i64 0] 28)) := below_al (below_al (below_al (Below.refl _ _) _) _) _
  have HX0 : Veil _ := ⟨heap_alloc3 w (.cells #[.int .u32 F, .int .i64 mo, .int .u16 I, .int .i64 n] 30) (.cells #[.int .u32 F, .int .i64 0, .int .u16 0, .int .i64 0] 30) (.cells #[.int .u16 0, .int .i64 0] 28)⟩
  have hfin : ∀ (b : Bool) (w' : World), (b = true ↔ ((1 ≤ F ∧ F ≤ 1000000) ∧ B = true ∧ (mo ≠ 0 ∨ I ≠ 0 ∨ n ≠ 0) ∧ (n ≠ 0 ∨ I = 0))) → Below w.heap.size w w' → Ending.returned (.bool b) = Ending.returned (.bool r) ∧ Below w.heap.size w w' := fun b w' hb ht => by
    refine ⟨ret_boolM ?_, ht⟩
    obtain ⟨h0, h1⟩ := HH.out
    obtain ⟨e1, e2⟩ := HN.out
    rw [Bool.eq_iff_iff, h0, hb, h1]
    omega
  clear HH HN
  cases B
  · go_enter Tryz.func29, Tryz.ntmps29
    go_wp2_with (go_at_call 47; refine (HC.out _).mono ?_; rintro e w1 ⟨rfl, hb1⟩; have hT := bc_then hT hb1; obtain ⟨g0, g1, g2⟩ := HX0.out; obtain ⟨⟨y0, y1, y2, y3⟩, -⟩ := pkM ((hb1.block _ (lt_of_heap g0)).trans g0); obtain ⟨⟨z0, z1, z2, z3⟩, -⟩ := pkM ((hb1.block _ (lt_of_heap g1)).trans g1); obtain ⟨⟨q0, q1⟩, -⟩ := pk2 ((hb1.block _ (lt_of_heap g2)).trans g2); clear g0 g1 g2 hb1)
    all_goals
      go_ret
      refine hfin _ _ ?_ hT
      simp
      try omega
  · by_cases e1 : mo = 0 <;> by_cases e2 : n = 0 <;> by_cases e3 : I = 0
    all_goals
      have E1 : Veil _ := ⟨e1⟩
      have E2 : Veil _ := ⟨e2⟩
      have E3 : Veil _ := ⟨e3⟩
      try subst e1
      try subst e2
      try subst e3
      go_enter Tryz.func29, Tryz.ntmps29
      go_wp2_with (go_at_call 47; refine (HC.out _).mono ?_; rintro e w1 ⟨rfl, hb1⟩; have hT := bc_then hT hb1; obtain ⟨g0, g1, g2⟩ := HX0.out; obtain ⟨⟨y0, y1, y2, y3⟩, -⟩ := pkM ((hb1.block _ (lt_of_heap g0)).trans g0); obtain ⟨⟨z0, z1, z2, z3⟩, -⟩ := pkM ((hb1.block _ (lt_of_heap g1)).trans g1); obtain ⟨⟨q0, q1⟩, -⟩ := pk2 ((hb1.block _ (lt_of_heap g2)).trans g2); clear g0 g1 g2 hb1)
      all_goals
        go_ret
        refine hfin _ _ ?_ hT
        simp
        try omega
end Go.Proofs.YtfjjodkapofgjaaGreatDoor

/- Mail, by the program: same, what is done with coins and things, carried, Send, Claim. -/
namespace Go.Proofs.YtfjjodkapofgjaaGreatDoor
open Go Go.RowKit Sm
attribute [local go_sem] Oper.semAt_some

theorem els_lone {w : World} {p : Option Addr} {l : List St} (c : Nat) : (w.alloc (.cells #[.slice p l.length c] 24)).heap[w.heap.size]? = some (.cells (([⟨p, c, l⟩] : List (Pt St)).map Pt.v).toArray 24 (0, 0)) := heap_alloc_new _ _
/-- Right goods, in new memory. -/
def sameA (l : List St) : List St × Int := if rightG l then (l, 0) else ([], 120)
set_option maxRecDepth 20000 in
set_option maxHeartbeats 1000000 in
theorem mlsame_any {w : World} {p : Option Addr} (l : List St) (c : Nat) (h : InL elS w p l c) (hl : l.length ≤ 1000) (hw : GdW l) :
    Calls Tryz.prog 35 #[.slice p l.length c] w (GoodsPost w (sameA l).1 (sameA l).2) := by
  have HR : Veil _ := ⟨gdright_any l c h hl hw⟩
  have HC : Veil (∀ (W : World) (g : Nat), g = W.heap.size → Below w.heap.size w W → Calls Tryz.prog 54 #[.slice (some ⟨g, 0, none⟩) 1 1] (W.alloc (.cells #[.slice p l.length c] 24)) fun e w' => ∃ v, e = .returned v ∧ FreshE elS W.heap.size w' v l ∧ Below W.heap.size W w') := ⟨fun W g hg hb => by
    subst hg
    refine (concatS_of (w := W.alloc (.cells #[.slice p l.length c] 24)) (P := [⟨p, c, l⟩]) (els_lone c) 1 (fun x hx => ?_) (by simp [sumL]; omega) (by simp)).mono ?_
    · obtain rfl := List.mem_singleton.1 hx
      exact (h.els.below hb).below (below_al (Below.refl _ _) _)
    · rintro e w' ⟨v, rfl, ho, hb2⟩
      have e1 : allL ([⟨p, c, l⟩] : List (Pt St)) = l := by simp [allL]
      rw [e1] at ho
      exact ⟨v, rfl, ho.fresh (by simp), bc_then (below_al (Below.refl _ _) _) hb2⟩⟩
  unfold sameA
  generalize rightG l = r at HR ⊢
  clear h hw
  cases r
  · rw [if_neg (by decide)]
    go_enter Tryz.func35, Tryz.ntmps35
    go_wp2_with (go_at_call 53; refine HR.out.mono ?_; rintro e w1 ⟨rfl, hb1⟩)
    go_ret2
    exact ⟨_, rfl, FreshE.nil _ _ _, hb1⟩
  · rw [if_pos rfl]
    go_enter Tryz.func35, Tryz.ntmps35
    go_wp2_with (first
      | (go_at_call 54; refine (HC.out _ _ rfl hb1).mono ?_; rintro e w2 ⟨v, rfl, hF, hb2⟩)
      | (go_at_call 53; refine HR.out.mono ?_; rintro e w1 ⟨rfl, hb1⟩))
    go_ret2
    exact ⟨_, rfl, hF.base hb1.size, bc_then hb1 hb2⟩
theorem mlsame1_any {w : World} {p : Option Addr} (l : List St) (c : Nat) (h : InL elS w p l c) (hl : l.length ≤ 1000) (hw : GdW l) (g : Nat) (hg : w.cell? ⟨g, 0, none⟩ = some (.slice p l.length c)) :
    Calls Tryz.prog 34 #[.pointer (some ⟨g, 0, none⟩)] w (GoodsPost w (sameA l).1 (sameA l).2) := by
  have HC : Veil _ := ⟨mlsame_any l c h hl hw⟩
  clear h hw
  generalize sameA l = r at HC ⊢
  obtain ⟨L, ec⟩ := r
  dsimp only at *
  go_enter Tryz.func34, Tryz.ntmps34
  go_wp2_with (go_at_call 35; refine HC.out.mono ?_; rintro e w1 ⟨v, rfl, hF, hb1⟩)
  go_ret2
  exact ⟨_, rfl, hF, hb1⟩
/-- The boxes that the closures of Send and Claim read. -/
structure ClB (W : World) (ga gl gm : Nat) (a : Ac) (p : Option Addr) (n c : Nat) (m : Ml) : Prop where
  a : W.heap[ga]? = some (.cells #[.int .i64 a.w, .int .i64 a.b] 23 (0, 0))
  l : W.heap[gl]? = some (.cells #[.slice p n c] 24 (0, 0))
  m : W.heap[gm]? = some (.cells #[.int .u32 m.src, .int .i64 m.money, .int .u16 m.item, .int .i64 m.n] 30 (0, 0))
theorem ClB.below {W W' : World} {ga gl gm : Nat} {a : Ac} {p : Option Addr} {n c : Nat} {m : Ml} (h : ClB W ga gl gm a p n c m) (hb : Below W.heap.size W W') : ClB W' ga gl gm a p n c m :=
  ⟨(hb.block _ (lt_of_heap h.a)).trans h.a, (hb.block _ (lt_of_heap h.l)).trans h.l, (hb.block _ (lt_of_heap h.m)).trans h.m⟩
set_option maxRecDepth 20000 in
set_option maxHeartbeats 1000000 in
theorem mlspend1_any {w : World} {ga gl gm : Nat} {p : Option Addr} {n c : Nat} (a : Ac) (ha : a.Ok) (m : Ml) (hm : m.Ok) (h : ClB w ga gl gm a p n c m) (hS : MSent w) :
    Calls Tryz.prog 12 #[.pointer (some ⟨ga, 0, none⟩), .pointer (some ⟨gm, 0, none⟩)] w fun e w' => e = .returned (.tuple #[(spendA a m.money).1.v, .int .i64 (spendA a m.money).2]) ∧ Below w.heap.size w w' := by
  have HC : Veil (∀ W, Below w.heap.size w W → Calls Tryz.prog 13 #[a.v, .int .i64 m.money] W fun e w' => e = .returned (.tuple #[(spendA a m.money).1.v, .int .i64 (spendA a m.money).2]) ∧ Below W.heap.size W w') := ⟨fun W hb => acspend_any a ha m.money hm.money W (hS.below hb)⟩
  have HB : Veil _ := ⟨h.below (below_al (Below.refl _ _) (.cells #[.int .i64 0, .int .i64 0] 23))⟩
  have HR0 : Veil _ := ⟨heap_alloc_new w (.cells #[.int .i64 0, .int .i64 0] 23)⟩
  have hT : Below w.heap.size w (w.alloc (.cells #[.int .i64 0, .int .i64 0] 23)) := below_al (Below.refl _ _) _
  generalize spendA a m.money = r at HC ⊢
  obtain ⟨⟨x, y⟩, ec⟩ := r
  obtain ⟨f, mo, i, nn⟩ := m
  obtain ⟨aw, ab⟩ := a
  obtain ⟨⟨a0, a1⟩, -⟩ := pk2 HB.out.a
  obtain ⟨⟨m0, m1, m2, m3⟩, -⟩ := pkM HB.out.m
  unfold Ac.v at *
  dsimp only at *
  clear ha hm h hS HB
  have hga := World.block_lt_of_cell? _ _ a0
  have hgm := World.block_lt_of_cell? _ _ m1
  dsimp only at hga hgm
  go_enter Tryz.func12, Tryz.ntmps12
  go_wp2_with (go_at_call 13; refine (HC.out _ hT).mono ?_; rintro e w1 ⟨rfl, hb1⟩; have HR : Veil _ := ⟨(hb1.block _ (lt_of_heap HR0.out)).trans HR0.out⟩; have HBl : Veil _ := ⟨bc_then hT hb1⟩; clear hb1; obtain ⟨⟨y0, y1⟩, f0, f1⟩ := pk2 HR.out)
  exact bodyPost_ret (results_acc2 (g := w.heap.size) rfl rfl rfl (st2 HR.out _ _)) rfl ⟨rfl, tn2 HBl.out (Nat.le_refl _) _ _⟩
set_option maxRecDepth 20000 in
set_option maxHeartbeats 1000000 in
theorem mlearn1_any {w : World} {ga gl gm : Nat} {p : Option Addr} {n c : Nat} (a : Ac) (ha : a.Ok) (m : Ml) (hm : m.Ok) (h : ClB w ga gl gm a p n c m) (hS : MSent w) :
    Calls Tryz.prog 22 #[.pointer (some ⟨ga, 0, none⟩), .pointer (some ⟨gm, 0, none⟩)] w fun e w' => e = .returned (.tuple #[(earnA a m.money).1.v, .int .i64 (earnA a m.money).2]) ∧ Below w.heap.size w w' := by
  have HC : Veil (∀ W, Below w.heap.size w W → Calls Tryz.prog 23 #[a.v, .int .i64 m.money] W fun e w' => e = .returned (.tuple #[(earnA a m.money).1.v, .int .i64 (earnA a m.money).2]) ∧ Below W.heap.size W w') := ⟨fun W hb => acearn_any a ha m.money hm.money W (hS.below hb)⟩
  have HB : Veil _ := ⟨h.below (below_al (Below.refl _ _) (.cells #[.int .i64 0, .int .i64 0] 23))⟩
  have HR0 : Veil _ := ⟨heap_alloc_new w (.cells #[.int .i64 0, .int .i64 0] 23)⟩
  have hT : Below w.heap.size w (w.alloc (.cells #[.int .i64 0, .int .i64 0] 23)) := below_al (Below.refl _ _) _
  generalize earnA a m.money = r at HC ⊢
  obtain ⟨⟨x, y⟩, ec⟩ := r
  obtain ⟨f, mo, i, nn⟩ := m
  obtain ⟨aw, ab⟩ := a
  obtain ⟨⟨a0, a1⟩, -⟩ := pk2 HB.out.a
  obtain ⟨⟨m0, m1, m2, m3⟩, -⟩ := pkM HB.out.m
  unfold Ac.v at *
  dsimp only at *
  clear ha hm h hS HB
  have hga := World.block_lt_of_cell? _ _ a0
  have hgm := World.block_lt_of_cell? _ _ m1
  dsimp only at hga hgm
  go_enter Tryz.func22, Tryz.ntmps22
  go_wp2_with (go_at_call 23; refine (HC.out _ hT).mono ?_; rintro e w1 ⟨rfl, hb1⟩; have HR : Veil _ := ⟨(hb1.block _ (lt_of_heap HR0.out)).trans HR0.out⟩; have HBl : Veil _ := ⟨bc_then hT hb1⟩; clear hb1; obtain ⟨⟨y0, y1⟩, f0, f1⟩ := pk2 HR.out)
  exact bodyPost_ret (results_acc2 (g := w.heap.size) rfl rfl rfl (st2 HR.out _ _)) rfl ⟨rfl, tn2 HBl.out (Nat.le_refl _) _ _⟩
set_option maxRecDepth 20000 in
set_option maxHeartbeats 1000000 in
theorem mltake2_any {w : World} {ga gl gm : Nat} {p : Option Addr} {c : Nat} (a : Ac) (l : List St) (m : Ml) (hm : m.Ok) (hin : InL elS w p l c) (hl : l.length ≤ 1000) (hw : GdW l) (h : ClB w ga gl gm a p l.length c m) (hS : MSent w) :
    Calls Tryz.prog 14 #[.pointer (some ⟨gl, 0, none⟩), .pointer (some ⟨gm, 0, none⟩)] w (GoodsPost w (takeG l m.st).1 (takeG l m.st).2) := by
  have HC : Veil _ := ⟨gdtake_any l c m.st hin hl hm.item hm.n hw hS⟩
  generalize takeG l m.st = r at HC ⊢
  obtain ⟨L, ec⟩ := r
  have HB : Veil _ := ⟨h⟩
  unfold Ml.st St.v at HC
  obtain ⟨f, mo, i, nn⟩ := m
  have a0 := cell_row6 HB.out.l
  obtain ⟨⟨m0, m1, m2, m3⟩, -⟩ := pkM HB.out.m
  dsimp only at *
  clear hm h hS HB hin hl hw
  go_enter Tryz.func14, Tryz.ntmps14
  go_wp2_with (go_at_call 15; refine HC.out.mono ?_; rintro e w1 ⟨v, rfl, hF, hb1⟩)
  go_ret2
  exact ⟨_, rfl, hF, hb1⟩
set_option maxRecDepth 20000 in
set_option maxHeartbeats 1000000 in
theorem mlgive2_any {w : World} {ga gl gm : Nat} {p : Option Addr} {c : Nat} (a : Ac) (l : List St) (m : Ml) (hm : m.Ok) (hin : InL elS w p l c) (hl : l.length ≤ 1000) (hw : GdW l) (h : ClB w ga gl gm a p l.length c m) (hS : MSent w) :
    Calls Tryz.prog 24 #[.pointer (some ⟨gl, 0, none⟩), .pointer (some ⟨gm, 0, none⟩)] w (GoodsPost w (giveG l m.st).1 (giveG l m.st).2) := by
  have HC : Veil _ := ⟨gdgive_any l c m.st hin hl hm.item hm.n hw hS⟩
  generalize giveG l m.st = r at HC ⊢
  obtain ⟨L, ec⟩ := r
  have HB : Veil _ := ⟨h⟩
  unfold Ml.st St.v at HC
  obtain ⟨f, mo, i, nn⟩ := m
  have a0 := cell_row6 HB.out.l
  obtain ⟨⟨m0, m1, m2, m3⟩, -⟩ := pkM HB.out.m
  dsimp only at *
  clear hm h hS HB hin hl hw
  go_enter Tryz.func24, Tryz.ntmps24
  go_wp2_with (go_at_call 25; refine HC.out.mono ?_; rintro e w1 ⟨v, rfl, hF, hb1⟩)
  go_ret2
  exact ⟨_, rfl, hF, hb1⟩
/-- What comes of what is done for a mail. -/
def carR (r : Bool) (X : Ac) (ec : Int) (T : List St) (ed : Int) : Ac × List St × Int := if r then (if ec = 0 then (if ed = 0 then (X, T, 0) else (Ac.zero, [], ed)) else (Ac.zero, [], ec)) else (Ac.zero, [], 140)
/-- The boxes of carried: goods, mail, the answer's account, the account. -/
structure CaB (w A : World) (p : Option Addr) (n c : Nat) (f mo i nn : Int) (x y : Int) : Prop where
  l : A.heap[w.heap.size]? = some (.cells #[.slice p n c] 24 (0, 0))
  m : A.heap[w.heap.size + 1]? = some (.cells #[.int .u32 f, .int .i64 mo, .int .u16 i, .int .i64 nn] 30 (0, 0))
  r : A.heap[w.heap.size + 2]? = some (.cells #[.int .i64 0, .int .i64 0] 23 (0, 0))
  a : A.heap[w.heap.size + 3]? = some (.cells #[.int .i64 x, .int .i64 y] 23 (0, 0))
  t : Below w.heap.size w A
theorem CaB.new (w : World) (p : Option Addr) (n c : Nat) (f mo i nn : Int) : CaB w ((((w.alloc (.cells #[.slice p n c] 24)).alloc (.cells #[.int .u32 f, .int .i64 mo, .int .u16 i, .int .i64 nn] 30)).alloc (.cells #[.int .i64 0, .int .i64 0] 23)).alloc (.cells #[.int .i64 0, .int .i64 0] 23)) p n c f mo i nn 0 0 := by
  refine ⟨?_, ?_, ?_, ?_, below_al (below_al (below_al (below_al (Below.refl _ _) _) _) _) _⟩
  all_goals
    simp only [heap_alloc_if, World.size_alloc]
    repeat (first | rw [if_neg (by omega)] | rw [if_pos (by first | trivial | omega)])
section
variable {w A A' : World} {p : Option Addr} {n c : Nat} {f mo i nn x y : Int}
theorem CaB.after (h : CaB w A p n c f mo i nn x y) (hb : Below A.heap.size A A') : CaB w A' p n c f mo i nn x y :=
  ⟨(hb.block _ (lt_of_heap h.l)).trans h.l, (hb.block _ (lt_of_heap h.m)).trans h.m, (hb.block _ (lt_of_heap h.r)).trans h.r, (hb.block _ (lt_of_heap h.a)).trans h.a, bc_then h.t hb⟩
theorem CaB.set (h : CaB w A p n c f mo i nn x y) (x' y' : Int) : CaB w ((A.setCell ⟨w.heap.size + 3, 0, none⟩ (.int .i64 x')).setCell ⟨w.heap.size + 3, 1, none⟩ (.int .i64 y')) p n c f mo i nn x' y' := by
  refine ⟨?_, ?_, ?_, st2 h.a _ _, tn2 h.t (by omega) _ _⟩
  · rw [Below.heap_setCell _ _ _ _ (by dsimp only; omega), Below.heap_setCell _ _ _ _ (by dsimp only; omega)]; exact h.l
  · rw [Below.heap_setCell _ _ _ _ (by dsimp only; omega), Below.heap_setCell _ _ _ _ (by dsimp only; omega)]; exact h.m
  · rw [Below.heap_setCell _ _ _ _ (by dsimp only; omega), Below.heap_setCell _ _ _ _ (by dsimp only; omega)]; exact h.r
end
set_option maxRecDepth 20000 in
set_option maxHeartbeats 4000000 in
theorem mlcarried1_any {w : World} {p : Option Addr} (n lc : Nat) (f mo i nn : Int) (hz : ¬ nn = 0) (rt : Bool) (cf df : FuncId) (ga gl gm : Nat) (x y ec : Int) (T : List St) (ed : Int)
    (hcf : ∀ args w, (callFunc cf args).run Tryz.prog w = .ok (.enter cf args) w) (hdf : ∀ args w, (callFunc df args).run Tryz.prog w = .ok (.enter df args) w)
    (hr : ∀ W, Calls Tryz.prog 29 #[.agg #[.int .u32 f, .int .i64 mo, .int .u16 i, .int .i64 nn]] W fun e w' => e = .returned (.bool rt) ∧ Below W.heap.size W w')
    (hc : ∀ W, Below w.heap.size w W → Calls Tryz.prog cf #[.pointer (some ⟨ga, 0, none⟩), .pointer (some ⟨gm, 0, none⟩)] W fun e w' => e = .returned (.tuple #[.agg #[.int .i64 x, .int .i64 y], .int .i64 ec]) ∧ Below W.heap.size W w')
    (hd : ∀ W, Below w.heap.size w W → Calls Tryz.prog df #[.pointer (some ⟨gl, 0, none⟩), .pointer (some ⟨gm, 0, none⟩)] W (GoodsPost W T ed)) :
    Calls Tryz.prog 16 #[.slice p n lc, .agg #[.int .u32 f, .int .i64 mo, .int .u16 i, .int .i64 nn], .func (.func cf) #[] #[.pointer (some ⟨ga, 0, none⟩), .pointer (some ⟨gm, 0, none⟩)], .func (.func df) #[] #[.pointer (some ⟨gl, 0, none⟩), .pointer (some ⟨gm, 0, none⟩)]] w (MailPost w (carR rt ⟨x, y⟩ ec T ed).1 (carR rt ⟨x, y⟩ ec T ed).2.1 (carR rt ⟨x, y⟩ ec T ed).2.2) := by
  have HR : Veil _ := ⟨hr⟩
  have HC : Veil _ := ⟨hc⟩
  have HD : Veil _ := ⟨hd⟩
  have hzb : ((nn : Int) == 0) = false := by simpa using hz
  have HB0 : Veil _ := ⟨CaB.new w p n lc f mo i nn⟩
  clear hr hc hd
  cases rt
  · rw [show carR false ⟨x, y⟩ ec T ed = (Ac.zero, [], 140) from rfl]
    dsimp only [Ac.zero, MailPost, Ac.v]
    go_enter Tryz.func16, Tryz.ntmps16
    go_wp2
    refine wp_scope_ahead 0 rfl ?_
    go_wp2_with (go_at_call 29; refine (HR.out _).mono ?_; rintro e w1 ⟨rfl, hb1⟩; have HB : Veil _ := ⟨HB0.out.after hb1⟩; clear hb1; obtain ⟨⟨m0, m1, m2, m3⟩, -⟩ := pkM HB.out.m; obtain ⟨⟨r0, r1⟩, gr0, gr1⟩ := pk2 HB.out.r; obtain ⟨⟨a0, a1⟩, ga0, ga1⟩ := pk2 HB.out.a)
    go_step3
    refine jump_goto ?_
    go_wp2
    rw [Exit.noGoto_ret]
    exact bodyPost_ret (results_acc3 (g := w.heap.size + 2) rfl rfl rfl rfl (st2 HB.out.r _ _)) rfl ⟨_, rfl, FreshE.nil _ _ _, tn2 HB.out.t (by omega) _ _⟩
  by_cases h1 : ec = 0
  rotate_left 1
  · rw [show carR true ⟨x, y⟩ ec T ed = (Ac.zero, [], ec) by unfold carR; rw [if_pos rfl, if_neg h1]]
    dsimp only [Ac.zero, MailPost, Ac.v]
    go_enter Tryz.func16, Tryz.ntmps16
    go_wp2
    refine wp_scope_ahead 0 rfl ?_
    go_wp2_with (first
        | (refine (HC.out _ HB.out.t).mono ?_; rintro e w2 ⟨rfl, hb2⟩; have HB : Veil _ := ⟨HB.out.after hb2⟩; clear hb2; obtain ⟨⟨m0, m1, m2, m3⟩, -⟩ := pkM HB.out.m; obtain ⟨⟨r0, r1⟩, gr0, gr1⟩ := pk2 HB.out.r; obtain ⟨⟨a0, a1⟩, ga0, ga1⟩ := pk2 HB.out.a; have HB : Veil _ := ⟨HB.out.set x y⟩)
        | (go_at_call 29; refine (HR.out _).mono ?_; rintro e w1 ⟨rfl, hb1⟩; have HB : Veil _ := ⟨HB0.out.after hb1⟩; clear hb1; obtain ⟨⟨m0, m1, m2, m3⟩, -⟩ := pkM HB.out.m; obtain ⟨⟨r0, r1⟩, gr0, gr1⟩ := pk2 HB.out.r; obtain ⟨⟨a0, a1⟩, ga0, ga1⟩ := pk2 HB.out.a))
    go_step3
    refine jump_goto ?_
    go_wp2
    rw [Exit.noGoto_ret]
    exact bodyPost_ret (results_acc3 (g := w.heap.size + 2) rfl rfl rfl rfl (st2 HB.out.r _ _)) rfl ⟨_, rfl, FreshE.nil _ _ _, tn2 HB.out.t (by omega) _ _⟩
  subst h1
  by_cases h2 : ed = 0
  rotate_left 1
  · rw [show carR true ⟨x, y⟩ 0 T ed = (Ac.zero, [], ed) by unfold carR; rw [if_pos rfl, if_pos rfl, if_neg h2]]
    dsimp only [Ac.zero, MailPost, Ac.v]
    go_enter Tryz.func16, Tryz.ntmps16
    go_wp2
    refine wp_scope_ahead 0 rfl ?_
    go_wp2_with (first
        | (refine (HD.out _ HB.out.t).mono ?_; rintro e w3 ⟨v3, rfl, hF3, hb3⟩; have HB3 : Veil _ := ⟨HB.out.t⟩; have HLT : Veil _ := ⟨lt_of_heap HB.out.a⟩; have HF3 : Veil _ := ⟨hF3⟩; obtain ⟨p3, c3, ev3, -, -⟩ := hF3.form; subst ev3; have HB : Veil _ := ⟨HB.out.after hb3⟩; clear hb3 hF3; obtain ⟨⟨m0, m1, m2, m3⟩, -⟩ := pkM HB.out.m; obtain ⟨⟨r0, r1⟩, gr0, gr1⟩ := pk2 HB.out.r; obtain ⟨⟨a0, a1⟩, ga0, ga1⟩ := pk2 HB.out.a)
        | (refine (HC.out _ HB.out.t).mono ?_; rintro e w2 ⟨rfl, hb2⟩; have HB : Veil _ := ⟨HB.out.after hb2⟩; clear hb2; obtain ⟨⟨m0, m1, m2, m3⟩, -⟩ := pkM HB.out.m; obtain ⟨⟨r0, r1⟩, gr0, gr1⟩ := pk2 HB.out.r; obtain ⟨⟨a0, a1⟩, ga0, ga1⟩ := pk2 HB.out.a; have HB : Veil _ := ⟨HB.out.set x y⟩)
        | (go_at_call 29; refine (HR.out _).mono ?_; rintro e w1 ⟨rfl, hb1⟩; have HB : Veil _ := ⟨HB0.out.after hb1⟩; clear hb1; obtain ⟨⟨m0, m1, m2, m3⟩, -⟩ := pkM HB.out.m; obtain ⟨⟨r0, r1⟩, gr0, gr1⟩ := pk2 HB.out.r; obtain ⟨⟨a0, a1⟩, ga0, ga1⟩ := pk2 HB.out.a))
    go_step3
    refine jump_goto ?_
    go_wp2
    rw [Exit.noGoto_ret]
    exact bodyPost_ret (results_acc3 (g := w.heap.size + 2) rfl rfl rfl rfl (st2 HB.out.r _ _)) rfl ⟨_, rfl, FreshE.nil _ _ _, tn2 HB.out.t (by omega) _ _⟩
  subst h2
  · rw [show carR true ⟨x, y⟩ 0 T 0 = (⟨x, y⟩, T, 0) by unfold carR; rw [if_pos rfl, if_pos rfl, if_pos rfl]]
    dsimp only [MailPost, Ac.v]
    go_enter Tryz.func16, Tryz.ntmps16
    go_wp2
    refine wp_scope_ahead 0 rfl ?_
    go_wp2_with (first
        | (refine (HD.out _ HB.out.t).mono ?_; rintro e w3 ⟨v3, rfl, hF3, hb3⟩; have HB3 : Veil _ := ⟨HB.out.t⟩; have HLT : Veil _ := ⟨lt_of_heap HB.out.a⟩; have HF3 : Veil _ := ⟨hF3⟩; obtain ⟨p3, c3, ev3, -, -⟩ := hF3.form; subst ev3; have HB : Veil _ := ⟨HB.out.after hb3⟩; clear hb3 hF3; obtain ⟨⟨m0, m1, m2, m3⟩, -⟩ := pkM HB.out.m; obtain ⟨⟨r0, r1⟩, gr0, gr1⟩ := pk2 HB.out.r; obtain ⟨⟨a0, a1⟩, ga0, ga1⟩ := pk2 HB.out.a)
        | (refine (HC.out _ HB.out.t).mono ?_; rintro e w2 ⟨rfl, hb2⟩; have HB : Veil _ := ⟨HB.out.after hb2⟩; clear hb2; obtain ⟨⟨m0, m1, m2, m3⟩, -⟩ := pkM HB.out.m; obtain ⟨⟨r0, r1⟩, gr0, gr1⟩ := pk2 HB.out.r; obtain ⟨⟨a0, a1⟩, ga0, ga1⟩ := pk2 HB.out.a; have HB : Veil _ := ⟨HB.out.set x y⟩)
        | (go_at_call 29; refine (HR.out _).mono ?_; rintro e w1 ⟨rfl, hb1⟩; have HB : Veil _ := ⟨HB0.out.after hb1⟩; clear hb1; obtain ⟨⟨m0, m1, m2, m3⟩, -⟩ := pkM HB.out.m; obtain ⟨⟨r0, r1⟩, gr0, gr1⟩ := pk2 HB.out.r; obtain ⟨⟨a0, a1⟩, ga0, ga1⟩ := pk2 HB.out.a))
    refine jump_ret ?_
    exact bodyPost_ret (results_acc3 (g := w.heap.size + 2) rfl rfl rfl rfl (st2 HB.out.r _ _)) rfl ⟨_, rfl, (HF3.out.turned (two_turned _ _ _ _) (fun k hk => by have := HLT.out; have := HB3.out.size; omega)).base (by have := HB3.out.size; omega), tn2 HB.out.t (by omega) _ _⟩
set_option maxRecDepth 20000 in
set_option maxHeartbeats 4000000 in
theorem mlcarried0_any {w : World} {p : Option Addr} (n lc : Nat) (f mo i nn : Int) (hz : nn = 0) (rt : Bool) (cf df : FuncId) (ga gl gm : Nat) (x y ec : Int) (T : List St) (ed : Int)
    (hcf : ∀ args w, (callFunc cf args).run Tryz.prog w = .ok (.enter cf args) w) (_ : ∀ args w, (callFunc df args).run Tryz.prog w = .ok (.enter df args) w)
    (hr : ∀ W, Calls Tryz.prog 29 #[.agg #[.int .u32 f, .int .i64 mo, .int .u16 i, .int .i64 nn]] W fun e w' => e = .returned (.bool rt) ∧ Below W.heap.size W w')
    (hc : ∀ W, Below w.heap.size w W → Calls Tryz.prog cf #[.pointer (some ⟨ga, 0, none⟩), .pointer (some ⟨gm, 0, none⟩)] W fun e w' => e = .returned (.tuple #[.agg #[.int .i64 x, .int .i64 y], .int .i64 ec]) ∧ Below W.heap.size W w')
    (hd : ∀ W, Below w.heap.size w W → W.cell? ⟨w.heap.size, 0, none⟩ = some (.slice p n lc) → Calls Tryz.prog 34 #[.pointer (some ⟨w.heap.size, 0, none⟩)] W (GoodsPost W T ed)) :
    Calls Tryz.prog 16 #[.slice p n lc, .agg #[.int .u32 f, .int .i64 mo, .int .u16 i, .int .i64 nn], .func (.func cf) #[] #[.pointer (some ⟨ga, 0, none⟩), .pointer (some ⟨gm, 0, none⟩)], .func (.func df) #[] #[.pointer (some ⟨gl, 0, none⟩), .pointer (some ⟨gm, 0, none⟩)]] w (MailPost w (carR rt ⟨x, y⟩ ec T ed).1 (carR rt ⟨x, y⟩ ec T ed).2.1 (carR rt ⟨x, y⟩ ec T ed).2.2) := by
  have HR : Veil _ := ⟨hr⟩
  have HC : Veil _ := ⟨hc⟩
  have HD0 : Veil _ := ⟨hd⟩
  subst hz
  have HB0 : Veil _ := ⟨CaB.new w p n lc f mo i 0⟩
  clear hr hc hd
  cases rt
  · rw [show carR false ⟨x, y⟩ ec T ed = (Ac.zero, [], 140) from rfl]
    dsimp only [Ac.zero, MailPost, Ac.v]
    go_enter Tryz.func16, Tryz.ntmps16
    go_wp2
    refine wp_scope_ahead 0 rfl ?_
    go_wp2_with (go_at_call 29; refine (HR.out _).mono ?_; rintro e w1 ⟨rfl, hb1⟩; have HB : Veil _ := ⟨HB0.out.after hb1⟩; clear hb1; obtain ⟨⟨m0, m1, m2, m3⟩, -⟩ := pkM HB.out.m; obtain ⟨⟨r0, r1⟩, gr0, gr1⟩ := pk2 HB.out.r; obtain ⟨⟨a0, a1⟩, ga0, ga1⟩ := pk2 HB.out.a)
    go_step3
    refine jump_goto ?_
    go_wp2
    rw [Exit.noGoto_ret]
    exact bodyPost_ret (results_acc3 (g := w.heap.size + 2) rfl rfl rfl rfl (st2 HB.out.r _ _)) rfl ⟨_, rfl, FreshE.nil _ _ _, tn2 HB.out.t (by omega) _ _⟩
  by_cases h1 : ec = 0
  rotate_left 1
  · rw [show carR true ⟨x, y⟩ ec T ed = (Ac.zero, [], ec) by unfold carR; rw [if_pos rfl, if_neg h1]]
    dsimp only [Ac.zero, MailPost, Ac.v]
    go_enter Tryz.func16, Tryz.ntmps16
    go_wp2
    refine wp_scope_ahead 0 rfl ?_
    go_wp2_with (first
        | (refine (HC.out _ HB.out.t).mono ?_; rintro e w2 ⟨rfl, hb2⟩; have HB : Veil _ := ⟨HB.out.after hb2⟩; clear hb2; obtain ⟨⟨m0, m1, m2, m3⟩, -⟩ := pkM HB.out.m; obtain ⟨⟨r0, r1⟩, gr0, gr1⟩ := pk2 HB.out.r; obtain ⟨⟨a0, a1⟩, ga0, ga1⟩ := pk2 HB.out.a; have HB : Veil _ := ⟨HB.out.set x y⟩)
        | (go_at_call 29; refine (HR.out _).mono ?_; rintro e w1 ⟨rfl, hb1⟩; have HB : Veil _ := ⟨HB0.out.after hb1⟩; clear hb1; obtain ⟨⟨m0, m1, m2, m3⟩, -⟩ := pkM HB.out.m; obtain ⟨⟨r0, r1⟩, gr0, gr1⟩ := pk2 HB.out.r; obtain ⟨⟨a0, a1⟩, ga0, ga1⟩ := pk2 HB.out.a))
    go_step3
    refine jump_goto ?_
    go_wp2
    rw [Exit.noGoto_ret]
    exact bodyPost_ret (results_acc3 (g := w.heap.size + 2) rfl rfl rfl rfl (st2 HB.out.r _ _)) rfl ⟨_, rfl, FreshE.nil _ _ _, tn2 HB.out.t (by omega) _ _⟩
  subst h1
  by_cases h2 : ed = 0
  rotate_left 1
  · rw [show carR true ⟨x, y⟩ 0 T ed = (Ac.zero, [], ed) by unfold carR; rw [if_pos rfl, if_pos rfl, if_neg h2]]
    dsimp only [Ac.zero, MailPost, Ac.v]
    go_enter Tryz.func16, Tryz.ntmps16
    go_wp2
    refine wp_scope_ahead 0 rfl ?_
    go_wp2_with (first
        | (refine (HD0.out _ HB.out.t (cell_row6 HB.out.l)).mono ?_; rintro e w3 ⟨v3, rfl, hF3, hb3⟩; have HB3 : Veil _ := ⟨HB.out.t⟩; have HLT : Veil _ := ⟨lt_of_heap HB.out.a⟩; have HF3 : Veil _ := ⟨hF3⟩; obtain ⟨p3, c3, ev3, -, -⟩ := hF3.form; subst ev3; have HB : Veil _ := ⟨HB.out.after hb3⟩; clear hb3 hF3; obtain ⟨⟨m0, m1, m2, m3⟩, -⟩ := pkM HB.out.m; obtain ⟨⟨r0, r1⟩, gr0, gr1⟩ := pk2 HB.out.r; obtain ⟨⟨a0, a1⟩, ga0, ga1⟩ := pk2 HB.out.a)
        | (refine (HC.out _ HB.out.t).mono ?_; rintro e w2 ⟨rfl, hb2⟩; have HB : Veil _ := ⟨HB.out.after hb2⟩; clear hb2; obtain ⟨⟨m0, m1, m2, m3⟩, -⟩ := pkM HB.out.m; obtain ⟨⟨r0, r1⟩, gr0, gr1⟩ := pk2 HB.out.r; obtain ⟨⟨a0, a1⟩, ga0, ga1⟩ := pk2 HB.out.a; have HB : Veil _ := ⟨HB.out.set x y⟩)
        | (go_at_call 29; refine (HR.out _).mono ?_; rintro e w1 ⟨rfl, hb1⟩; have HB : Veil _ := ⟨HB0.out.after hb1⟩; clear hb1; obtain ⟨⟨m0, m1, m2, m3⟩, -⟩ := pkM HB.out.m; obtain ⟨⟨r0, r1⟩, gr0, gr1⟩ := pk2 HB.out.r; obtain ⟨⟨a0, a1⟩, ga0, ga1⟩ := pk2 HB.out.a))
    go_step3
    refine jump_goto ?_
    go_wp2
    rw [Exit.noGoto_ret]
    exact bodyPost_ret (results_acc3 (g := w.heap.size + 2) rfl rfl rfl rfl (st2 HB.out.r _ _)) rfl ⟨_, rfl, FreshE.nil _ _ _, tn2 HB.out.t (by omega) _ _⟩
  subst h2
  · rw [show carR true ⟨x, y⟩ 0 T 0 = (⟨x, y⟩, T, 0) by unfold carR; rw [if_pos rfl, if_pos rfl, if_pos rfl]]
    dsimp only [MailPost, Ac.v]
    go_enter Tryz.func16, Tryz.ntmps16
    go_wp2
    refine wp_scope_ahead 0 rfl ?_
    go_wp2_with (first
        | (refine (HD0.out _ HB.out.t (cell_row6 HB.out.l)).mono ?_; rintro e w3 ⟨v3, rfl, hF3, hb3⟩; have HB3 : Veil _ := ⟨HB.out.t⟩; have HLT : Veil _ := ⟨lt_of_heap HB.out.a⟩; have HF3 : Veil _ := ⟨hF3⟩; obtain ⟨p3, c3, ev3, -, -⟩ := hF3.form; subst ev3; have HB : Veil _ := ⟨HB.out.after hb3⟩; clear hb3 hF3; obtain ⟨⟨m0, m1, m2, m3⟩, -⟩ := pkM HB.out.m; obtain ⟨⟨r0, r1⟩, gr0, gr1⟩ := pk2 HB.out.r; obtain ⟨⟨a0, a1⟩, ga0, ga1⟩ := pk2 HB.out.a)
        | (refine (HC.out _ HB.out.t).mono ?_; rintro e w2 ⟨rfl, hb2⟩; have HB : Veil _ := ⟨HB.out.after hb2⟩; clear hb2; obtain ⟨⟨m0, m1, m2, m3⟩, -⟩ := pkM HB.out.m; obtain ⟨⟨r0, r1⟩, gr0, gr1⟩ := pk2 HB.out.r; obtain ⟨⟨a0, a1⟩, ga0, ga1⟩ := pk2 HB.out.a; have HB : Veil _ := ⟨HB.out.set x y⟩)
        | (go_at_call 29; refine (HR.out _).mono ?_; rintro e w1 ⟨rfl, hb1⟩; have HB : Veil _ := ⟨HB0.out.after hb1⟩; clear hb1; obtain ⟨⟨m0, m1, m2, m3⟩, -⟩ := pkM HB.out.m; obtain ⟨⟨r0, r1⟩, gr0, gr1⟩ := pk2 HB.out.r; obtain ⟨⟨a0, a1⟩, ga0, ga1⟩ := pk2 HB.out.a))
    refine jump_ret ?_
    exact bodyPost_ret (results_acc3 (g := w.heap.size + 2) rfl rfl rfl rfl (st2 HB.out.r _ _)) rfl ⟨_, rfl, (HF3.out.turned (two_turned _ _ _ _) (fun k hk => by have := HLT.out; have := HB3.out.size; omega)).base (by have := HB3.out.size; omega), tn2 HB.out.t (by omega) _ _⟩
end Go.Proofs.YtfjjodkapofgjaaGreatDoor
