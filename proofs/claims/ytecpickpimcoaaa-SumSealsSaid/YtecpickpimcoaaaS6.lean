/- The walks of Sum, More, Join, Seal. -/
import Derived.Test.YtecpickpimcoaaaS5
import Derived.ScopeJumps
namespace Go.Proofs.Ytecpickpimcoaaa
open Go Go.RowKit

/-- A scope with gotos ahead alone: where the run jumps, the rest behind the label is walked. -/
def Ahead (P : Program) (rest : Code) (Q : Exit → Act → World → Prop) (a : Act) (w : World) : Prop := rest.wp P (Exit.noGoto Q) a w
theorem wp_scope_ahead {P : Program} {a : Act} {w : World} {Q : Exit → Act → World → Prop} {c rest : Code} (l : Nat) (hf : findLabel c l = some rest) (h : c.wp P (Exit.jump l (Ahead P rest Q) Q) a w) : (Code.scope c).wp P Q a w :=
  wp_scope_jumps l (Ahead P rest Q) (fun _ _ => 0) hf h fun a w hj => Code.wp_mono (fun e a w q => by cases e <;> first | exact q | exact q.elim) hj
theorem jump_goto {P : Program} {a : Act} {w : World} {Q : Exit → Act → World → Prop} {rest : Code} {l : Nat} (h : rest.wp P (Exit.noGoto Q) a w) : Exit.jump l (Ahead P rest Q) Q (.goto l) a w := ⟨rfl, h⟩
theorem jump_ret {a : Act} {w : World} {Q : Exit → Act → World → Prop} {J : Act → World → Prop} {l : Nat} (h : Q .ret a w) : Exit.jump l J Q .ret a w := h
attribute [local go_sem] Oper.semAt_some

def wholeN (h : Nat × Nat) : Nat := h.2 * 65536 + h.1
def sumN (s : List UInt8) : Nat := wholeN (addS (1, 0) s)
theorem sum_lt (s : List UInt8) : (addS (1, 0) s).1 < 65521 ∧ (addS (1, 0) s).2 < 65521 := addS_lt s (1, 0) ⟨by decide, by decide⟩
def moreN (n : Nat) (s : List UInt8) : Nat := wholeN (addS (n % 65536, n / 65536) s)
def joinN (a b n : Nat) : Nat := wholeN (joinH (a % 65536, a / 65536) (b % 65536, b / 65536) n)

set_option maxHeartbeats 1000000 in
theorem sum_any (s : List UInt8) (hs : Veil (s.length ≤ 9223372036854775807)) (w : World) : Calls Try.prog 17 #[.string ⟨s.toArray⟩] w fun e w' => e = .returned (u32v (sumN s)) ∧ Below w.heap.size w w' := by
  have hlt : Veil _ := ⟨sum_lt s⟩
  go_enter Try.func17, Try.ntmps17
  go_wp2_with (first | (go_at_call 26; refine (split_any 1 (by decide) _).mono ?_; rintro e w2 ⟨rfl, hb2⟩) | (go_at_call 27; refine (add_any (1, 0) (by decide) (by decide) s hs.out s.length (Nat.le_refl _) _).mono ?_; rintro e w3 ⟨rfl, hb3⟩; rw [List.take_length]) | (go_at_call 28; refine (whole_any (addS (1, 0) s) (by have := hlt.out; omega) (by have := hlt.out; omega) _).mono ?_; rintro e w4 ⟨rfl, hb4⟩))
  go_ret
  exact ⟨rfl, (hb2.trans (hb3.mono hb2.size)).trans (hb4.mono (hb2.trans (hb3.mono hb2.size)).size)⟩

theorem sums_one (n : Nat) (hn : Veil (n < 4294967296)) (w : World) : Calls Try.prog 25 #[.slice (some ⟨w.heap.size, 0, none⟩) 1 1] (w.alloc (.cells #[.int .u32 n] 22)) fun e w' => e = .returned (.bool (okS n)) ∧ Below w.heap.size w w' :=
  (sums_any w.heap.size 1 [n] _ (by
    intro i hi
    have : i = 0 := by simp at hi; omega
    subst this; simp [go_sem]) (by simp) ⟨by simpa using hn.out⟩ (by simp)).mono fun e w' ⟨he, hb⟩ => ⟨by simpa using he, (below_al (Below.refl _ w) _).trans (hb.mono (by simp))⟩
theorem sums_two (a b : Nat) (ha : Veil (a < 4294967296)) (hb : Veil (b < 4294967296)) (w : World) : Calls Try.prog 25 #[.slice (some ⟨w.heap.size, 0, none⟩) 2 2] (w.alloc (.cells #[.int .u32 a, .int .u32 b] 22)) fun e w' => e = .returned (.bool (okS a && okS b)) ∧ Below w.heap.size w w' :=
  (sums_any w.heap.size 2 [a, b] _ (by
    intro i hi
    have : i = 0 ∨ i = 1 := by simp at hi; omega
    rcases this with rfl | rfl <;> simp [go_sem]) (by simp) ⟨by simpa using ⟨ha.out, hb.out⟩⟩ (by simp)).mono fun e w' ⟨he, hb⟩ => ⟨by simpa using he, (below_al (Below.refl _ w) _).trans (hb.mono (by simp))⟩

/-- The answer of More. -/
def moreR (n : Nat) (s : List UInt8) : Value := if okS n then .tuple #[u32v (moreN n s), .int .i64 0] else .tuple #[.int .u32 0, .int .i64 2]

set_option maxHeartbeats 1000000 in
theorem more_any (n : Nat) (hn : Veil (n < 4294967296)) (s : List UInt8) (hs : Veil (s.length ≤ 9223372036854775807)) (w : World) : Calls Try.prog 12 #[.int .u32 n, .string ⟨s.toArray⟩] w fun e w' => e = .returned (moreR n s) ∧ Below w.heap.size w w' := by
  unfold moreR
  go_enter Try.func12, Try.ntmps12
  cases hok : okS n
  · have HOK : Veil _ := ⟨hok⟩
    clear hok
    go_wp2_with (go_at_call 25; refine (sums_one n hn _).mono ?_; rintro e w2 ⟨rfl, hb2⟩; rw [HOK.out])
    go_ret2
    exact ⟨rfl, hb2⟩
  · have HOK : Veil _ := ⟨hok⟩
    have hlt : Veil _ := ⟨addS_lt s (n % 65536, n / 65536) (okS_true hok)⟩
    have ho : Veil _ := ⟨okS_true hok⟩
    clear hok
    go_wp2_with (first | (go_at_call 25; refine (sums_one n hn _).mono ?_; rintro e w2 ⟨rfl, hb2⟩; rw [HOK.out]) | (go_at_call 26; refine (split_any n hn.out _).mono ?_; rintro e w3 ⟨rfl, hb3⟩) | (go_at_call 27; refine (add_any (n % 65536, n / 65536) ho.out.1 ho.out.2 s hs.out s.length (Nat.le_refl _) _).mono ?_; rintro e w4 ⟨rfl, hb4⟩; rw [List.take_length]) | (go_at_call 28; refine (whole_any (addS (n % 65536, n / 65536) s) (by have := hlt.out; omega) (by have := hlt.out; omega) _).mono ?_; rintro e w5 ⟨rfl, hb5⟩))
    go_ret2
    have b3 := hb2.trans (hb3.mono hb2.size)
    have b4 := b3.trans (hb4.mono b3.size)
    exact ⟨rfl, b4.trans (hb5.mono b4.size)⟩

/-- The answer of Join. -/
def joinR (a b : Nat) (n : Int) : Value := if okS a && okS b && decide (0 ≤ n) && decide (n ≤ 1048576) then .tuple #[u32v (joinN a b n.toNat), .int .i64 0] else .tuple #[.int .u32 0, .int .i64 2]

theorem mod_lt_p (n : Nat) : n % 65521 < 65536 := by omega

set_option maxHeartbeats 1000000 in
theorem join_any (a b : Nat) (ha : Veil (a < 4294967296)) (hb : Veil (b < 4294967296)) (n : Int) (w : World) : Calls Try.prog 15 #[.int .u32 a, .int .u32 b, .int .i64 n] w fun e w' => e = .returned (joinR a b n) ∧ Below w.heap.size w w' := by
  unfold joinR
  go_enter Try.func15, Try.ntmps15
  cases hok : okS a && okS b
  · have HOK : Veil _ := ⟨hok⟩
    clear hok
    go_wp2
    refine wp_scope_ahead 0 rfl ?_
    go_wp2_with (go_at_call 25; refine (sums_two a b ha hb _).mono ?_; rintro e w2 ⟨rfl, hb2⟩; rw [HOK.out])
    go_step3
    refine jump_goto ?_
    go_wp2
    rw [Exit.noGoto_ret]
    go_ret2
    exact ⟨by simp, hb2⟩
  · have HOK : Veil _ := ⟨hok⟩
    have hab : Veil _ := ⟨Bool.and_eq_true_iff.1 hok⟩
    clear hok
    have hn3 : n < 0 ∨ 1048576 < n ∨ (0 ≤ n ∧ n ≤ 1048576) := by omega
    rcases hn3 with hn1 | hn1 | ⟨hn1, hn2⟩
    · go_wp2
      refine wp_scope_ahead 0 rfl ?_
      go_wp2_with (go_at_call 25; refine (sums_two a b ha hb _).mono ?_; rintro e w2 ⟨rfl, hb2⟩; rw [HOK.out])
      go_step3
      refine jump_goto ?_
      go_wp2
      rw [Exit.noGoto_ret]
      go_ret2
      refine ⟨?_, hb2⟩
      rw [if_neg (by intro h; simp at h; omega)]
      rfl
    · go_wp2
      refine wp_scope_ahead 0 rfl ?_
      go_wp2_with (go_at_call 25; refine (sums_two a b ha hb _).mono ?_; rintro e w2 ⟨rfl, hb2⟩; rw [HOK.out])
      go_step3
      refine jump_goto ?_
      go_wp2
      rw [Exit.noGoto_ret]
      go_ret2
      refine ⟨?_, hb2⟩
      rw [if_neg (by intro h; simp at h; omega)]
      rfl
    · have hj : Veil (∀ w, Calls Try.prog 30 #[halvesv (a % 65536, a / 65536), halvesv (b % 65536, b / 65536), .int .u64 n] w fun e w' => e = .returned (halvesv (joinH (a % 65536, a / 65536) (b % 65536, b / 65536) n.toNat)) ∧ Below w.heap.size w w') := ⟨fun w => by
        have h1 := okS_true hab.out.1
        have h2 := okS_true hab.out.2
        have := joined_any (a % 65536, a / 65536) (b % 65536, b / 65536) n.toNat h1.1 h1.2 h2.1 h2.2 (by omega) w
        rwa [show ((n.toNat : Nat) : Int) = n by omega] at this⟩
      have hw1 : Veil ((joinH (a % 65536, a / 65536) (b % 65536, b / 65536) n.toNat).1 < 65536 ∧ (joinH (a % 65536, a / 65536) (b % 65536, b / 65536) n.toNat).2 < 65536) := ⟨mod_lt_p _, mod_lt_p _⟩
      go_wp2
      refine wp_scope_ahead 0 rfl ?_
      go_wp2_with (first | (go_at_call 25; refine (sums_two a b ha hb _).mono ?_; rintro e w2 ⟨rfl, hb2⟩; rw [HOK.out]) | (go_at_call 30; refine (hj.out _).mono ?_; rintro e w5 ⟨rfl, hb5⟩) | (go_at_call 28; refine (whole_any _ hw1.out.1 hw1.out.2 _).mono ?_; rintro e w6 ⟨rfl, hb6⟩) | (go_at_call 26; refine (split_any a ha.out w2).mono ?_; rintro e w3 ⟨rfl, hb3⟩) | (go_at_call 26; refine (split_any b hb.out w3).mono ?_; rintro e w4 ⟨rfl, hb4⟩))
      refine jump_ret ?_
      go_ret2
      have b3 := hb2.trans (hb3.mono hb2.size)
      have b4 := b3.trans (hb4.mono b3.size)
      have b5 := b4.trans (hb5.mono b4.size)
      refine ⟨?_, b5.trans (hb6.mono b5.size)⟩
      rw [if_pos (by simp [hn1, hn2])]
      rfl

/-- A sum's four bytes. -/
def sealB (n : Nat) : List UInt8 := [(n / 16777216).toUInt8, (n / 65536).toUInt8, (n / 256).toUInt8, n.toUInt8]

theorem seal_cells (n : Nat) : [Value.int IntKind.u8 ((n : Int) / 16777216 % 256), Value.int IntKind.u8 ((n : Int) / 65536 % 256), Value.int IntKind.u8 ((n : Int) / 256 % 256), Value.int IntKind.u8 ((n : Int) % 256)] = u8s (sealB n) := by
  simp [u8s, sealB, u8v, Nat.toUInt8, UInt8.toNat_ofNat']
/-- The text of bytes in a new slice. -/
theorem text_new (s : List UInt8) (w : World) {cs : List Value} (hc : cs = u8s s) : Calls Try.prog 33 #[.slice (some ⟨w.heap.size, 0, none⟩) s.length s.length] (w.alloc (.cells cs.toArray 5)) fun e w' => e = .returned (.string ⟨s.toArray⟩) ∧ w.alloc (.cells cs.toArray 5) = w' := by
  subst hc
  refine text_any w.heap.size 0 s.length s _ ?_
  have := rangeAt_whole (heap_alloc_new w (.cells (u8s s).toArray 5)) 0 (u8s s).length
  rwa [List.drop_zero, List.take_length] at this

theorem str_append (s t : List UInt8) : (⟨s.toArray⟩ : ByteArray) ++ ⟨t.toArray⟩ = ⟨(s ++ t).toArray⟩ := by
  apply ByteArray.ext
  simp [ByteArray.data_append]

set_option maxHeartbeats 1000000 in
theorem seal_any (s : List UInt8) (hs : Veil (s.length ≤ 1000000)) (w : World) : Calls Try.prog 23 #[.string ⟨s.toArray⟩] w fun e w' => e = .returned (.string ⟨(s ++ sealB (sumN s)).toArray⟩) ∧ Below w.heap.size w w' := by
  have hs' : Veil (s.length ≤ 9223372036854775807) := ⟨by have := hs.out; omega⟩
  have hlt : Veil (sumN s < 4294967296) := ⟨by have := sum_lt s; unfold sumN wholeN; omega⟩
  have hnb : ¬ 9223372036854775807 < s.length + (sealB (sumN s)).length := by have := hs.out; simp only [sealB, List.length_cons, List.length_nil]; omega
  go_enter Try.func23, Try.ntmps23
  go_wp2_with (first | (go_at_call 17; refine (sum_any s hs' _).mono ?_; rintro e w2 ⟨rfl, hb2⟩; unfold u32v) | (go_at_call 33; refine (text_new (sealB (sumN s)) w2 (seal_cells (sumN s))).mono ?_; rintro e w3 ⟨rfl, rfl⟩))
  go_ret
  exact ⟨congrArg (fun x => Ending.returned (Value.string x)) (str_append _ _), below_al hb2 _⟩
end Go.Proofs.Ytecpickpimcoaaa
