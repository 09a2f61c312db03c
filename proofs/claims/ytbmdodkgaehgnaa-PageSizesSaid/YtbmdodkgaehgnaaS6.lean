/- The walks of Sum, More, Join, Seal. -/
import Derived.Test.YtbmdodkgaehgnaaS5
import Derived.ScopeJumps
namespace Go.Proofs.Ytbmdodkgaehgnaa.Sm
open Go Go.RowKit

/-- A scope with gotos ahead alone: where the run jumps, the rest behind the label is walked. -/
def Ahead (P : Program) (rest : Code) (Q : Exit → Act → World → Prop) (a : Act) (w : World) : Prop := rest.wp P (Exit.noGoto Q) a w
theorem wp_scope_ahead {P : Program} {a : Act} {w : World} {Q : Exit → Act → World → Prop} {c rest : Code} (l : Nat) (hf : findLabel c l = some rest) (h : c.wp P (Exit.jump l (Ahead P rest Q) Q) a w) : (Code.scope c).wp P Q a w :=
  wp_scope_jumps l (Ahead P rest Q) (fun _ _ => 0) hf h fun a w hj => Code.wp_mono (fun e a w q => by cases e <;> first | exact q | exact q.elim) hj
theorem jump_goto {P : Program} {a : Act} {w : World} {Q : Exit → Act → World → Prop} {rest : Code} {l : Nat} (h : rest.wp P (Exit.noGoto Q) a w) : Exit.jump l (Ahead P rest Q) Q (.goto l) a w := ⟨rfl, h⟩
theorem jump_ret {a : Act} {w : World} {Q : Exit → Act → World → Prop} {J : Act → World → Prop} {l : Nat} (h : Q .ret a w) : Exit.jump l J Q .ret a w := h
attribute [local go_sem] Oper.semAt_some

def wholeN (h : Nat × Nat) : Nat := h.2 * 65536 + h.1
def sumN (s : List UInt8) : Nat := wholeN (addS (1, 0) s)
theorem sum_lt (s : List UInt8) : (addS (1, 0) s).1 < 65521 ∧ (addS (1, 0) s).2 < 65521 := addS_lt s (1, 0) ⟨by decide, by decide⟩
def moreN (n : Nat) (s : List UInt8) : Nat := wholeN (addS (n % 65536, n / 65536) s)
def joinN (a b n : Nat) : Nat := wholeN (joinH (a % 65536, a / 65536) (b % 65536, b / 65536) n)

set_option maxHeartbeats 1000000 in
theorem sum_any (s : List UInt8) (hs : Veil (s.length ≤ 9223372036854775807)) (w : World) : Calls Try.prog 55 #[.string ⟨s.toArray⟩] w fun e w' => e = .returned (u32v (sumN s)) ∧ Below w.heap.size w w' := by
  have hlt : Veil _ := ⟨sum_lt s⟩
  go_enter Try.func55, Try.ntmps55
  go_wp2_with (first | (go_at_call 70; refine (split_any 1 (by decide) _).mono ?_; rintro e w2 ⟨rfl, hb2⟩) | (go_at_call 71; refine (add_any (1, 0) (by decide) (by decide) s hs.out s.length (Nat.le_refl _) _).mono ?_; rintro e w3 ⟨rfl, hb3⟩; rw [List.take_length]) | (go_at_call 72; refine (whole_any (addS (1, 0) s) (by have := hlt.out; omega) (by have := hlt.out; omega) _).mono ?_; rintro e w4 ⟨rfl, hb4⟩))
  go_ret
  exact ⟨rfl, (hb2.trans (hb3.mono hb2.size)).trans (hb4.mono (hb2.trans (hb3.mono hb2.size)).size)⟩

/-- The answer of More. -/
def moreR (n : Nat) (s : List UInt8) : Value := if okS n then .tuple #[u32v (moreN n s), .int .i64 0] else .tuple #[.int .u32 0, .int .i64 2]

/-- The answer of Join. -/
def joinR (a b : Nat) (n : Int) : Value := if okS a && okS b && decide (0 ≤ n) && decide (n ≤ 1048576) then .tuple #[u32v (joinN a b n.toNat), .int .i64 0] else .tuple #[.int .u32 0, .int .i64 2]

theorem mod_lt_p (n : Nat) : n % 65521 < 65536 := by omega

/-- A sum's four bytes. -/
def sealB (n : Nat) : List UInt8 := [(n / 16777216).toUInt8, (n / 65536).toUInt8, (n / 256).toUInt8, n.toUInt8]

theorem seal_cells (n : Nat) : [Value.int IntKind.u8 ((n : Int) / 16777216 % 256), Value.int IntKind.u8 ((n : Int) / 65536 % 256), Value.int IntKind.u8 ((n : Int) / 256 % 256), Value.int IntKind.u8 ((n : Int) % 256)] = u8s (sealB n) := by
  simp [u8s, sealB, u8v, Nat.toUInt8, UInt8.toNat_ofNat']
/-- The text of bytes in a new slice. -/
theorem text_new (s : List UInt8) (w : World) {cs : List Value} (hc : cs = u8s s) : Calls Try.prog 56 #[.slice (some ⟨w.heap.size, 0, none⟩) s.length s.length] (w.alloc (.cells cs.toArray 5)) fun e w' => e = .returned (.string ⟨s.toArray⟩) ∧ w.alloc (.cells cs.toArray 5) = w' := by
  subst hc
  refine text_any w.heap.size 0 s.length s _ ?_
  have := rangeAt_whole (heap_alloc_new w (.cells (u8s s).toArray 5)) 0 (u8s s).length
  rwa [List.drop_zero, List.take_length] at this

theorem str_append (s t : List UInt8) : (⟨s.toArray⟩ : ByteArray) ++ ⟨t.toArray⟩ = ⟨(s ++ t).toArray⟩ := by
  apply ByteArray.ext
  simp [ByteArray.data_append]

set_option maxHeartbeats 1000000 in
theorem seal_any (s : List UInt8) (hs : Veil (s.length ≤ 1000000)) (w : World) : Calls Try.prog 34 #[.string ⟨s.toArray⟩] w fun e w' => e = .returned (.string ⟨(s ++ sealB (sumN s)).toArray⟩) ∧ Below w.heap.size w w' := by
  have hs' : Veil (s.length ≤ 9223372036854775807) := ⟨by have := hs.out; omega⟩
  have hlt : Veil (sumN s < 4294967296) := ⟨by have := sum_lt s; unfold sumN wholeN; omega⟩
  have hnb : ¬ 9223372036854775807 < s.length + (sealB (sumN s)).length := by have := hs.out; simp only [sealB, List.length_cons, List.length_nil]; omega
  go_enter Try.func34, Try.ntmps34
  go_wp2_with (first | (go_at_call 55; refine (sum_any s hs' _).mono ?_; rintro e w2 ⟨rfl, hb2⟩; unfold u32v) | (go_at_call 56; refine (text_new (sealB (sumN s)) w2 (seal_cells (sumN s))).mono ?_; rintro e w3 ⟨rfl, rfl⟩))
  go_ret
  exact ⟨congrArg (fun x => Ending.returned (Value.string x)) (str_append _ _), below_al hb2 _⟩
end Go.Proofs.Ytbmdodkgaehgnaa.Sm
