/- The walks of Sum, More, Join, Seal. -/
import Derived.ScopeJumps
import Derived.Test.YtaolhhgfnhhgaaaKS5
namespace Go.Proofs.Ytaolhhgfnhhgaaa.Sm
open Go Go.RowKit

/-- A scope with gotos ahead alone: where the run jumps, the rest behind the label is walked. -/
def Ahead (P : Program) (rest : Code) (Q : Exit → Act → World → Prop) (a : Act) (w : World) : Prop := rest.wp P (Exit.noGoto Q) a w
theorem wp_scope_ahead {P : Program} {a : Act} {w : World} {Q : Exit → Act → World → Prop} {c rest : Code} (l : Nat) (hf : findLabel c l = some rest) (h : c.wp P (Exit.jump l (Ahead P rest Q) Q) a w) : (Code.scope c).wp P Q a w :=
  wp_scope_jumps l (Ahead P rest Q) (fun _ _ => 0) hf h fun a w hj => Code.wp_mono (fun e a w q => by cases e <;> first | exact q | exact q.elim) hj
theorem jump_goto {P : Program} {a : Act} {w : World} {Q : Exit → Act → World → Prop} {rest : Code} {l : Nat} (h : rest.wp P (Exit.noGoto Q) a w) : Exit.jump l (Ahead P rest Q) Q (.goto l) a w := ⟨rfl, h⟩
theorem jump_ret {a : Act} {w : World} {Q : Exit → Act → World → Prop} {J : Act → World → Prop} {l : Nat} (h : Q .ret a w) : Exit.jump l J Q .ret a w := h
attribute [local go_sem] Oper.semAt_some

def wholeN (h : Nat × Nat) : Nat := h.2 * 65536 + h.1
def sumN (s : List UInt8) : Nat := wholeN (addS (1, 0) s)
theorem sum_lt (s : List UInt8) : (addS (1, 0) s).1 < 65521 ∧ (addS (1, 0) s).2 < 65521 := addS_lt s (1, 0) ⟨by decide, by decide⟩
def moreN (n : Nat) (s : List UInt8) : Nat := wholeN (addS (n % 65536, n / 65536) s)
def joinN (a b n : Nat) : Nat := wholeN (joinH (a % 65536, a / 65536) (b % 65536, b / 65536) n)

/-- The answer of More. -/
def moreR (n : Nat) (s : List UInt8) : Value := if okS n then .tuple #[u32v (moreN n s), .int .i64 0] else .tuple #[.int .u32 0, .int .i64 2]

/-- The answer of Join. -/
def joinR (a b : Nat) (n : Int) : Value := if okS a && okS b && decide (0 ≤ n) && decide (n ≤ 1048576) then .tuple #[u32v (joinN a b n.toNat), .int .i64 0] else .tuple #[.int .u32 0, .int .i64 2]

theorem mod_lt_p (n : Nat) : n % 65521 < 65536 := by omega

/-- A sum's four bytes. -/
def sealB (n : Nat) : List UInt8 := [(n / 16777216).toUInt8, (n / 65536).toUInt8, (n / 256).toUInt8, n.toUInt8]

theorem seal_cells (n : Nat) : [Value.int IntKind.u8 ((n : Int) / 16777216 % 256), Value.int IntKind.u8 ((n : Int) / 65536 % 256), Value.int IntKind.u8 ((n : Int) / 256 % 256), Value.int IntKind.u8 ((n : Int) % 256)] = u8s (sealB n) := by
  simp [u8s, sealB, u8v, Nat.toUInt8, UInt8.toNat_ofNat']
theorem str_append (s t : List UInt8) : (⟨s.toArray⟩ : ByteArray) ++ ⟨t.toArray⟩ = ⟨(s ++ t).toArray⟩ := by
  apply ByteArray.ext
  simp [ByteArray.data_append]

end Go.Proofs.Ytaolhhgfnhhgaaa.Sm

/- Numbers as bytes, the greatest byte first; bytes appended one by one. -/
namespace Go.Proofs.Ytaolhhgfnhhgaaa
open Go Go.RowKit Sm
attribute [local go_sem] Oper.semAt_some

def byteAt (v i : Nat) : UInt8 := (v / 256 ^ i).toUInt8
def putB (v n : Nat) : List UInt8 := (List.range n).map fun i => byteAt v (n - 1 - i)
@[simp] theorem putB_length (v n : Nat) : (putB v n).length = n := by simp [putB]
theorem putB_take (v n k : Nat) (hk : k < n) : (putB v n).take (k + 1) = (putB v n).take k ++ [byteAt v (n - 1 - k)] := by
  rw [List.take_succ_eq_append_getElem (by simpa using hk)]
  simp [putB]
def shl64 (a : Nat) (c : UInt8) : Nat := a * 256 % 18446744073709551616 + c.toNat
def getB (s : List UInt8) : Nat := s.foldl shl64 0
theorem getB_take (s : List UInt8) (k : Nat) (hk : k < s.length) : getB (s.take (k + 1)) = shl64 (getB (s.take k)) (s.getD k 0) := by
  unfold getB
  rw [List.take_succ_eq_append_getElem hk, List.foldl_append]
  simp [List.getD, hk]
theorem shl64_lt (a : Nat) (c : UInt8) : shl64 a c < 18446744073709551616 := by
  unfold shl64
  have := c.toNat_lt
  omega
theorem getB_lt (s : List UInt8) : getB s < 18446744073709551616 := by
  have : ∀ (s : List UInt8) (v : Nat), v < 18446744073709551616 → s.foldl shl64 v < 18446744073709551616 := by
    intro s
    induction s with
    | nil => exact fun v h => h
    | cons c s ih => exact fun v _ => ih _ (shl64_lt v c)
  exact this s 0 (by decide)

/-- Bytes that the call itself has made, as it goes on appending to them. -/
def OwnB (w : World) (base : Nat) (v : Value) (L : List UInt8) : Prop := w.ownsRow base 5 1 v L.length (u8s L)

theorem wpList_append_u8 {w : World} {ops : Array Oper} {rest : List Oper} {o : Oper} {a : Act} {Q : Exit → Act → World → Prop} (hgd : o.guard = none) (s x : Operand)
    (ho : o.op = .call { callee := .builtin .append, args := #[s, x], argTypes := #[46, 46] })
    (base : Nat) (v : Value) (L : List UInt8) (c : UInt8) (hs : a.eval s = v) (hown : OwnB w base v L) (ad : Addr) (hx : a.eval x = .slice (some ad) 1 1) (hc : w.cell? ad = some (.int .u8 c.toNat)) (hL : L.length ≤ 1000000) (hbase : base ≤ w.heap.size)
    (h : ∀ g cap w', OwnB w' base (.slice (some ⟨g, 0, none⟩) (L.length + 1 : Nat) cap) (L ++ [c]) → w.grownBy w' v.ownBlock → (v.ownBlock = some g ∨ g = w.heap.size) → g < w'.heap.size → wpList Try.prog ops Q rest (a.put o.dst (.slice (some ⟨g, 0, none⟩) (L.length + 1 : Nat) cap)) w') : wpList Try.prog ops Q (o :: rest) a w := by
  obtain ⟨i0, hi0, hz0, hz1, hz2⟩ := info_parts info_u8
  refine wpList_append_lies _ hgd s x 46 ho base 5 i0 _ 1 1 Try.underlying46 hi0 hz0 hz1 hz2 rfl (Nat.le_refl _) v L.length (u8s L) hs hown ad 1 1 [.int .u8 c.toNat] hx rfl ?_ ?_ (Nat.le_refl _) (by unfold maxLen; omega) (by omega) hbase _ rfl ?_
  · intro j u hj
    match j, hj with
    | 0, hj => simp at hj; subst hj; simpa [Addr.add] using hc
  · intro u hu; obtain rfl := List.mem_singleton.1 hu; rfl
  · intro g cap w' h1 h2 h3 h4
    refine h g cap w' ?_ h2 h3 h4
    unfold OwnB
    simpa [u8s, u8v] using h1
end Go.Proofs.Ytaolhhgfnhhgaaa

/- Numbers and their bytes are one to one: reckoning. -/
namespace Go.Proofs.Ytaolhhgfnhhgaaa
open Go Go.RowKit Sm

theorem shl64_pow (l : List UInt8) : ∀ (v k : Nat), v < 256 ^ k → l.foldl shl64 v < 256 ^ (k + l.length) := by
  induction l with
  | nil => intro v k h; simpa using h
  | cons c l ih =>
    intro v k h
    have hc := c.toNat_lt
    have h1 : shl64 v c < 256 ^ (k + 1) := by
      unfold shl64
      have h2 : v * 256 % 18446744073709551616 ≤ v * 256 := Nat.mod_le _ _
      have h3 : 256 ^ (k + 1) = 256 ^ k * 256 := Nat.pow_succ ..
      generalize 256 ^ k = p at *
      omega
    have := ih _ (k + 1) h1
    rw [List.length_cons, show k + (l.length + 1) = k + 1 + l.length by omega]
    exact this
theorem getB_pow (l : List UInt8) : getB l < 256 ^ l.length := by
  have := shl64_pow l 0 0 (by decide)
  rwa [Nat.zero_add] at this
theorem putB_succ (v n : Nat) : putB v (n + 1) = byteAt v n :: putB v n := by
  unfold putB
  rw [List.range_succ_eq_map, List.map_cons, List.map_map]
  congr 1
  apply List.map_congr_left
  intro i hi
  simp only [Function.comp_apply, Nat.succ_eq_add_one]
  congr 1
  omega
theorem putB_zero (v : Nat) : putB v 0 = [] := rfl

theorem foldl_putB (v : Nat) : ∀ (n acc : Nat), acc * 256 ^ n + 256 ^ n ≤ 18446744073709551616 → (putB v n).foldl shl64 acc = acc * 256 ^ n + v % 256 ^ n
  | 0, acc, _ => by simp [putB_zero, Nat.mod_one]
  | n + 1, acc, h => by
    have hp : 256 ^ (n + 1) = 256 ^ n * 256 := Nat.pow_succ ..
    have hpos : 0 < 256 ^ n := Nat.pow_pos (by decide)
    have hd : (byteAt v n).toNat = v / 256 ^ n % 256 := by simp [byteAt, Nat.toUInt8, UInt8.toNat_ofNat']
    have hlt : acc * 256 < 18446744073709551616 := by
      have h1 : acc * 256 ≤ acc * 256 ^ (n + 1) := Nat.mul_le_mul_left _ (by rw [hp]; exact Nat.le_mul_of_pos_left _ hpos)
      have h2 : 0 < 256 ^ (n + 1) := Nat.pow_pos (by decide)
      omega
    rw [putB_succ, List.foldl_cons]
    have e : shl64 acc (byteAt v n) = acc * 256 + v / 256 ^ n % 256 := by
      unfold shl64
      rw [hd, Nat.mod_eq_of_lt hlt]
    rw [e, foldl_putB v n]
    · rw [hp, Nat.mod_mul, Nat.add_mul, Nat.mul_assoc, Nat.mul_comm 256 (256 ^ n), Nat.mul_comm (v / 256 ^ n % 256)]
      omega
    · have hm : v / 256 ^ n % 256 ≤ 255 := by omega
      have : (acc * 256 + v / 256 ^ n % 256) * 256 ^ n + 256 ^ n ≤ (acc * 256 + 255) * 256 ^ n + 256 ^ n := Nat.add_le_add_right (Nat.mul_le_mul_right _ (by omega)) _
      have e2 : (acc * 256 + 255) * 256 ^ n + 256 ^ n = acc * 256 ^ (n + 1) + 256 ^ (n + 1) := by
        rw [hp, Nat.add_mul, Nat.mul_assoc, Nat.mul_comm 256 (256 ^ n)]
        omega
      omega
theorem getB_putB (v n : Nat) (hn : n ≤ 8) (hv : v < 256 ^ n) : getB (putB v n) = v := by
  unfold getB
  have h8 : 256 ^ n ≤ 256 ^ 8 := Nat.pow_le_pow_right (by decide) hn
  have e8 : (256 : Nat) ^ 8 = 18446744073709551616 := rfl
  rw [foldl_putB v n 0 (by omega), Nat.zero_mul, Nat.zero_add, Nat.mod_eq_of_lt hv]
theorem putB_snoc (v n : Nat) : putB v (n + 1) = putB (v / 256) n ++ [byteAt v 0] := by
  unfold putB
  rw [List.range_succ, List.map_append, List.map_singleton, Nat.add_sub_cancel, Nat.sub_self]
  congr 1
  refine List.map_congr_left fun i hi => ?_
  have hi := List.mem_range.1 hi
  unfold byteAt
  rw [Nat.div_div_eq_div_mul, ← Nat.pow_succ', show (n - 1 - i).succ = n - i by omega]
theorem putB_getB (s : List UInt8) (h : s.length ≤ 8) : putB (getB s) s.length = s := by
  induction hn : s.length generalizing s with
  | zero => rw [List.eq_nil_of_length_eq_zero hn]; rfl
  | succ n ih =>
    have hne : s ≠ [] := by rintro rfl; simp at hn
    obtain ⟨t, c, rfl⟩ : ∃ t c, s = t ++ [c] := ⟨s.dropLast, s.getLast hne, (List.dropLast_concat_getLast hne).symm⟩
    simp only [List.length_append, List.length_cons, List.length_nil] at hn h
    have hp := getB_pow t
    have h7 : 256 ^ t.length ≤ 256 ^ 7 := Nat.pow_le_pow_right (by decide) (by omega)
    have e7 : (256 : Nat) ^ 7 = 72057594037927936 := rfl
    have hc := c.toNat_lt
    have e : getB (t ++ [c]) = getB t * 256 + c.toNat := by
      unfold getB
      rw [List.foldl_append]
      show shl64 (getB t) c = _
      unfold shl64
      rw [Nat.mod_eq_of_lt (by omega)]
      rfl
    rw [putB_snoc, e, show (getB t * 256 + c.toNat) / 256 = getB t by omega, ih t (by omega) (by omega)]
    congr 2
    unfold byteAt
    rw [Nat.pow_zero, Nat.div_one]
    apply UInt8.toNat_inj.1
    simp only [Nat.toUInt8, UInt8.toNat_ofNat']
    omega
end Go.Proofs.Ytaolhhgfnhhgaaa
