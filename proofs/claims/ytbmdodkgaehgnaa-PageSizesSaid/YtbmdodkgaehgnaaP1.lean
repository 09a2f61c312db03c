/- Numbers as bytes, the greatest byte first; bytes appended one by one. -/
import Derived.Test.YtbmdodkgaehgnaaS6
namespace Go.Proofs.Ytbmdodkgaehgnaa
open Go Go.RowKit Sm
attribute [local go_sem] Oper.semAt_some

def byteAt (v i : Nat) : UInt8 := (v / 256 ^ i).toUInt8
def putB (v n : Nat) : List UInt8 := (List.range n).map fun i => byteAt v (n - 1 - i)
@[simp] theorem putB_length (v n : Nat) : (putB v n).length = n := by simp [putB]
theorem putB_take (v n k : Nat) (hk : k < n) : (putB v n).take (k + 1) = (putB v n).take k ++ [byteAt v (n - 1 - k)] := by
  rw [List.take_succ_eq_append_getElem (by simpa using hk)]
  simp [putB]
def shl64 (a : Nat) (c : UInt8) : Nat := a * 256 % 18446744073709551616 + c.toNat
def getB (s : List UInt8) : Nat := s.foldl shl64 0
theorem getB_take (s : List UInt8) (k : Nat) (hk : k < s.length) : getB (s.take (k + 1)) = shl64 (getB (s.take k)) (s.getD k 0) := by
  unfold getB
  rw [List.take_succ_eq_append_getElem hk, List.foldl_append]
  simp [List.getD, hk]
theorem shl64_lt (a : Nat) (c : UInt8) : shl64 a c < 18446744073709551616 := by
  unfold shl64
  have := c.toNat_lt
  omega
theorem getB_lt (s : List UInt8) : getB s < 18446744073709551616 := by
  have : ∀ (s : List UInt8) (v : Nat), v < 18446744073709551616 → s.foldl shl64 v < 18446744073709551616 := by
    intro s
    induction s with
    | nil => exact fun v h => h
    | cons c s ih => exact fun v _ => ih _ (shl64_lt v c)
  exact this s 0 (by decide)

/-- Bytes that the call itself has made, as it goes on appending to them. -/
def OwnB (w : World) (base : Nat) (v : Value) (L : List UInt8) : Prop := w.ownsRow base 5 1 v L.length (u8s L)

theorem wpList_append_u8 {w : World} {ops : Array Oper} {rest : List Oper} {o : Oper} {a : Act} {Q : Exit → Act → World → Prop} (hgd : o.guard = none) (s x : Operand)
    (ho : o.op = .call { callee := .builtin .append, args := #[s, x], argTypes := #[32, 32] })
    (base : Nat) (v : Value) (L : List UInt8) (c : UInt8) (hs : a.eval s = v) (hown : OwnB w base v L) (ad : Addr) (hx : a.eval x = .slice (some ad) 1 1) (hc : w.cell? ad = some (.int .u8 c.toNat)) (hL : L.length ≤ 1000000) (hbase : base ≤ w.heap.size)
    (h : ∀ g cap w', OwnB w' base (.slice (some ⟨g, 0, none⟩) (L.length + 1 : Nat) cap) (L ++ [c]) → w.grownBy w' v.ownBlock → (v.ownBlock = some g ∨ g = w.heap.size) → g < w'.heap.size → wpList Try.prog ops Q rest (a.put o.dst (.slice (some ⟨g, 0, none⟩) (L.length + 1 : Nat) cap)) w') : wpList Try.prog ops Q (o :: rest) a w := by
  obtain ⟨i0, hi0, hz0, hz1, hz2⟩ := info_parts info_u8
  refine wpList_append_lies _ hgd s x 32 ho base 5 i0 _ 1 1 Try.underlying32 hi0 hz0 hz1 hz2 rfl (Nat.le_refl _) v L.length (u8s L) hs hown ad 1 1 [.int .u8 c.toNat] hx rfl ?_ ?_ (Nat.le_refl _) (by unfold maxLen; omega) (by omega) hbase _ rfl ?_
  · intro j u hj
    match j, hj with
    | 0, hj => simp at hj; subst hj; simpa [Addr.add] using hc
  · intro u hu; obtain rfl := List.mem_singleton.1 hu; rfl
  · intro g cap w' h1 h2 h3 h4
    refine h g cap w' ?_ h2 h3 h4
    unfold OwnB
    simpa [u8s, u8v] using h1
end Go.Proofs.Ytbmdodkgaehgnaa
