/- Numbers as bytes, the greatest byte first; bytes appended one by one. -/
import Derived.Test.YtokbmimbbeedcaaGreatDoorKS6
import Derived.Laws.BitsAllLaws
namespace Go.Proofs.YtokbmimbbeedcaaGreatDoor
open Go Go.RowKit Sm
attribute [local go_sem] Oper.semAt_some

def byteAt (v i : Nat) : UInt8 := (v / 256 ^ i).toUInt8
def putB (v n : Nat) : List UInt8 := (List.range n).map fun i => byteAt v (n - 1 - i)
@[simp] theorem putB_length (v n : Nat) : (putB v n).length = n := by simp [putB]
def shl64 (a : Nat) (c : UInt8) : Nat := a * 256 % 18446744073709551616 + c.toNat
def getB (s : List UInt8) : Nat := s.foldl shl64 0
theorem getB_take (s : List UInt8) (k : Nat) (hk : k < s.length) : getB (s.take (k + 1)) = shl64 (getB (s.take k)) (s.getD k 0) := by
  unfold getB
  rw [List.take_succ_eq_append_getElem hk, List.foldl_append]
  simp [List.getD, hk]
/-- Bytes that the call itself has made, as it goes on appending to them. -/
def OwnB (w : World) (base : Nat) (v : Value) (L : List UInt8) : Prop := w.ownsRow base 5 1 v L.length (u8s L)

theorem wpList_append_u8 {w : World} {ops : Array Oper} {rest : List Oper} {o : Oper} {a : Act} {Q : Exit → Act → World → Prop} (hgd : o.guard = none) (s x : Operand)
    (ho : o.op = .call { callee := .builtin .append, args := #[s, x], argTypes := #[244, 244] })
    (base : Nat) (v : Value) (L : List UInt8) (c : UInt8) (hs : a.eval s = v) (hown : OwnB w base v L) (ad : Addr) (hx : a.eval x = .slice (some ad) 1 1) (hc : w.cell? ad = some (.int .u8 c.toNat)) (hL : L.length ≤ 1000000) (hbase : base ≤ w.heap.size)
    (h : ∀ g cap w', OwnB w' base (.slice (some ⟨g, 0, none⟩) (L.length + 1 : Nat) cap) (L ++ [c]) → w.grownBy w' v.ownBlock → (v.ownBlock = some g ∨ g = w.heap.size) → g < w'.heap.size → wpList Tryz.prog ops Q rest (a.put o.dst (.slice (some ⟨g, 0, none⟩) (L.length + 1 : Nat) cap)) w') : wpList Tryz.prog ops Q (o :: rest) a w := by
  obtain ⟨i0, hi0, hz0, hz1, hz2⟩ := info_parts info_u8
  refine wpList_append_lies _ hgd s x 244 ho base 5 i0 _ 1 1 Tryz.underlying244 hi0 hz0 hz1 hz2 rfl (Nat.le_refl _) v L.length (u8s L) hs hown ad 1 1 [.int .u8 c.toNat] hx rfl ?_ ?_ (Nat.le_refl _) (by unfold maxLen; omega) (by omega) hbase _ rfl ?_
  · intro j u hj
    match j, hj with
    | 0, hj => simp at hj; subst hj; simpa [Addr.add] using hc
  · intro u hu; obtain rfl := List.mem_singleton.1 hu; rfl
  · intro g cap w' h1 h2 h3 h4
    refine h g cap w' ?_ h2 h3 h4
    unfold OwnB
    simpa [u8s, u8v] using h1
end Go.Proofs.YtokbmimbbeedcaaGreatDoor

/- The walk of written: numbers as bytes, one behind the other. -/
namespace Go.Proofs.YtokbmimbbeedcaaGreatDoor
open Go Go.RowKit Sm
attribute [local go_sem] Oper.semAt_some

def wrB (ns : List (Nat × Nat)) : List UInt8 := ns.flatMap fun x => putB x.2 x.1
theorem cell_alloc_one (w : World) (x : Value) (t : TypeId) : (w.alloc (.cells #[x] t)).cell? ⟨w.heap.size, 0, none⟩ = some x := by
  have := heap_alloc_new w (.cells #[x] t)
  unfold World.cell?
  rw [this]
  rfl
theorem own_lt {w : World} {base : Nat} {v : Value} {L : List UInt8} (h : OwnB w base v L) {j : Nat} (hj : v.ownBlock = some j) : base ≤ j ∧ j < w.heap.size := World.ownsRow.lt h j hj
theorem conv_own {w : World} {base : Nat} {v : Value} {L : List UInt8} (h : OwnB w base v L) : (convert 244 9 v).run Tryz.prog w = .ok (.string ⟨L.toArray⟩) w := by
  obtain ⟨h1, h2⟩ := h
  rcases h2 with ⟨rfl, h0⟩ | ⟨g, cap, cur, rfl, hg, hh, hn, hc, hs, ht⟩
  · obtain rfl : L = [] := List.eq_nil_of_length_eq_zero h0
    kernel_rfl
  · refine run_convert_u8s (P := Tryz.prog) w 244 9 5 Tryz.underlying244 Tryz.underlying5 Tryz.underlying9 g 0 cap L ?_
    have := rangeAt_whole (cur := cur.toList) (by simpa using hh) 0 L.length
    rw [Nat.mul_one] at ht
    rwa [List.drop_zero, ht] at this
end Go.Proofs.YtokbmimbbeedcaaGreatDoor

/- The walks of Right, cut, numbers. -/
namespace Go.Proofs.YtokbmimbbeedcaaGreatDoor
open Go Go.RowKit Sm
attribute [local go_sem] Oper.semAt_some

/-- A page: its kind, id, transaction, body. -/
structure Pg where
  kind : Int
  id : Nat
  tx : Nat
  body : List UInt8
def Pg.v (p : Pg) : Value := .agg #[.int .i64 p.kind, .int .u32 p.id, .int .u64 p.tx, .string ⟨p.body.toArray⟩]
structure Pg.Ok (p : Pg) : Prop where
  k1 : -9223372036854775808 ≤ p.kind
  k2 : p.kind ≤ 9223372036854775807
  id : p.id < 4294967296
  tx : p.tx < 18446744073709551616
  b : p.body.length ≤ 1000000
def Pg.right (p : Pg) : Bool := decide (1 ≤ p.kind ∧ p.kind ≤ 3 ∧ 2 ≤ p.id ∧ p.id < 16384 ∧ 1 ≤ p.tx ∧ p.body.length ≤ 237)
theorem Pg.right_iff (p : Pg) : p.right = true ↔ (1 ≤ p.kind ∧ p.kind ≤ 3 ∧ 2 ≤ p.id ∧ p.id < 16384 ∧ 1 ≤ p.tx ∧ p.body.length ≤ 237) := by simp [Pg.right]

def cutAt (from' n : Nat) : Nat := if n = 0 then 0 else from'
end Go.Proofs.YtokbmimbbeedcaaGreatDoor

/- Numbers and their bytes are one to one: reckoning. -/
namespace Go.Proofs.YtokbmimbbeedcaaGreatDoor
open Go Go.RowKit Sm

theorem shl64_pow (l : List UInt8) : ∀ (v k : Nat), v < 256 ^ k → l.foldl shl64 v < 256 ^ (k + l.length) := by
  induction l with
  | nil => intro v k h; simpa using h
  | cons c l ih =>
    intro v k h
    have hc := c.toNat_lt
    have h1 : shl64 v c < 256 ^ (k + 1) := by
      unfold shl64
      have h2 : v * 256 % 18446744073709551616 ≤ v * 256 := Nat.mod_le _ _
      have h3 : 256 ^ (k + 1) = 256 ^ k * 256 := Nat.pow_succ ..
      generalize 256 ^ k = p at *
      omega
    have := ih _ (k + 1) h1
    rw [List.length_cons, show k + (l.length + 1) = k + 1 + l.length by omega]
    exact this
theorem getB_pow (l : List UInt8) : getB l < 256 ^ l.length := by
  have := shl64_pow l 0 0 (by decide)
  rwa [Nat.zero_add] at this
theorem putB_succ (v n : Nat) : putB v (n + 1) = byteAt v n :: putB v n := by
  unfold putB
  rw [List.range_succ_eq_map, List.map_cons, List.map_map]
  congr 1
  apply List.map_congr_left
  intro i hi
  simp only [Function.comp_apply, Nat.succ_eq_add_one]
  congr 1
  omega
theorem putB_zero (v : Nat) : putB v 0 = [] := rfl

theorem foldl_putB (v : Nat) : ∀ (n acc : Nat), acc * 256 ^ n + 256 ^ n ≤ 18446744073709551616 → (putB v n).foldl shl64 acc = acc * 256 ^ n + v % 256 ^ n
  | 0, acc, _ => by simp [putB_zero, Nat.mod_one]
  | n + 1, acc, h => by
    have hp : 256 ^ (n + 1) = 256 ^ n * 256 := Nat.pow_succ ..
    have hpos : 0 < 256 ^ n := Nat.pow_pos (by decide)
    have hd : (byteAt v n).toNat = v / 256 ^ n % 256 := by simp [byteAt, Nat.toUInt8, UInt8.toNat_ofNat']
    have hlt : acc * 256 < 18446744073709551616 := by
      have h1 : acc * 256 ≤ acc * 256 ^ (n + 1) := Nat.mul_le_mul_left _ (by rw [hp]; exact Nat.le_mul_of_pos_left _ hpos)
      have h2 : 0 < 256 ^ (n + 1) := Nat.pow_pos (by decide)
      omega
    rw [putB_succ, List.foldl_cons]
    have e : shl64 acc (byteAt v n) = acc * 256 + v / 256 ^ n % 256 := by
      unfold shl64
      rw [hd, Nat.mod_eq_of_lt hlt]
    rw [e, foldl_putB v n]
    · rw [hp, Nat.mod_mul, Nat.add_mul, Nat.mul_assoc, Nat.mul_comm 256 (256 ^ n), Nat.mul_comm (v / 256 ^ n % 256)]
      omega
    · have hm : v / 256 ^ n % 256 ≤ 255 := by omega
      have : (acc * 256 + v / 256 ^ n % 256) * 256 ^ n + 256 ^ n ≤ (acc * 256 + 255) * 256 ^ n + 256 ^ n := Nat.add_le_add_right (Nat.mul_le_mul_right _ (by omega)) _
      have e2 : (acc * 256 + 255) * 256 ^ n + 256 ^ n = acc * 256 ^ (n + 1) + 256 ^ (n + 1) := by
        rw [hp, Nat.add_mul, Nat.mul_assoc, Nat.mul_comm 256 (256 ^ n)]
        omega
      omega
theorem getB_putB (v n : Nat) (hn : n ≤ 8) (hv : v < 256 ^ n) : getB (putB v n) = v := by
  unfold getB
  have h8 : 256 ^ n ≤ 256 ^ 8 := Nat.pow_le_pow_right (by decide) hn
  have e8 : (256 : Nat) ^ 8 = 18446744073709551616 := rfl
  rw [foldl_putB v n 0 (by omega), Nat.zero_mul, Nat.zero_add, Nat.mod_eq_of_lt hv]
end Go.Proofs.YtokbmimbbeedcaaGreatDoor
