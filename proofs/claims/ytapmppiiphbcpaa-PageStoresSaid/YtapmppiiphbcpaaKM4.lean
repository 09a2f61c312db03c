/- The walks of word, told: the meta that a sector's bytes tell of. -/
import Derived.Test.YtapmppiiphbcpaaKM3
import Derived.Test.YtapmppiiphbcpaaKPA
import Derived.Test.YtapmppiiphbcpaaKP7
namespace Go.Proofs.Ytapmppiiphbcpaa
open Go Go.RowKit Sm
attribute [local go_sem] Oper.semAt_some

def w32v (a b c d : Nat) : Nat := a * 16777216 + b * 65536 + c * 256 + d
def w32 (a b c d : UInt8) : Nat := w32v a.toNat b.toNat c.toNat d.toNat
theorem w32_lt (a b c d : UInt8) : w32 a b c d < 4294967296 := by
  unfold w32 w32v; have := a.toNat_lt; have := b.toNat_lt; have := c.toNat_lt; have := d.toNat_lt; omega
theorem or_shift (A B : Nat) (k : Nat) (hB : B < 2 ^ k) : A * 2 ^ k ||| B = A * 2 ^ k + B := by
  rw [Nat.mul_comm, Nat.two_pow_add_eq_or_of_lt (i := k) hB]
theorem or4 (a b c d : UInt8) : bits BinOp.or IntKind.u32 (bits BinOp.or IntKind.u32 (bits BinOp.or IntKind.u32 ((a.toNat : Int) % 4294967296 * 16777216 % 4294967296) ((b.toNat : Int) % 4294967296 * 65536 % 4294967296)) ((c.toNat : Int) % 4294967296 * 256 % 4294967296)) ((d.toNat : Int) % 4294967296) = ((w32 a b c d : Nat) : Int) := by
  unfold w32
  have ha := a.toNat_lt
  have hb := b.toNat_lt
  have hc := c.toNat_lt
  have hd := d.toNat_lt
  generalize a.toNat = a at *
  generalize b.toNat = b at *
  generalize c.toNat = c at *
  generalize d.toNat = d at *
  have e1 : (a : Int) % 4294967296 * 16777216 % 4294967296 = ((a * 2 ^ 24 : Nat) : Int) := by omega
  have e2 : (b : Int) % 4294967296 * 65536 % 4294967296 = ((b * 2 ^ 16 : Nat) : Int) := by omega
  have e3 : (c : Int) % 4294967296 * 256 % 4294967296 = ((c * 2 ^ 8 : Nat) : Int) := by omega
  have e4 : (d : Int) % 4294967296 = (d : Int) := by omega
  rw [e1, e2, e3, e4, u32_or_nat _ _ (by omega) (by omega), or_shift a _ 24 (by omega), u32_or_nat _ _ (by omega) (by omega)]
  rw [show a * 2 ^ 24 + b * 2 ^ 16 = (a * 2 ^ 8 + b) * 2 ^ 16 by omega, or_shift _ _ 16 (by omega), u32_or_nat _ _ (by omega) (by omega)]
  rw [show (a * 2 ^ 8 + b) * 2 ^ 16 + c * 2 ^ 8 = ((a * 2 ^ 8 + b) * 2 ^ 8 + c) * 2 ^ 8 by omega, or_shift _ _ 8 (by omega)]
  unfold w32v
  exact congrArg _ (by omega)

theorem getB_four (a b c d : UInt8) : getB [a, b, c, d] = w32 a b c d := by
  have := a.toNat_lt; have := b.toNat_lt; have := c.toNat_lt; have := d.toNat_lt
  unfold w32 w32v
  simp [getB, shl64]
  omega
theorem take_four (s : List UInt8) (at' : Nat) (h : at' + 4 ≤ s.length) : (s.drop at').take 4 = [s.getD at' 0, s.getD (at' + 1) 0, s.getD (at' + 2) 0, s.getD (at' + 3) 0] := by
  apply List.ext_getElem?
  intro i
  by_cases hi : i < 4
  · have : i = 0 ∨ i = 1 ∨ i = 2 ∨ i = 3 := by omega
    rcases this with rfl | rfl | rfl | rfl <;> simp [List.getElem?_drop, List.getD] <;> (rw [List.getElem?_eq_getElem (by omega)]; rfl)
  · rw [List.getElem?_eq_none (by simp; omega), List.getElem?_eq_none (by simp; omega)]

theorem index_at (s : List UInt8) (i : Nat) (h : i < s.length) (z : Int) (hz : z = i) (W : World) : (Instr.index 9 (.string ⟨s.toArray⟩) (.int .i64 z)).run Try.prog W = .ok (.int .u8 (s.getD i 0).toNat) W := by
  subst hz
  rw [run_index_string _ _ _ _ _ Try.underlying9]
  have h' : (0 : Int) ≤ (i : Int) ∧ (i : Int) < ((⟨s.toArray⟩ : ByteArray).size : Int) := by simp only [ByteArray.size, List.size_toArray]; omega
  rw [dif_pos h']
  have e : (⟨s.toArray⟩ : ByteArray)[(i : Int).toNat]'(by simpa [ByteArray.size] using h) = s.getD i 0 := by
    simp [List.getD, h]
    rfl
  rw [e]

/-- The meta that bytes tell of. -/
def Mt.of (s : List UInt8) : Mt := ⟨getB (s.take 8), getB ((s.drop 8).take 4), getB ((s.drop 12).take 4), getB ((s.drop 16).take 4)⟩
theorem Mt.of_ok (s : List UInt8) : (Mt.of s).Ok := by
  have h : ∀ l : List UInt8, l.length ≤ 4 → getB l < 4294967296 := fun l hl => by
    have := getB_pow l
    have h2 : 256 ^ l.length ≤ 256 ^ 4 := Nat.pow_le_pow_right (by decide) hl
    have h3 : (256 : Nat) ^ 4 = 4294967296 := rfl
    omega
  exact ⟨getB_lt _, h _ (by simp; omega), h _ (by simp; omega), h _ (by simp; omega)⟩
theorem getB_eight (a b c d e f g h : UInt8) : getB [a, b, c, d, e, f, g, h] = w32 a b c d * 4294967296 + w32 e f g h := by
  have := a.toNat_lt; have := b.toNat_lt; have := c.toNat_lt; have := d.toNat_lt
  have := e.toNat_lt; have := f.toNat_lt; have := g.toNat_lt; have := h.toNat_lt
  unfold w32 w32v
  simp only [getB, List.foldl_cons, List.foldl_nil, shl64]
  omega
theorem getB_take8 (s : List UInt8) (h : 8 ≤ s.length) : getB (s.take 8) = getB ((s.drop 0).take 4) * 4294967296 + getB ((s.drop 4).take 4) := by
  have e : s.take 8 = (s.drop 0).take 4 ++ (s.drop 4).take 4 := by
    rw [List.drop_zero, show 8 = 4 + 4 from rfl, List.take_add]
  rw [e, take_four s 0 (by omega), take_four s 4 (by omega), getB_four, getB_four]
  exact getB_eight _ _ _ _ _ _ _ _
theorem or64 (a b : Nat) (ha : a < 4294967296) (hb : b < 4294967296) : bits BinOp.or IntKind.u64 ((a : Int) * 4294967296) (b : Int) = ((a * 4294967296 + b : Nat) : Int) := by
  have e : (a : Int) * 4294967296 = ((a * 2 ^ 32 : Nat) : Int) := by omega
  rw [e, u64_or_nat _ _ (by omega) (by omega), or_shift a b 32 (by omega)]

end Go.Proofs.Ytapmppiiphbcpaa

/- The walk of Decode of a meta. -/
namespace Go.Proofs.Ytapmppiiphbcpaa
open Go Go.RowKit Sm
attribute [local go_sem] Oper.semAt_some

def Mt.zero : Mt := ⟨0, 0, 0, 0⟩
def isMt (s : List UInt8) : Bool := decide (s.length = 64) && (Mt.of s).right && decide ((Mt.of s).enc = s)
def mtOf (s : List UInt8) : Mt := if isMt s then Mt.of s else Mt.zero
def decM (s : List UInt8) : Value := .tuple #[(mtOf s).v, .int .i64 (if isMt s then 0 else 40)]

theorem set4_ne {w : World} {g k : Nat} {x : Option Obj} (h : w.heap[k]? = x) (hk : k ≠ g) (v0 v1 v2 v3 : Value) :
    ((((w.setCell ⟨g, 0, none⟩ v0).setCell ⟨g, 1, none⟩ v1).setCell ⟨g, 2, none⟩ v2).setCell ⟨g, 3, none⟩ v3).heap[k]? = x := by
  rw [Below.heap_setCell _ _ _ _ hk, Below.heap_setCell _ _ _ _ hk, Below.heap_setCell _ _ _ _ hk, Below.heap_setCell _ _ _ _ hk, h]

end Go.Proofs.Ytapmppiiphbcpaa

/- The document's own metas: Right, Encode. -/
namespace Go.Proofs.Ytapmppiiphbcpaa
open Go Go.RowKit Sm
attribute [local go_sem] Oper.semAt_some

end Go.Proofs.Ytapmppiiphbcpaa

/- The document's own metas: Encode. -/
namespace Go.Proofs.Ytapmppiiphbcpaa
open Go Go.RowKit Sm
attribute [local go_sem] Oper.semAt_some

/-- A meta in its box. -/
def MBox (b : Nat) (t a h f : Int) (W : World) : Prop := W.cell? ⟨b, 0, none⟩ = some (.int .u64 t) ∧ W.cell? ⟨b, 1, none⟩ = some (.int .u32 a) ∧ W.cell? ⟨b, 2, none⟩ = some (.int .u32 h) ∧ W.cell? ⟨b, 3, none⟩ = some (.int .u32 f)
theorem MBox.new (w : World) (t a h f : Int) (T : TypeId) : MBox w.heap.size t a h f (w.alloc (.cells #[.int .u64 t, .int .u32 a, .int .u32 h, .int .u32 f] T)) := by
  have h := heap_alloc_new w (.cells [.int .u64 t, .int .u32 a, .int .u32 h, .int .u32 f].toArray T)
  exact ⟨cell_whole h 0, cell_whole h 1, cell_whole h 2, cell_whole h 3⟩
theorem MBox.below {b : Nat} {t a h f : Int} {W W' : World} (k : MBox b t a h f W) (hb : Below W.heap.size W W') (hlt : b < W.heap.size) : MBox b t a h f W' :=
  ⟨(hb.cell hlt).trans k.1, (hb.cell hlt).trans k.2.1, (hb.cell hlt).trans k.2.2.1, (hb.cell hlt).trans k.2.2.2⟩

/-- Bytes 0 at a block. -/
def ZAt (Z : Array Value) (W : World) (g : Nat) : Prop := g < W.heap.size ∧ W.heap[g]? = some (.cells Z 5 (0, 0))
theorem zat_new {Z : Array Value} {X W : World} (h : Below (X.alloc (.cells Z 5)).heap.size (X.alloc (.cells Z 5)) W) : ZAt Z W X.heap.size := by
  have h1 : X.heap.size < (X.alloc (.cells Z 5)).heap.size := by simp
  exact ⟨Nat.lt_of_lt_of_le h1 h.size, (h.block _ h1).trans (heap_alloc_new _ _)⟩
theorem zat_drew {Z : Array Value} {X W : World} (h : Below (X.alloc (.cells Z 5)).drew.heap.size (X.alloc (.cells Z 5)).drew W) : ZAt Z W X.heap.size := by
  have h1 : X.heap.size < (X.alloc (.cells Z 5)).heap.size := by simp
  exact ⟨Nat.lt_of_lt_of_le h1 h.size, (h.block _ h1).trans (heap_alloc_new _ _)⟩
theorem zat_next {Z : Array Value} {X W : World} {g : Nat} (h : ZAt Z X g) (k : Below X.heap.size X W) : ZAt Z W g := ⟨Nat.lt_of_lt_of_le h.1 k.size, (k.block _ h.1).trans h.2⟩
set_option maxRecDepth 20000 in
theorem conv_zat (m : Nat) {W : World} {g : Nat} (h : ZAt (List.replicate m (Value.int .u8 0)).toArray W g) : (convert 104 9 (.slice (some ⟨g, 0, none⟩) m m)).run Try.prog W = .ok (.string ⟨(List.replicate m (0 : UInt8)).toArray⟩) W := by
  have hu : List.replicate m (Value.int .u8 0) = u8s (List.replicate m 0) := by simp [u8s, u8v]
  have := run_convert_u8s (P := Try.prog) W 104 9 5 Try.underlying104 Try.underlying5 Try.underlying9 g 0 m (List.replicate m 0) (by
    have := rangeAt_whole (w := W) (b := g) (cur := u8s (List.replicate m 0)) (by rw [← hu]; exact h.2) 0 (u8s (List.replicate m 0)).length
    rwa [List.drop_zero, List.take_length] at this)
  rw [List.length_replicate] at this
  exact this

end Go.Proofs.Ytapmppiiphbcpaa
