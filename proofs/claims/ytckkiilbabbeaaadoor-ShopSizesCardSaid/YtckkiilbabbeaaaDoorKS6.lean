/- The walks of Sum, More, Join, Seal. -/
import Derived.ScopeJumps
import Derived.Test.YtckkiilbabbeaaaDoorKS5
namespace Go.Proofs.YtckkiilbabbeaaaDoor.Sm
open Go Go.RowKit

/-- A scope with gotos ahead alone: where the run jumps, the rest behind the label is walked. -/
def Ahead (P : Program) (rest : Code) (Q : Exit → Act → World → Prop) (a : Act) (w : World) : Prop := rest.wp P (Exit.noGoto Q) a w
theorem wp_scope_ahead {P : Program} {a : Act} {w : World} {Q : Exit → Act → World → Prop} {c rest : Code} (l : Nat) (hf : findLabel c l = some rest) (h : c.wp P (Exit.jump l (Ahead P rest Q) Q) a w) : (Code.scope c).wp P Q a w :=
  wp_scope_jumps l (Ahead P rest Q) (fun _ _ => 0) hf h fun a w hj => Code.wp_mono (fun e a w q => by cases e <;> first | exact q | exact q.elim) hj
theorem jump_goto {P : Program} {a : Act} {w : World} {Q : Exit → Act → World → Prop} {rest : Code} {l : Nat} (h : rest.wp P (Exit.noGoto Q) a w) : Exit.jump l (Ahead P rest Q) Q (.goto l) a w := ⟨rfl, h⟩
theorem jump_ret {a : Act} {w : World} {Q : Exit → Act → World → Prop} {J : Act → World → Prop} {l : Nat} (h : Q .ret a w) : Exit.jump l J Q .ret a w := h
attribute [local go_sem] Oper.semAt_some

def wholeN (h : Nat × Nat) : Nat := h.2 * 65536 + h.1
def sumN (s : List UInt8) : Nat := wholeN (addS (1, 0) s)
theorem sum_lt (s : List UInt8) : (addS (1, 0) s).1 < 65521 ∧ (addS (1, 0) s).2 < 65521 := addS_lt s (1, 0) ⟨by decide, by decide⟩
def moreN (n : Nat) (s : List UInt8) : Nat := wholeN (addS (n % 65536, n / 65536) s)
def joinN (a b n : Nat) : Nat := wholeN (joinH (a % 65536, a / 65536) (b % 65536, b / 65536) n)

/-- The answer of More. -/
def moreR (n : Nat) (s : List UInt8) : Value := if okS n then .tuple #[u32v (moreN n s), .int .i64 0] else .tuple #[.int .u32 0, .int .i64 2]

/-- The answer of Join. -/
def joinR (a b : Nat) (n : Int) : Value := if okS a && okS b && decide (0 ≤ n) && decide (n ≤ 1048576) then .tuple #[u32v (joinN a b n.toNat), .int .i64 0] else .tuple #[.int .u32 0, .int .i64 2]

theorem mod_lt_p (n : Nat) : n % 65521 < 65536 := by omega

/-- A sum's four bytes. -/
def sealB (n : Nat) : List UInt8 := [(n / 16777216).toUInt8, (n / 65536).toUInt8, (n / 256).toUInt8, n.toUInt8]

theorem seal_cells (n : Nat) : [Value.int IntKind.u8 ((n : Int) / 16777216 % 256), Value.int IntKind.u8 ((n : Int) / 65536 % 256), Value.int IntKind.u8 ((n : Int) / 256 % 256), Value.int IntKind.u8 ((n : Int) % 256)] = u8s (sealB n) := by
  simp [u8s, sealB, u8v, Nat.toUInt8, UInt8.toNat_ofNat']
theorem str_append (s t : List UInt8) : (⟨s.toArray⟩ : ByteArray) ++ ⟨t.toArray⟩ = ⟨(s ++ t).toArray⟩ := by
  apply ByteArray.ext
  simp [ByteArray.data_append]

end Go.Proofs.YtckkiilbabbeaaaDoor.Sm

/- Numbers as bytes, the greatest byte first; bytes appended one by one. -/
namespace Go.Proofs.YtckkiilbabbeaaaDoor
open Go Go.RowKit Sm
attribute [local go_sem] Oper.semAt_some

def byteAt (v i : Nat) : UInt8 := (v / 256 ^ i).toUInt8
def putB (v n : Nat) : List UInt8 := (List.range n).map fun i => byteAt v (n - 1 - i)
@[simp] theorem putB_length (v n : Nat) : (putB v n).length = n := by simp [putB]
theorem putB_take (v n k : Nat) (hk : k < n) : (putB v n).take (k + 1) = (putB v n).take k ++ [byteAt v (n - 1 - k)] := by
  rw [List.take_succ_eq_append_getElem (by simpa using hk)]
  simp [putB]
def shl64 (a : Nat) (c : UInt8) : Nat := a * 256 % 18446744073709551616 + c.toNat
def getB (s : List UInt8) : Nat := s.foldl shl64 0
theorem getB_take (s : List UInt8) (k : Nat) (hk : k < s.length) : getB (s.take (k + 1)) = shl64 (getB (s.take k)) (s.getD k 0) := by
  unfold getB
  rw [List.take_succ_eq_append_getElem hk, List.foldl_append]
  simp [List.getD, hk]
theorem shl64_lt (a : Nat) (c : UInt8) : shl64 a c < 18446744073709551616 := by
  unfold shl64
  have := c.toNat_lt
  omega
theorem getB_lt (s : List UInt8) : getB s < 18446744073709551616 := by
  have : ∀ (s : List UInt8) (v : Nat), v < 18446744073709551616 → s.foldl shl64 v < 18446744073709551616 := by
    intro s
    induction s with
    | nil => exact fun v h => h
    | cons c s ih => exact fun v _ => ih _ (shl64_lt v c)
  exact this s 0 (by decide)

/-- Bytes that the call itself has made, as it goes on appending to them. -/
def OwnB (w : World) (base : Nat) (v : Value) (L : List UInt8) : Prop := w.ownsRow base 5 1 v L.length (u8s L)

theorem wpList_append_u8 {w : World} {ops : Array Oper} {rest : List Oper} {o : Oper} {a : Act} {Q : Exit → Act → World → Prop} (hgd : o.guard = none) (s x : Operand)
    (ho : o.op = .call { callee := .builtin .append, args := #[s, x], argTypes := #[55, 55] })
    (base : Nat) (v : Value) (L : List UInt8) (c : UInt8) (hs : a.eval s = v) (hown : OwnB w base v L) (ad : Addr) (hx : a.eval x = .slice (some ad) 1 1) (hc : w.cell? ad = some (.int .u8 c.toNat)) (hL : L.length ≤ 1000000) (hbase : base ≤ w.heap.size)
    (h : ∀ g cap w', OwnB w' base (.slice (some ⟨g, 0, none⟩) (L.length + 1 : Nat) cap) (L ++ [c]) → w.grownBy w' v.ownBlock → (v.ownBlock = some g ∨ g = w.heap.size) → g < w'.heap.size → wpList Tryd.prog ops Q rest (a.put o.dst (.slice (some ⟨g, 0, none⟩) (L.length + 1 : Nat) cap)) w') : wpList Tryd.prog ops Q (o :: rest) a w := by
  obtain ⟨i0, hi0, hz0, hz1, hz2⟩ := info_parts info_u8
  refine wpList_append_lies _ hgd s x 55 ho base 5 i0 _ 1 1 Tryd.underlying55 hi0 hz0 hz1 hz2 rfl (Nat.le_refl _) v L.length (u8s L) hs hown ad 1 1 [.int .u8 c.toNat] hx rfl ?_ ?_ (Nat.le_refl _) (by unfold maxLen; omega) (by omega) hbase _ rfl ?_
  · intro j u hj
    match j, hj with
    | 0, hj => simp at hj; subst hj; simpa [Addr.add] using hc
  · intro u hu; obtain rfl := List.mem_singleton.1 hu; rfl
  · intro g cap w' h1 h2 h3 h4
    refine h g cap w' ?_ h2 h3 h4
    unfold OwnB
    simpa [u8s, u8v] using h1
end Go.Proofs.YtckkiilbabbeaaaDoor

/- The walk of written: numbers as bytes, one behind the other. -/
namespace Go.Proofs.YtckkiilbabbeaaaDoor
open Go Go.RowKit Sm
attribute [local go_sem] Oper.semAt_some

def wrB (ns : List (Nat × Nat)) : List UInt8 := ns.flatMap fun x => putB x.2 x.1
theorem wrB_take (ns : List (Nat × Nat)) (k : Nat) (h : k < ns.length) : wrB (ns.take (k + 1)) = wrB (ns.take k) ++ putB (ns.getD k (0, 0)).2 (ns.getD k (0, 0)).1 := by
  unfold wrB
  rw [List.take_succ_eq_append_getElem h, List.flatMap_append]
  simp [List.getD, h]
def Nums (w : World) (b : Nat) (ns : List (Nat × Nat)) : Prop := ∀ i, i < ns.length → w.cell? ⟨b, i * 2, none⟩ = some (.int .i64 (ns.getD i (0, 0)).1) ∧ w.cell? ⟨b, i * 2 + 1, none⟩ = some (.int .u64 (ns.getD i (0, 0)).2)

theorem byte_shr (vl : Nat) (z : Int) (hz : 0 ≤ z) : (vl : Int) / 2 ^ (8 * z).toNat % 256 = ((byteAt vl z.toNat).toNat : Int) := by
  obtain ⟨n, rfl⟩ := Int.eq_ofNat_of_zero_le hz
  have e : (8 * (n : Int)).toNat = 8 * n := by omega
  have h2 : (256 : Nat) ^ n = 2 ^ (8 * n) := by rw [Nat.pow_mul]
  simp only [byteAt, Nat.toUInt8, UInt8.toNat_ofNat', Int.toNat_natCast, h2]
  rw [e]
  generalize 8 * n = m
  have h3 : ((2 : Int) ^ m) = ((2 ^ m : Nat) : Int) := by simp
  rw [h3]
  generalize 2 ^ m = q
  have h4 : (vl : Int) / (q : Int) = ((vl / q : Nat) : Int) := by simp
  rw [h4]
  have h5 : (2 : Nat) ^ 8 = 256 := rfl
  rw [h5]
  omega
theorem cell_alloc_one (w : World) (x : Value) (t : TypeId) : (w.alloc (.cells #[x] t)).cell? ⟨w.heap.size, 0, none⟩ = some x := by
  have := heap_alloc_new w (.cells #[x] t)
  unfold World.cell?
  rw [this]
  rfl
theorem wrB_le : ∀ (ns : List (Nat × Nat)), (∀ x ∈ ns, x.1 ≤ 8) → (wrB ns).length ≤ 8 * ns.length := by
  intro ns
  induction ns with
  | nil => intro _; simp [wrB]
  | cons a ns ih =>
    intro h
    have := ih fun x hx => h x (List.mem_cons_of_mem _ hx)
    have := h a (List.mem_cons_self ..)
    simp only [wrB, List.flatMap_cons, List.length_append, putB_length, List.length_cons] at *
    omega
theorem own_next {w : World} {base : Nat} {p : Option Addr} {L T T' : List UInt8} {c : UInt8} {n cap : Nat} (h : OwnB w base (.slice p ((L ++ T).length + 1 : Nat) cap) ((L ++ T) ++ [c])) (e : T' = T ++ [c]) (hn : n = (L ++ T).length + 1) : OwnB w base (.slice p n cap) (L ++ T') := by
  subst hn e
  rw [← List.append_assoc]
  exact h
theorem own_lt {w : World} {base : Nat} {v : Value} {L : List UInt8} (h : OwnB w base v L) {j : Nat} (hj : v.ownBlock = some j) : base ≤ j ∧ j < w.heap.size := World.ownsRow.lt h j hj
theorem conv_own {w : World} {base : Nat} {v : Value} {L : List UInt8} (h : OwnB w base v L) : (convert 55 9 v).run Tryd.prog w = .ok (.string ⟨L.toArray⟩) w := by
  obtain ⟨h1, h2⟩ := h
  rcases h2 with ⟨rfl, h0⟩ | ⟨g, cap, cur, rfl, hg, hh, hn, hc, hs, ht⟩
  · obtain rfl : L = [] := List.eq_nil_of_length_eq_zero h0
    kernel_rfl
  · refine run_convert_u8s (P := Tryd.prog) w 55 9 5 Tryd.underlying55 Tryd.underlying5 Tryd.underlying9 g 0 cap L ?_
    have := rangeAt_whole (cur := cur.toList) (by simpa using hh) 0 L.length
    rw [Nat.mul_one] at ht
    rwa [List.drop_zero, ht] at this
/-- Behind one append: what was there ahead of the call stands. -/
theorem below_grown {w wr w' : World} {v : Value} {L : List UInt8} {o : Obj} (hB : Below w.heap.size w wr) (hown : OwnB wr w.heap.size v L) (hg : (wr.alloc o).grownBy w' v.ownBlock) : Below w.heap.size w w' := by
  have ht : Turned (fun j => v.ownBlock = some j) (wr.alloc o) w' := Turned.grown hg (fun j hj _ => hj)
  have ht2 : Turned (fun j => v.ownBlock = some j) wr w' := ((Turned.refl _ wr).alloc o).trans ht
  exact hB.trans (ht2.toBelow hB.size (fun k hk e => (own_lt hown e).1))

end Go.Proofs.YtckkiilbabbeaaaDoor
