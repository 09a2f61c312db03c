/- The walks of Right, cut, numbers. -/
import Derived.Laws.BitsAllLaws
import Derived.Test.YtaolhhgfnhhgaaaKP2
namespace Go.Proofs.Ytaolhhgfnhhgaaa
open Go Go.RowKit Sm
attribute [local go_sem] Oper.semAt_some

/-- A page: its kind, id, transaction, body. -/
structure Pg where
  kind : Int
  id : Nat
  tx : Nat
  body : List UInt8
def Pg.v (p : Pg) : Value := .agg #[.int .i64 p.kind, .int .u32 p.id, .int .u64 p.tx, .string ⟨p.body.toArray⟩]
structure Pg.Ok (p : Pg) : Prop where
  k1 : -9223372036854775808 ≤ p.kind
  k2 : p.kind ≤ 9223372036854775807
  id : p.id < 4294967296
  tx : p.tx < 18446744073709551616
  b : p.body.length ≤ 1000000
def Pg.right (p : Pg) : Bool := decide (1 ≤ p.kind ∧ p.kind ≤ 3 ∧ 2 ≤ p.id ∧ p.id < 16384 ∧ 1 ≤ p.tx ∧ p.body.length ≤ 237)
theorem Pg.right_iff (p : Pg) : p.right = true ↔ (1 ≤ p.kind ∧ p.kind ≤ 3 ∧ 2 ≤ p.id ∧ p.id < 16384 ∧ 1 ≤ p.tx ∧ p.body.length ≤ 237) := by simp [Pg.right]

def cutAt (from' n : Nat) : Nat := if n = 0 then 0 else from'
end Go.Proofs.Ytaolhhgfnhhgaaa

/- The walk of numbers: the numbers of these sizes at the beginning of bytes. -/
namespace Go.Proofs.Ytaolhhgfnhhgaaa
open Go Go.RowKit Sm
attribute [local go_sem] Oper.semAt_some

/-- The numbers of these sizes. -/
def offB (zs : List Nat) (i : Nat) : Nat := (zs.take i).sum
def segB (s : List UInt8) (zs : List Nat) (i : Nat) : List UInt8 := (s.drop (offB zs i)).take (zs.getD i 0)
def numsB (s : List UInt8) (zs : List Nat) : List Nat := (List.range zs.length).map fun i => getB (segB s zs i)
def u64s (l : List Nat) : List Value := l.map fun (n : Nat) => Value.int .u64 n
theorem offB_succ (zs : List Nat) (k : Nat) (h : k < zs.length) : offB zs (k + 1) = offB zs k + zs.getD k 0 := by
  unfold offB
  rw [List.take_succ_eq_append_getElem h, List.sum_append]
  simp [List.getD, h]
theorem numsB_take (s : List UInt8) (zs : List Nat) (k : Nat) (h : k < zs.length) : (numsB s zs).take (k + 1) = (numsB s zs).take k ++ [getB (segB s zs k)] := by
  rw [List.take_succ_eq_append_getElem (by simpa [numsB] using h)]
  simp [numsB]
theorem offB_le (zs : List Nat) (k : Nat) : offB zs k ≤ zs.sum := by
  unfold offB
  have := List.sum_append (l₁ := zs.take k) (l₂ := zs.drop k)
  rw [List.take_append_drop] at this
  omega

theorem or_byte64 (v : Nat) (c : UInt8) : bits BinOp.or IntKind.u64 (IntKind.u64.wrap ((v : Int) * 256)) (c.toNat : Int) = ((shl64 v c : Nat) : Int) := by
  have hc := c.toNat_lt
  have e : IntKind.u64.wrap ((v : Int) * 256) = ((v * 256 % 18446744073709551616 : Nat) : Int) := by rw [IntKind.wrap_u64]; omega
  rw [e, u64_or_nat _ _ (by omega) (by omega)]
  have h : v * 256 % 18446744073709551616 = (v % 72057594037927936) * 256 := by omega
  unfold shl64
  rw [h, Nat.mul_comm (v % 72057594037927936) 256, Nat.two_pow_add_eq_or_of_lt (i := 8) hc]

theorem info_u64 : (Try.prog.info? 55).map (fun i => (i.zero, i.size, i.bytes)) = some (some (.int .u64 0), 1, 8) := by kernel_rfl

theorem below_grown' {w wr w' : World} {v : Value} {e : TypeId} {sz n : Nat} {xs : List Value} {o : Obj} (hB : Below w.heap.size w wr) (hown : wr.ownsRow w.heap.size e sz v n xs) (hg : (wr.alloc o).grownBy w' v.ownBlock) : Below w.heap.size w w' := by
  have ht : Turned (fun j => v.ownBlock = some j) (wr.alloc o) w' := Turned.grown hg (fun j hj _ => hj)
  have ht2 : Turned (fun j => v.ownBlock = some j) wr w' := ((Turned.refl _ wr).alloc o).trans ht
  exact hB.trans (ht2.toBelow hB.size (fun k hk e => (World.ownsRow.lt hown k e).1))

end Go.Proofs.Ytaolhhgfnhhgaaa

/- The document's own numbers as bytes: Put, Get. -/
namespace Go.Proofs.Ytaolhhgfnhhgaaa
open Go Go.RowKit Sm
attribute [local go_sem] Oper.semAt_some

set_option maxRecDepth 20000 in
set_option maxHeartbeats 1000000 in
theorem put_any (vl sz : Nat) (hsz : sz ≤ 8) (w : World) : Calls Try.prog 27 #[.int .u64 vl, .int .i64 sz] w fun e w' => e = .returned (.string ⟨(putB vl sz).toArray⟩) ∧ Below w.heap.size w w' := by
  go_enter Try.func27, Try.ntmps27
  go_wp2
  go_loopw [5, 6] (fun s j wi => ∃ (m : Nat) (z : Int), m ≤ sz ∧ z = (sz : Int) - 1 - m ∧ j = .int .i64 z ∧ Below w.heap.size w wi ∧ Veil (OwnB wi w.heap.size s ((putB vl sz).take m))) (fun _ j _ => (intOf j + 1).toNat)
  case atStart => exact ⟨0, _, Nat.zero_le _, by simp, rfl, Below.refl _ _, ⟨World.ownsRow_nil _ _ _ _⟩⟩
  case round =>
    obtain ⟨m, z, hm, hz, rfl, hB2, hA2⟩ := hrel
    by_cases hz0 : 0 ≤ z
    · have hzz := Lib.hid hz
      have hz9 : z ≤ 8 := by omega
      have HB2 := Lib.hid hB2
      clear hB2 hz
      have HV : Veil _ := ⟨byte_shr vl z hz0⟩
      have HP : Veil _ := ⟨putB_take vl sz m (by have := hzz.out; omega)⟩
      have HE : Veil (sz - 1 - m = z.toNat) := ⟨by have := hzz.out; omega⟩
      go_wp2_with (refine wpList_append_u8 rfl (.tmp 13) (.tmp 20) rfl w.heap.size _ ((putB vl sz).take m) (byteAt vl z.toNat) rfl (hA2.out.alloc _) ⟨wr.heap.size, 0, none⟩ rfl (by rw [← HV.out]; exact cell_alloc_one _ _ _) (by simp; omega) (by have := HB2.out.size; simp; omega) ?_; intro g cap w9 hown hgrow hlies hglt)
      have hnn := own_next (L := []) (n := m + 1) hown (show (putB vl sz).take (m + 1) = _ by rw [HP.out, HE.out]) (by have := hzz.out; simp; omega)
      rw [List.nil_append] at hnn
      refine ⟨⟨m + 1, z - 1, by have := hzz.out; omega, by have := hzz.out; omega, rfl, below_grown HB2.out hA2.out hgrow, ⟨by simpa using hnn⟩⟩, ?_⟩
      simp only [intOf]; omega
    · obtain rfl : m = sz := by omega
      have hfull : (putB vl m).take m = putB vl m := by rw [List.take_of_length_le (by simp)]
      rw [hfull] at hA2
      have hconv := conv_own hA2.out
      have HB2 := Lib.hid hB2
      clear hB2 hz hfull
      go_wp2
      go_ret
      exact ⟨rfl, HB2.out⟩

set_option maxRecDepth 20000 in
set_option maxHeartbeats 1000000 in
theorem get_any (s : List UInt8) (hs : s.length ≤ 1000000) (w : World) : Calls Try.prog 29 #[.string ⟨s.toArray⟩] w fun e w' => e = .returned (.int .u64 (getB s)) ∧ w = w' := by
  go_enter Try.func29, Try.ntmps29
  go_wp2
  go_loop [3, 4] (fun n j => ∃ m : Nat, m ≤ s.length ∧ j = .int .i64 m ∧ n = .int .u64 (getB (s.take m))) (fun _ j => s.length - (intOf j).toNat)
  case atStart => exact ⟨0, Nat.zero_le _, rfl, rfl⟩
  case round =>
    obtain ⟨m, hm, rfl, rfl⟩ := hrel
    by_cases hlm : m < s.length
    · have HG : Veil _ := ⟨getB_take s m hlm⟩
      have hci : (⟨s.toArray⟩ : ByteArray)[m]'(by simpa [ByteArray.size] using hlm) = s.getD m 0 := by
        simp [List.getD, hlm]
        rfl
      revert hci HG
      generalize getB (s.take m) = v
      generalize s.getD m 0 = c
      intro HG hci
      obtain ⟨V, hV⟩ : ∃ V : Int, (v : Int) = V := ⟨_, rfl⟩
      obtain ⟨C, hC⟩ : ∃ C : Int, (c.toNat : Int) = C := ⟨_, rfl⟩
      obtain ⟨R, hR⟩ : ∃ R : Int, ((shl64 v c : Nat) : Int) = R := ⟨_, rfl⟩
      have ho : bits BinOp.or IntKind.u64 (IntKind.u64.wrap (V * 256)) C = R := by rw [← hV, ← hC, ← hR]; exact or_byte64 v c
      have hc2 : 0 ≤ C ∧ C < 256 := by have := c.toNat_lt; omega
      obtain ⟨hc2, hc3⟩ := hc2
      have HR : Veil _ := ⟨hR⟩
      rw [hV]
      clear hV hR
      go_wp2
      refine ⟨⟨m + 1, by omega, by go_num, by rw [HG.out, ← HR.out]⟩, ?_⟩
      simp only [intOf]; omega
    · obtain rfl : m = s.length := by omega
      rw [List.take_length]
      go_wp2
      go_ret
      exact ⟨rfl, rfl⟩
end Go.Proofs.Ytaolhhgfnhhgaaa
