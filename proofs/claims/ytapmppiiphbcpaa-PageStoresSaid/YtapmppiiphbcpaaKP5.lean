/- The walk of Encode. -/
import Derived.Test.YtapmppiiphbcpaaSh
import Derived.Test.YtapmppiiphbcpaaKP3
namespace Go.Proofs.Ytapmppiiphbcpaa
open Go Go.RowKit Sm
attribute [local go_sem] Oper.semAt_some

theorem bcell {W w1 : World} (hb : Below W.heap.size W w1) : (∀ b o, b < W.heap.size → w1.cell? ⟨b, o, none⟩ = W.cell? ⟨b, o, none⟩) ∧ (∀ b o, b < W.heap.size → w1.frozen? ⟨b, o, none⟩ = W.frozen? ⟨b, o, none⟩) :=
  ⟨fun b o h => hb.cell (p := ⟨b, o, none⟩) h, fun b o h => hb.frozen (p := ⟨b, o, none⟩) h⟩
def Pg.head (p : Pg) : List UInt8 := wrB [(1, p.kind.toNat), (4, p.id), (8, p.tx), (2, p.body.length)]
def Pg.text (p : Pg) : List UInt8 := p.head ++ p.body
def Pg.sealed (p : Pg) : List UInt8 := p.text ++ sealB (sumN p.text)
def Pg.enc (p : Pg) : List UInt8 := p.sealed ++ List.replicate (256 - p.sealed.length) 0
def Pg.encR (p : Pg) : Value := if p.right then .tuple #[.string ⟨p.enc.toArray⟩, .int .i64 0] else .tuple #[.string ⟨#[]⟩, .int .i64 30]
theorem sealB_len' (n : Nat) : (sealB n).length = 4 := rfl
theorem Pg.head_len (p : Pg) : p.head.length = 15 := by simp [Pg.head, wrB]
theorem Pg.sealed_len (p : Pg) : p.sealed.length = 19 + p.body.length := by simp [Pg.sealed, Pg.text, p.head_len, sealB_len']; omega
theorem Pg.enc_len (p : Pg) (h : p.body.length ≤ 237) : p.enc.length = 256 := by simp [Pg.enc, p.sealed_len]; omega

set_option maxRecDepth 20000 in
set_option maxHeartbeats 1000000 in
theorem encode_any (p : Pg) (hp : Veil p.Ok) (w : World) : Calls Try.prog 55 #[p.v] w fun e w' => e = .returned p.encR ∧ Below w.heap.size w w' := by
  have hR : Veil (∀ w, Calls Try.prog 76 #[p.v] w fun e w' => e = .returned (.bool p.right) ∧ Below w.heap.size w w') := ⟨right_any p hp⟩
  unfold Pg.encR
  cases hr : p.right
  · rw [hr] at hR
    clear hr hp
    obtain ⟨k, i, t, b⟩ := p
    unfold Pg.v at hR ⊢
    simp only at hR ⊢
    go_enter Try.func55, Try.ntmps55
    go_wp2_with (go_at_call 76; refine (hR.out _).mono ?_; rintro e w2 ⟨rfl, hb2⟩)
    go_ret2
    exact ⟨rfl, (below_al (Below.refl _ _) _).trans (hb2.mono (by simp))⟩
  · have hrr := p.right_iff.1 hr
    rw [hr] at hR
    obtain ⟨k, i, t, b⟩ := p
    simp only at hrr
    obtain ⟨n, rfl⟩ : ∃ n : Nat, k = n := ⟨k.toNat, by omega⟩
    have hW : Veil (∀ w : World, Calls Try.prog 77 #[.slice (some ⟨w.heap.size, 0, none⟩) 4 4] (w.alloc (.cells #[.int .i64 1, .int .u64 n, .int .i64 4, .int .u64 i, .int .i64 8, .int .u64 t, .int .i64 2, .int .u64 b.length] 133)) fun e w' => e = .returned (.string ⟨(wrB [(1, n), (4, i), (8, t), (2, b.length)]).toArray⟩) ∧ Below w.heap.size w w') := ⟨fun w => by
      refine (written_any w.heap.size 4 [(1, n), (4, i), (8, t), (2, b.length)] _ ?_ (by simp) ⟨?_⟩ (by simp)).mono fun e w' ⟨he, hb⟩ => ⟨he, (below_al (Below.refl _ w) _).trans (hb.mono (by simp))⟩
      · intro j hj
        have : j = 0 ∨ j = 1 ∨ j = 2 ∨ j = 3 := by simp at hj; omega
        rcases this with rfl | rfl | rfl | rfl <;> constructor <;> rw [cell_whole (cur := [.int .i64 1, .int .u64 n, .int .i64 4, .int .u64 i, .int .i64 8, .int .u64 t, .int .i64 2, .int .u64 b.length]) (heap_alloc_new _ _)] <;> rfl
      · have h1 := hp.out.id
        have h2 := hp.out.tx
        simp only at h1 h2
        intro x hx
        simp only [List.mem_cons, List.not_mem_nil, or_false] at hx
        rcases hx with rfl | rfl | rfl | rfl <;> simp only <;> omega⟩
    obtain ⟨hd, hhd⟩ : ∃ hd, wrB [(1, n), (4, i), (8, t), (2, b.length)] = hd := ⟨_, rfl⟩
    have hdl : hd.length = 15 := by rw [← hhd]; simp [wrB]
    rw [hhd] at hW
    have hS : Veil (∀ w, Calls Try.prog 78 #[.string (⟨hd.toArray⟩ ++ ⟨b.toArray⟩)] w fun e w' => e = .returned (.string ⟨(hd ++ b ++ sealB (sumN (hd ++ b))).toArray⟩) ∧ Below w.heap.size w w') := ⟨fun w => by
      rw [str_append]
      exact seal_any (hd ++ b) ⟨by simp [hdl]; omega⟩ w⟩
    have hE : Veil ((⟨(n : Int), i, t, b⟩ : Pg).enc = hd ++ b ++ sealB (sumN (hd ++ b)) ++ List.replicate (256 - (hd ++ b ++ sealB (sumN (hd ++ b))).length) 0) := ⟨by rw [← hhd]; rfl⟩
    obtain ⟨q, hq⟩ : ∃ q, hd ++ b ++ sealB (sumN (hd ++ b)) = q := ⟨_, rfl⟩
    have hql : q.length = 19 + b.length := by rw [← hq]; simp [hdl, sealB_len']; omega
    rw [hq] at hS hE
    have hRep : Veil (∀ w, Calls Try.prog 79 #[.string ⟨#[0]⟩, .int .i64 (256 - (q.length : Int))] w fun e w' => e = .returned (.string ⟨(List.replicate (256 - q.length) 0).toArray⟩) ∧ Below w.heap.size w w') := ⟨fun w => by
      have h := Try.strings_Repeat ⟨#[0]⟩ (256 - q.length) w (by omega) (by simp [ByteArray.size]; omega)
      rw [show (((256 - q.length : Nat) : Int)) = 256 - (q.length : Int) by omega] at h
      have e : Lib.repeatL ([0] : List UInt8) (256 - q.length) = List.replicate (256 - q.length) 0 := by
        have := Lib.repeatL_replicate 0 1 (256 - q.length)
        simpa using this
      rw [show (⟨#[0]⟩ : ByteArray).data.toList = [0] from rfl, e] at h
      exact h⟩
    obtain ⟨h1, h2, h3, h4, h5, h6⟩ := hrr
    have hql2 : q.length ≤ 256 := by omega
    have hnb : ¬ 9223372036854775807 < hd.length + b.length := by omega
    have hnb2 : ¬ 9223372036854775807 < q.length + (256 - q.length) := by omega
    clear hq hhd hdl hr hp hql
    unfold Pg.v at hR ⊢
    simp only [if_true] at hR ⊢
    rw [hE.out]
    obtain ⟨bl, hbl⟩ : ∃ bl, b.length = bl := ⟨_, rfl⟩
    rw [hbl] at hW h6 hnb
    go_enter Try.func55, Try.ntmps55
    go_wp2_with (first
      | (go_at_call 79; refine (hRep.out _).mono ?_; rintro e w5 ⟨rfl, hb5⟩)
      | (go_at_call 78; refine (hS.out _).mono ?_; rintro e w4 ⟨rfl, hb4⟩)
      | (go_at_call 77; refine (hW.out _).mono ?_; rintro e w3 ⟨rfl, hb3⟩; obtain ⟨hc3, hf3⟩ := bcell hb3)
      | (go_at_call 76; refine (hR.out _).mono ?_; rintro e w2 ⟨rfl, hb2⟩; obtain ⟨hc2, hf2⟩ := bcell hb2; have hz2 : w.heap.size < w2.heap.size := (by have := hb2.size; simp at this; omega)))
    go_ret2
    have b3 := (below_al (Below.refl _ w) _).trans (hb2.mono (by simp))
    have b4 := b3.trans (hb3.mono b3.size)
    have b5 := b4.trans (hb4.mono b4.size)
    exact ⟨congrArg (fun x => Ending.returned (Value.tuple #[Value.string x, .int .i64 0])) (str_append _ _), b5.trans (hb5.mono b5.size)⟩
end Go.Proofs.Ytapmppiiphbcpaa

/- Metas: which are right; numbers as bytes, four each. -/
namespace Go.Proofs.Ytapmppiiphbcpaa
open Go Go.RowKit Sm
attribute [local go_sem] Oper.semAt_some

/-- A meta: its transaction, root, high, free. -/
structure Mt where
  tx : Nat
  root : Nat
  high : Nat
  free : Nat
deriving DecidableEq
def Mt.v (m : Mt) : Value := .agg #[.int .u64 m.tx, .int .u32 m.root, .int .u32 m.high, .int .u32 m.free]
structure Mt.Ok (m : Mt) : Prop where
  tx : m.tx < 18446744073709551616
  root : m.root < 4294967296
  high : m.high < 4294967296
  free : m.free < 4294967296
def pageOk (high id : Nat) : Bool := decide (id = 0 ∨ (2 ≤ id ∧ id < high))
def Mt.right (m : Mt) : Bool := decide (1 ≤ m.tx ∧ 2 ≤ m.high ∧ m.high ≤ 16384) && [m.root, m.free].all (pageOk m.high)
theorem Mt.right_iff (m : Mt) : m.right = true ↔ (1 ≤ m.tx ∧ 2 ≤ m.high ∧ m.high ≤ 16384 ∧ (m.root = 0 ∨ (2 ≤ m.root ∧ m.root < m.high)) ∧ (m.free = 0 ∨ (2 ≤ m.free ∧ m.free < m.high))) := by
  simp [Mt.right, pageOk, and_assoc]
def U32s (w : World) (b : Nat) (l : List Nat) : Prop := ∀ i, i < l.length → w.cell? ⟨b, i, none⟩ = some (.int .u32 (l.getD i 0))
theorem all_take (f : Nat → Bool) (l : List Nat) (k : Nat) (h : k < l.length) : (l.take (k + 1)).all f = ((l.take k).all f && f (l.getD k 0)) := by
  rw [List.take_succ_eq_append_getElem h, List.all_append]
  simp [List.getD, h]
theorem all_out (f : Nat → Bool) (l : List Nat) (k : Nat) (h : k < l.length) (hf : f (l.getD k 0) = false) : l.all f = false := by
  cases hh : l.all f
  · rfl
  · have := List.all_eq_true.1 hh (l[k]) (List.getElem_mem h)
    simp [List.getD, h] at hf
    rw [hf] at this; cases this

theorem u32s_new (l : List Nat) (w : World) (T : TypeId) {cs : List Value} (hc : cs = l.map fun n : Nat => Value.int .u32 n) : U32s (w.alloc (.cells cs.toArray T)) w.heap.size l := fun i hi => by
  subst hc
  rw [cell_whole (heap_alloc_new _ _)]
  simp [hi, List.getD]

end Go.Proofs.Ytapmppiiphbcpaa

/- The walk of words: numbers as bytes, four each. -/
namespace Go.Proofs.Ytapmppiiphbcpaa
open Go Go.RowKit Sm
attribute [local go_sem] Oper.semAt_some

def wrd (l : List Nat) : List UInt8 := l.flatMap (putB · 4)
theorem wrd_take (l : List Nat) (k : Nat) (h : k < l.length) : wrd (l.take (k + 1)) = wrd (l.take k) ++ putB (l.getD k 0) 4 := by
  unfold wrd
  rw [List.take_succ_eq_append_getElem h, List.flatMap_append]
  simp [List.getD, h]
theorem wrd_len (l : List Nat) : (wrd l).length = 4 * l.length := by
  induction l with
  | nil => rfl
  | cons a l ih => simp only [wrd, List.flatMap_cons, List.length_append, putB_length, List.length_cons] at *; omega
theorem put4_cells (n : Nat) : [Value.int IntKind.u8 ((n : Int) / 16777216 % 256), Value.int IntKind.u8 ((n : Int) / 65536 % 256), Value.int IntKind.u8 ((n : Int) / 256 % 256), Value.int IntKind.u8 ((n : Int) % 256)] = u8s (putB n 4) := by
  have e : putB n 4 = [byteAt n 3, byteAt n 2, byteAt n 1, byteAt n 0] := rfl
  rw [e]
  simp [u8s, byteAt, u8v, Nat.toUInt8, UInt8.toNat_ofNat']

/-- Bytes appended to the call's own. -/
theorem wpList_append_u8s {w : World} {ops : Array Oper} {rest : List Oper} {o : Oper} {a : Act} {Q : Exit → Act → World → Prop} (hgd : o.guard = none) (s x : Operand)
    (ho : o.op = .call { callee := .builtin .append, args := #[s, x], argTypes := #[104, 104] })
    (base : Nat) (v : Value) (L M : List UInt8) (hs : a.eval s = v) (hown : OwnB w base v L) (ad : Addr) (cp m : Nat) (hM : M.length = m) (hx : a.eval x = .slice (some ad) m cp) (hc : ∀ j u, (u8s M)[j]? = some u → w.cell? (ad.add j) = some u) (hm : 0 < m) (hL : L.length + m ≤ 1000000) (hbase : base ≤ w.heap.size)
    (h : ∀ g cap w', OwnB w' base (.slice (some ⟨g, 0, none⟩) (L.length + m : Nat) cap) (L ++ M) → w.grownBy w' v.ownBlock → (v.ownBlock = some g ∨ g = w.heap.size) → g < w'.heap.size → wpList Try.prog ops Q rest (a.put o.dst (.slice (some ⟨g, 0, none⟩) (L.length + m : Nat) cap)) w') : wpList Try.prog ops Q (o :: rest) a w := by
  obtain ⟨i0, hi0, hz0, hz1, hz2⟩ := info_parts info_u8
  subst hM
  refine wpList_append_lies _ hgd s x 104 ho base 5 i0 _ 1 1 Try.underlying104 hi0 hz0 hz1 hz2 rfl (Nat.le_refl _) v L.length (u8s L) hs hown ad M.length cp (u8s M) hx (by simp [u8s]) hc ?_ hm (by unfold maxLen; omega) (by omega) hbase _ rfl ?_
  · exact oneCell_u8s M
  · intro g cap w' h1 h2 h3 h4
    refine h g cap w' ?_ h2 h3 h4
    unfold OwnB
    simpa [u8s, u8v] using h1
theorem new_bytes (w : World) (M : List UInt8) {cs : List Value} (h : cs = u8s M) (T : TypeId) : ∀ j u, (u8s M)[j]? = some u → (w.alloc (.cells cs.toArray T)).cell? ((⟨w.heap.size, 0, none⟩ : Addr).add j) = some u := by
  subst h
  intro j u hj
  have := cell_whole (heap_alloc_new w (.cells (u8s M).toArray T)) j
  have e : (⟨w.heap.size, 0, none⟩ : Addr).add j = ⟨w.heap.size, j, none⟩ := by
    unfold Addr.add
    split
    · rename_i h; subst h; rfl
    · simp
  rw [e, this, hj]

theorem u32v_lt (n : Nat) : n / 4294967296 % 4294967296 < 4294967296 := Nat.mod_lt _ (by decide)
theorem put8 (t : Nat) (_ : t < 18446744073709551616) : putB t 8 = putB (t / 4294967296) 4 ++ putB (t % 4294967296) 4 := by
  have e8 : putB t 8 = [byteAt t 7, byteAt t 6, byteAt t 5, byteAt t 4, byteAt t 3, byteAt t 2, byteAt t 1, byteAt t 0] := rfl
  have e4 : ∀ n, putB n 4 = [byteAt n 3, byteAt n 2, byteAt n 1, byteAt n 0] := fun n => rfl
  rw [e8, e4, e4]
  simp only [List.cons_append, List.nil_append, byteAt]
  have p : ∀ i j : Nat, t / 4294967296 / 256 ^ i = t / 256 ^ (4 + i) := fun i j => by rw [Nat.div_div_eq_div_mul, Nat.pow_add]
  rw [p 3 0, p 2 0, p 1 0, p 0 0]
  have q : ∀ i : Nat, i < 4 → (t % 4294967296 / 256 ^ i).toUInt8 = (t / 256 ^ i).toUInt8 := fun i hi => by
    apply UInt8.toNat_inj.1
    simp only [Nat.toUInt8, UInt8.toNat_ofNat']
    have : i = 0 ∨ i = 1 ∨ i = 2 ∨ i = 3 := by omega
    rcases this with rfl | rfl | rfl | rfl <;> simp <;> omega
  rw [q 3 (by decide), q 2 (by decide), q 1 (by decide), q 0 (by decide)]

/-- A meta's bytes. -/
def Mt.enc (m : Mt) : List UInt8 := putB m.tx 8 ++ putB m.root 4 ++ putB m.high 4 ++ putB m.free 4 ++ List.replicate 36 0 ++ putB m.tx 8
def Mt.encR (m : Mt) : Value := if m.right then .tuple #[.string ⟨m.enc.toArray⟩, .int .i64 0] else .tuple #[.string ⟨#[]⟩, .int .i64 40]
theorem Mt.enc_len (m : Mt) : m.enc.length = 64 := by simp [Mt.enc]
theorem Mt.enc_eq (m : Mt) (h : m.tx < 18446744073709551616) : m.enc = wrd [m.tx / 4294967296, m.tx % 4294967296, m.root, m.high, m.free] ++ List.replicate 36 0 ++ wrd [m.tx / 4294967296, m.tx % 4294967296] := by
  simp [Mt.enc, wrd, put8 m.tx h, List.append_assoc]
end Go.Proofs.Ytapmppiiphbcpaa
