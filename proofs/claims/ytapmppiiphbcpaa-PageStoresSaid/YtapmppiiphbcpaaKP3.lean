/- The walks of Right, cut, numbers. -/
import Derived.Laws.BitsAllLaws
import Derived.Test.YtapmppiiphbcpaaKS6
namespace Go.Proofs.Ytapmppiiphbcpaa
open Go Go.RowKit Sm
attribute [local go_sem] Oper.semAt_some

/-- A page: its kind, id, transaction, body. -/
structure Pg where
  kind : Int
  id : Nat
  tx : Nat
  body : List UInt8
def Pg.v (p : Pg) : Value := .agg #[.int .i64 p.kind, .int .u32 p.id, .int .u64 p.tx, .string ⟨p.body.toArray⟩]
structure Pg.Ok (p : Pg) : Prop where
  k1 : -9223372036854775808 ≤ p.kind
  k2 : p.kind ≤ 9223372036854775807
  id : p.id < 4294967296
  tx : p.tx < 18446744073709551616
  b : p.body.length ≤ 1000000
def Pg.right (p : Pg) : Bool := decide (1 ≤ p.kind ∧ p.kind ≤ 3 ∧ 2 ≤ p.id ∧ p.id < 16384 ∧ 1 ≤ p.tx ∧ p.body.length ≤ 237)
theorem Pg.right_iff (p : Pg) : p.right = true ↔ (1 ≤ p.kind ∧ p.kind ≤ 3 ∧ 2 ≤ p.id ∧ p.id < 16384 ∧ 1 ≤ p.tx ∧ p.body.length ≤ 237) := by simp [Pg.right]

def cutAt (from' n : Nat) : Nat := if n = 0 then 0 else from'
theorem cut_any (b : Nat) (from' n len cap : Nat) (h : from' + n ≤ cap) (hc : from' + n ≤ 1000000) (_ : len ≤ cap) (w : World) : Calls Try.prog 58 #[.slice (some ⟨b, 0, none⟩) len cap, .int .i64 from', .int .i64 n] w fun e w' => e = .returned (.slice (some ⟨b, cutAt from' n, none⟩) n n) ∧ w = w' := by
  rcases Nat.eq_zero_or_pos n with rfl | hn
  · have e : cutAt from' 0 = 0 := rfl
    rw [e]
    clear e
    go_enter Try.func58, Try.ntmps58
    go_wp2
    go_ret
    exact ⟨rfl, rfl⟩
  · have e : cutAt from' n = from' := if_neg (by omega)
    rw [e]
    clear e
    go_enter Try.func58, Try.ntmps58
    go_wp2
    go_ret
    refine ⟨?_, rfl⟩
    show Ending.returned (Value.slice (some ⟨b, from', none⟩) (from' + n - from') (from' + n - from')) = _
    rw [Nat.add_sub_cancel_left]

set_option maxRecDepth 20000 in
set_option maxHeartbeats 1000000 in
theorem right_any (p : Pg) (hp : Veil p.Ok) (w : World) : Calls Try.prog 76 #[p.v] w fun e w' => e = .returned (.bool p.right) ∧ Below w.heap.size w w' := by
  have HR : Veil _ := ⟨p.right_iff⟩
  obtain ⟨r, hr⟩ : ∃ r, p.right = r := ⟨_, rfl⟩
  rw [hr] at HR ⊢
  clear hr
  obtain ⟨k, i, t, b⟩ := p
  have hbl : Veil _ := ⟨hp.out.b⟩
  have h1 : b.length ≤ 1000000 := hp.out.b
  unfold Pg.v
  simp only at *
  obtain ⟨I, hI⟩ : ∃ I : Int, (i : Int) = I := ⟨_, rfl⟩
  obtain ⟨T, hT⟩ : ∃ T : Int, (t : Int) = T := ⟨_, rfl⟩
  obtain ⟨N, hN⟩ : ∃ N : Int, (b.length : Int) = N := ⟨_, rfl⟩
  have H : Veil ((i : Int) = I ∧ (t : Int) = T ∧ (b.length : Int) = N) := ⟨hI, hT, hN⟩
  rw [hI, hT]
  clear hI hT
  go_enter Try.func76, Try.ntmps76
  go_wp2
  all_goals
    go_ret
    refine ⟨?_, below_al (Below.refl _ _) _⟩
    refine (show Ending.returned (Value.bool _) = Ending.returned (Value.bool _) from congrArg (fun x => Ending.returned (Value.bool x)) ?_)
    obtain ⟨h1, h2, h3⟩ := H.out
    have hr := HR.out
    simp only [beq_iff_eq, beq_eq_false_iff_ne, ne_eq] at *
    cases r <;> simp at hr ⊢ <;> omega
end Go.Proofs.Ytapmppiiphbcpaa

/- The walk of numbers: the numbers of these sizes at the beginning of bytes. -/
namespace Go.Proofs.Ytapmppiiphbcpaa
open Go Go.RowKit Sm
attribute [local go_sem] Oper.semAt_some

/-- The numbers of these sizes. -/
def offB (zs : List Nat) (i : Nat) : Nat := (zs.take i).sum
def segB (s : List UInt8) (zs : List Nat) (i : Nat) : List UInt8 := (s.drop (offB zs i)).take (zs.getD i 0)
def numsB (s : List UInt8) (zs : List Nat) : List Nat := (List.range zs.length).map fun i => getB (segB s zs i)
def u64s (l : List Nat) : List Value := l.map fun (n : Nat) => Value.int .u64 n
theorem offB_succ (zs : List Nat) (k : Nat) (h : k < zs.length) : offB zs (k + 1) = offB zs k + zs.getD k 0 := by
  unfold offB
  rw [List.take_succ_eq_append_getElem h, List.sum_append]
  simp [List.getD, h]
theorem numsB_take (s : List UInt8) (zs : List Nat) (k : Nat) (h : k < zs.length) : (numsB s zs).take (k + 1) = (numsB s zs).take k ++ [getB (segB s zs k)] := by
  rw [List.take_succ_eq_append_getElem (by simpa [numsB] using h)]
  simp [numsB]
theorem offB_le (zs : List Nat) (k : Nat) : offB zs k ≤ zs.sum := by
  unfold offB
  have := List.sum_append (l₁ := zs.take k) (l₂ := zs.drop k)
  rw [List.take_append_drop] at this
  omega

theorem or_byte64 (v : Nat) (c : UInt8) : bits BinOp.or IntKind.u64 (IntKind.u64.wrap ((v : Int) * 256)) (c.toNat : Int) = ((shl64 v c : Nat) : Int) := by
  have hc := c.toNat_lt
  have e : IntKind.u64.wrap ((v : Int) * 256) = ((v * 256 % 18446744073709551616 : Nat) : Int) := by rw [IntKind.wrap_u64]; omega
  rw [e, u64_or_nat _ _ (by omega) (by omega)]
  have h : v * 256 % 18446744073709551616 = (v % 72057594037927936) * 256 := by omega
  unfold shl64
  rw [h, Nat.mul_comm (v % 72057594037927936) 256, Nat.two_pow_add_eq_or_of_lt (i := 8) hc]

theorem info_u64 : (Try.prog.info? 47).map (fun i => (i.zero, i.size, i.bytes)) = some (some (.int .u64 0), 1, 8) := by kernel_rfl

theorem below_grown' {w wr w' : World} {v : Value} {e : TypeId} {sz n : Nat} {xs : List Value} {o : Obj} (hB : Below w.heap.size w wr) (hown : wr.ownsRow w.heap.size e sz v n xs) (hg : (wr.alloc o).grownBy w' v.ownBlock) : Below w.heap.size w w' := by
  have ht : Turned (fun j => v.ownBlock = some j) (wr.alloc o) w' := Turned.grown hg (fun j hj _ => hj)
  have ht2 : Turned (fun j => v.ownBlock = some j) wr w' := ((Turned.refl _ wr).alloc o).trans ht
  exact hB.trans (ht2.toBelow hB.size (fun k hk e => (World.ownsRow.lt hown k e).1))

set_option maxRecDepth 20000 in
set_option maxHeartbeats 1000000 in
theorem numbers_any (b len cap b2 cap2 : Nat) (s : List UInt8) (zs : List Nat) (w : World) (hc : Veil (w.rangeAt b 0 (u8s s))) (hb : b < w.heap.size) (hlen : s.length ≤ len) (hlc : len ≤ cap) (hcap : s.length ≤ 1000000) (hz : Veil (∀ i, i < zs.length → w.cell? ⟨b2, i, none⟩ = some (.int .i64 (zs.getD i 0)))) (hb2 : b2 < w.heap.size) (hsum : Veil (zs.sum ≤ s.length)) (hl : zs.length ≤ 10) :
    Calls Try.prog 93 #[.slice (some ⟨b, 0, none⟩) len cap, .slice (some ⟨b2, 0, none⟩) zs.length cap2] w fun e w' => ∃ v, e = .returned v ∧ Veil (w'.ownsRow w.heap.size 47 1 v zs.length (u64s (numsB s zs))) ∧ Below w.heap.size w w' := by
  go_enter Try.func93, Try.ntmps93
  go_wp2
  go_loopw [5, 6, 14] (fun v at' i wr => ∃ k : Nat, k ≤ zs.length ∧ i = .int .i64 k ∧ at' = .int .i64 (offB zs k) ∧ Below w.heap.size w wr ∧ Veil (wr.ownsRow w.heap.size 47 1 v k (u64s ((numsB s zs).take k)))) (fun _ _ i _ => zs.length - (intOf i).toNat)
  case atStart => exact ⟨0, Nat.zero_le _, rfl, rfl, Below.refl _ _, ⟨World.ownsRow_nil _ _ _ _⟩⟩
  case round =>
    obtain ⟨k, hk, rfl, rfl, hB, hA⟩ := hrel
    by_cases hlt : k < zs.length
    · have hck : wr.cell? ⟨b2, k, none⟩ = some (.int .i64 (zs.getD k 0)) := (hB.cell hb2).trans (hz.out k hlt)
      have HB := Lib.hid hB
      clear hB
      have hoff : offB zs k + zs.getD k 0 ≤ s.length := by rw [← offB_succ zs k hlt]; have := offB_le zs (k + 1); have := hsum.out; omega
      have HN : Veil ((numsB s zs).take (k + 1) = (numsB s zs).take k ++ [getB ((s.drop (offB zs k)).take (zs.getD k 0))]) := ⟨numsB_take s zs k hlt⟩
      have HO : Veil (offB zs (k + 1) = offB zs k + zs.getD k 0) := ⟨offB_succ zs k hlt⟩
      have HLN : Veil (((numsB s zs).take k).length = k) := ⟨by simp [numsB]; omega⟩
      revert hck hoff HN HO
      obtain ⟨l, hll⟩ : ∃ l, (numsB s zs).take k = l := ⟨_, rfl⟩
      rw [hll] at hA HLN
      rw [hll]
      clear hll
      generalize offB zs k = of
      generalize zs.getD k 0 = sz
      intro hck hoff HN HO
      have hcut : Veil (∀ w, Calls Try.prog 58 #[.slice (some ⟨b, 0, none⟩) len cap, .int .i64 of, .int .i64 sz] w fun e w' => e = .returned (.slice (some ⟨b, cutAt of sz, none⟩) sz sz) ∧ w = w') := ⟨fun w => cut_any b of sz len cap (by omega) (by omega) hlc w⟩
      go_wp2_with (go_at_call 58; refine (hcut.out _).mono ?_; rintro e w' ⟨rfl, rfl⟩)
      obtain ⟨sg, hsg⟩ : ∃ sg, (s.drop of).take sz = sg := ⟨_, rfl⟩
      have hsl : sg.length = sz := by rw [← hsg]; simp; omega
      have hcell : Veil (∀ j, j < sz → wr.cell? ⟨b, cutAt of sz + j, none⟩ = some (.int .u8 (sg.getD j 0).toNat)) := ⟨fun j hj => by
        have h0 : sz ≠ 0 := by omega
        have hjs : of + j < s.length := by omega
        have h1 := hc.out (of + j) (u8v (s[of + j])) (by simp [u8s, hjs])
        have h2 := (HB.out.cell hb).trans h1
        rw [← hsg]
        simp only [cutAt, h0, if_false]
        rw [Nat.zero_add] at h2
        rw [h2]
        simp [u8v, List.getD, hj, List.getElem?_drop, hjs]⟩
      rw [hsg] at HN
      clear hsg
      have HSL : Veil _ := ⟨hsl⟩
      clear hsl
      generalize cutAt of sz = ca at *
      go_loop [9, 11, 23] (fun n _ j => ∃ m : Nat, m ≤ sz ∧ j = .int .i64 m ∧ n = .int .u64 (getB (sg.take m))) (fun _ _ j => sz - (intOf j).toNat)
      case atStart => exact ⟨0, Nat.zero_le _, rfl, rfl⟩
      case round =>
        obtain ⟨m, hm, rfl, rfl⟩ := hrel
        by_cases hlm : m < sz
        · have hcm := hcell.out m hlm
          have HG : Veil _ := ⟨getB_take sg m (by rw [HSL.out]; exact hlm)⟩
          have HGT : Veil (∀ n, m = n → getB (sg.take n) = getB (sg.take m)) := ⟨fun n e => by rw [e]⟩
          revert hcm HG
          generalize getB (sg.take m) = v
          generalize sg.getD m 0 = c
          intro hcm HG
          obtain ⟨V, hV⟩ : ∃ V : Int, (v : Int) = V := ⟨_, rfl⟩
          obtain ⟨C, hC⟩ : ∃ C : Int, (c.toNat : Int) = C := ⟨_, rfl⟩
          obtain ⟨R, hR⟩ : ∃ R : Int, ((shl64 v c : Nat) : Int) = R := ⟨_, rfl⟩
          have ho : bits BinOp.or IntKind.u64 (IntKind.u64.wrap (V * 256)) C = R := by rw [← hV, ← hC, ← hR]; exact or_byte64 v c
          have hc2 : 0 ≤ C ∧ C < 256 := by have := c.toNat_lt; omega
          obtain ⟨hc2, hc3⟩ := hc2
          have HR : Veil _ := ⟨hR⟩
          rw [hV]
          rw [hC] at hcm
          clear hV hC hR
          go_wp2
          refine ⟨⟨m + 1, by omega, by go_num, by rw [HG.out, ← HR.out]⟩, ?_⟩
          simp only [intOf]; omega
        · obtain rfl : m = sz := by omega
          rw [show sg.take m = sg from List.take_of_length_le (by rw [HSL.out]; exact Nat.le_refl _)]
          revert HN
          generalize getB sg = gv
          intro HN
          clear hcell HSL hcut
          obtain ⟨i0, hi0, hz0, hz1, hz2⟩ := info_parts info_u64
          have HI0 := Lib.hid hi0
          have HZ0 := Lib.hid hz0
          have HZ1 := Lib.hid hz1
          have HZ2 := Lib.hid hz2
          clear hi0 hz0 hz1 hz2
          go_wp2_with (refine wpList_append_lies _ rfl (.tmp 33) (.tmp 35) 153 rfl w.heap.size 47 i0 _ 1 8 Try.underlying153 HI0.out HZ0.out HZ1.out HZ2.out rfl (Nat.le_refl _) _ k (u64s l) rfl (hA.out.alloc _) ⟨wr.heap.size, 0, none⟩ 1 1 [.int .u64 gv] rfl rfl (cell_one_new _ _ _) (fun u hu => by obtain rfl := List.mem_singleton.1 hu; rfl) (Nat.le_refl _) (by unfold maxLen; omega) (by omega) (by have := HB.out.size; simp; omega) _ rfl ?_; intro g cp w9 hown hgrow hlies hglt)
          refine ⟨⟨k + 1, by omega, by go_num, ?_, below_grown' HB.out hA.out hgrow, ⟨?_⟩⟩, ?_⟩
          · rw [HO.out]; go_num
          · rw [HN.out]
            simpa [u64s] using hown
          · simp only [intOf]; omega
    · obtain rfl : k = zs.length := by omega
      have hfull : (numsB s zs).take zs.length = numsB s zs := List.take_of_length_le (by simp [numsB])
      rw [hfull] at hA
      have HB := Lib.hid hB
      clear hB hfull
      go_wp2
      go_ret
      exact ⟨_, rfl, hA, HB.out⟩
end Go.Proofs.Ytapmppiiphbcpaa
