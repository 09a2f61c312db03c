/- Nodes read by the program: a reader; bytes taken, a number, a text. -/
import Derived.Test.YtokbmimbbeedcaaGreatDoorKP1
import Derived.Test.YtokbmimbbeedcaaGreatDoorKP8
import Derived.Test.YtokbmimbbeedcaaGreatDoorKN1
import Derived.Test.YtokbmimbbeedcaaGreatDoorKF1
namespace Go.Proofs.YtokbmimbbeedcaaGreatDoor
open Go Go.RowKit Sm
attribute [local go_sem] Oper.semAt_some

/-- A reader: the bytes left, and a node's three slices. -/
def RdAt (w : World) (R : Nat) (L : List UInt8) (v1 v2 v3 : Value) : Prop := w.heap[R]? = some (.cells #[.string ⟨L.toArray⟩, v1, v2, v3] 207 (0, 0))
theorem RdAt.cells {w : World} {R : Nat} {L : List UInt8} {v1 v2 v3 : Value} (h : RdAt w R L v1 v2 v3) : (w.cell? ⟨R, 0, none⟩ = some (.string ⟨L.toArray⟩) ∧ w.cell? ⟨R, 1, none⟩ = some v1 ∧ w.cell? ⟨R, 2, none⟩ = some v2 ∧ w.cell? ⟨R, 3, none⟩ = some v3) ∧ ∀ o, w.frozen? ⟨R, o, none⟩ = false := by
  have h' : w.heap[R]? = some (.cells [.string ⟨L.toArray⟩, v1, v2, v3].toArray 207 (0, 0)) := h
  exact ⟨⟨cell_whole h' 0, cell_whole h' 1, cell_whole h' 2, cell_whole h' 3⟩, fun o => frozen_whole h _⟩
theorem RdAt.set {w : World} {R : Nat} {L : List UInt8} {v1 v2 v3 : Value} (h : RdAt w R L v1 v2 v3) (M : List UInt8) : RdAt (w.setCell ⟨R, 0, none⟩ (.string ⟨M.toArray⟩)) R M v1 v2 v3 ∧ Turned (· = R) w (w.setCell ⟨R, 0, none⟩ (.string ⟨M.toArray⟩)) :=
  ⟨heap_setCell_at h 0 _, (Turned.refl (· = R) w).setCell (p := ⟨R, 0, none⟩) rfl _⟩

theorem ext_take (s : List UInt8) (k : Nat) : (⟨s.toArray⟩ : ByteArray).extract 0 k = ⟨(s.take k).toArray⟩ := by
  apply ByteArray.ext
  simp
theorem ext_drop (s : List UInt8) (k : Nat) : (⟨s.toArray⟩ : ByteArray).extract k s.length = ⟨(s.drop k).toArray⟩ := by
  apply ByteArray.ext
  simp
  exact List.take_of_length_le (by simp)
theorem ofInt_i64 (a : Nat) (ha : a < 9223372036854775808) : (BitVec.ofInt 64 (a : Int)).toNat = a := by
  rw [BitVec.ofInt_natCast, BitVec.toNat_ofNat]; exact Nat.mod_eq_of_lt (by omega)
theorem i64_or_nat (a b : Nat) (ha : a < 4611686018427387904) (hb : b < 4611686018427387904) : bits .or .i64 (a : Int) (b : Int) = ((a ||| b : Nat) : Int) := by
  have hx : a ||| b < 2 ^ 62 := Nat.or_lt_two_pow (by omega) (by omega)
  show IntKind.i64.wrap ((BitVec.ofInt 64 (a : Int) ||| BitVec.ofInt 64 (b : Int)).toNat : Int) = _
  rw [BitVec.toNat_or, ofInt_i64 a (by omega), ofInt_i64 b (by omega), IntKind.wrap_i64]
  omega
theorem or_byteI (v : Nat) (c : UInt8) (hv : v < 16777216) : bits BinOp.or IntKind.i64 ((v : Int) * 256) (c.toNat : Int) = ((shl64 v c : Nat) : Int) := by
  have hc := c.toNat_lt
  rw [show (v : Int) * 256 = ((v * 256 : Nat) : Int) by omega, i64_or_nat _ _ (by omega) (by omega)]
  unfold shl64
  rw [show v * 256 % 18446744073709551616 = v * 256 by omega, Nat.mul_comm v 256, Nat.two_pow_add_eq_or_of_lt (i := 8) hc]
theorem getB_few (s : List UInt8) (m : Nat) (h : m < 4) : getB (s.take m) < 16777216 := by
  have h1 := getB_pow (s.take m)
  have h2 : (256 : Nat) ^ (s.take m).length ≤ 256 ^ 3 := Nat.pow_le_pow_right (by decide) (by rw [List.length_take]; omega)
  have h3 : (256 : Nat) ^ 3 = 16777216 := rfl
  omega

set_option maxRecDepth 20000 in
theorem rtake_any {w : World} {R : Nat} {L : List UInt8} {v1 v2 v3 : Value} (h : RdAt w R L v1 v2 v3) (m : Nat) (hm : m ≤ L.length) (_hL : L.length ≤ 1000000) : Calls Tryz.prog 136 #[.pointer (some ⟨R, 0, none⟩), .int .i64 m] w fun e w' => e = .returned (.string ⟨(L.take m).toArray⟩) ∧ RdAt w' R (L.drop m) v1 v2 v3 ∧ Turned (· = R) w w' := by
  obtain ⟨⟨c0, -, -, -⟩, f0⟩ := h.cells
  have f00 := f0 0
  have HS : Veil _ := ⟨h.set (L.drop m)⟩
  have hlr : R < w.heap.size := lt_of_heap h
  have hmin : min (m : Int) (L.length : Int) = m := by omega
  clear h f0
  go_enter Tryz.func136, Tryz.ntmps136
  go_wp2
  go_ret
  rw [ext_drop]
  exact ⟨congrArg (fun x => Ending.returned (.string x)) (ext_take L m), HS.out⟩

set_option maxRecDepth 20000 in
set_option maxHeartbeats 1000000 in
theorem rnumber_any {w : World} {R : Nat} {L : List UInt8} {v1 v2 v3 : Value} (h : RdAt w R L v1 v2 v3) (m : Nat) (hm : m ≤ L.length) (hm4 : m ≤ 4) (hL : L.length ≤ 1000000) : Calls Tryz.prog 102 #[.pointer (some ⟨R, 0, none⟩), .int .i64 m] w fun e w' => e = .returned (.int .i64 (getB (L.take m))) ∧ RdAt w' R (L.drop m) v1 v2 v3 ∧ Turned (· = R) w w' := by
  have HT : Veil _ := ⟨rtake_any h m hm hL⟩
  have hlr : R < w.heap.size := lt_of_heap h
  have hsl : (L.take m).length = m := by rw [List.length_take]; omega
  clear h hm hL
  revert HT hsl
  generalize L.take m = s
  generalize L.drop m = M
  intro HT hsl
  go_enter Tryz.func102, Tryz.ntmps102
  go_wp2_with (go_at_call 136; refine HT.out.mono ?_; rintro e w2 ⟨rfl, hR2, hT2⟩; obtain ⟨cap, W1, hcv, hb1, hr1, hcap, hz1⟩ := bytes_row s w2; have hz2 : w.heap.size ≤ w2.heap.size := hT2.size; have HRT : Veil (RdAt W1 R M v1 v2 v3 ∧ Turned (· = R) w W1) := ⟨⟨(hb1.block _ (lt_of_heap hR2)).trans hR2, hT2.trans (Turned.new hb1)⟩⟩; have HR1 : Veil _ := ⟨hr1⟩; clear hR2 hT2 hr1 hb1)
  subst hsl
  go_loop [5, 7, 13] (fun n _ j => ∃ m : Nat, m ≤ s.length ∧ j = .int .i64 m ∧ n = .int .i64 (getB (s.take m))) (fun _ _ j => s.length - (intOf j).toNat)
  case atStart => exact ⟨0, Nat.zero_le _, rfl, rfl⟩
  case round =>
    obtain ⟨m, hm, rfl, rfl⟩ := hrel
    by_cases hlm : m < s.length
    · have HG : Veil _ := ⟨getB_take s m hlm⟩
      have hvl := getB_few s m (by omega)
      have hcm : W1.cell? ⟨w2.heap.size, m, none⟩ = some (.int .u8 (s.getD m 0).toNat) := by
        have := HR1.out m (u8v (s[m])) (by simp [u8s, hlm])
        rw [Nat.zero_add] at this
        rw [this]
        simp [u8v, List.getD, hlm]
      revert hcm HG hvl
      generalize getB (s.take m) = v
      generalize s.getD m 0 = c
      intro HG hvl hcm
      go_wp2
      have hw : wrap64 (c.toNat : Int) = c.toNat := by have := c.toNat_lt; unfold wrap64; omega
      refine ⟨⟨m + 1, by omega, by go_num, ?_⟩, ?_⟩
      · rw [hw, or_byteI v c hvl, HG.out]
      · simp only [intOf]; omega
    · obtain rfl : m = s.length := by omega
      rw [List.take_length]
      go_wp2
      go_ret
      exact ⟨rfl, HRT.out⟩

set_option maxRecDepth 20000 in
theorem rtext_any {w : World} {R : Nat} (t M : List UInt8) {v1 v2 v3 : Value} (h : RdAt w R (putB t.length 1 ++ (t ++ M)) v1 v2 v3) (ht : t.length ≤ 255) (hM : M.length ≤ 1000) : Calls Tryz.prog 137 #[.pointer (some ⟨R, 0, none⟩)] w fun e w' => e = .returned (.string ⟨t.toArray⟩) ∧ RdAt w' R M v1 v2 v3 ∧ Turned (· = R) w w' := by
  have hl1 : (putB t.length 1).length = 1 := putB_length _ _
  have HN : Veil (Calls Tryz.prog 102 #[.pointer (some ⟨R, 0, none⟩), .int .i64 1] w fun e w' => e = .returned (.int .i64 t.length) ∧ RdAt w' R (t ++ M) v1 v2 v3 ∧ Turned (· = R) w w') := ⟨by
    have := rnumber_any h 1 (by rw [List.length_append]; omega) (by decide) (by rw [List.length_append, List.length_append]; omega)
    rw [List.take_append_of_le_length (by omega), List.take_of_length_le (by omega), getB_putB _ 1 (by decide) (by omega), List.drop_append_of_le_length (by omega), List.drop_eq_nil_of_le (by omega), List.nil_append] at this
    exact this⟩
  have HT : Veil (∀ W, RdAt W R (t ++ M) v1 v2 v3 → Calls Tryz.prog 136 #[.pointer (some ⟨R, 0, none⟩), .int .i64 t.length] W fun e w' => e = .returned (.string ⟨t.toArray⟩) ∧ RdAt w' R M v1 v2 v3 ∧ Turned (· = R) W w') := ⟨fun W hW => by
    have := rtake_any hW t.length (by simp) (by rw [List.length_append]; omega)
    rw [List.take_left, List.drop_left] at this
    exact this⟩
  clear h hl1
  go_enter Tryz.func137, Tryz.ntmps137
  go_wp2_with (first
    | (go_at_call 136; refine (HT.out _ HR2.out.1).mono ?_; rintro e w3 ⟨rfl, hR3, hT3⟩; have HR3 : Veil _ := ⟨And.intro hR3 (HR2.out.2.trans hT3)⟩; clear hR3 hT3)
    | (go_at_call 102; refine HN.out.mono ?_; rintro e w2 ⟨rfl, hR2, hT2⟩; have HR2 : Veil _ := ⟨And.intro hR2 hT2⟩; clear hR2 hT2))
  go_ret
  exact ⟨rfl, HR3.out⟩
end Go.Proofs.YtokbmimbbeedcaaGreatDoor

/- Nodes read by the program: a part. -/
namespace Go.Proofs.YtokbmimbbeedcaaGreatDoor
open Go Go.RowKit Sm
attribute [local go_sem] Oper.semAt_some

/-- A part is being read: at the beginning, behind one text, behind both, the list appended to. -/
structure RdI (w : World) (R : Nat) (L0 L1 L2 : List UInt8) (v1 v2 v3 : Value) (n : Nd) (s : Nat) (W : World) : Prop where
  r : s ≤ 2 → RdAt W R (if s = 0 then L0 else if s = 1 then L1 else L2) v1 v2 v3
  m : s ≤ 2 → NdOwn W (R + 1) v1 v2 v3 n
  t : Below R w W
  z : w.heap.size ≤ W.heap.size
  lt : R < w.heap.size
section
variable {w W W' : World} {R s s' : Nat} {L0 L1 L2 : List UInt8} {v1 v2 v3 : Value} {n : Nd}
theorem RdI.base (h : RdI w R L0 L1 L2 v1 v2 v3 n s W) : R + 1 ≤ W.heap.size := Nat.lt_of_lt_of_le h.lt h.z
theorem RdI.below (h : RdI w R L0 L1 L2 v1 v2 v3 n s W) (hb : Below W.heap.size W W') : RdI w R L0 L1 L2 v1 v2 v3 n s W' :=
  ⟨fun hs => (hb.block _ (lt_of_heap (h.r hs))).trans (h.r hs), fun hs => (h.m hs).below hb, h.t.trans (hb.mono (by have := h.base; omega)), Nat.le_trans h.z hb.size, h.lt⟩
theorem RdI.step (h : RdI w R L0 L1 L2 v1 v2 v3 n s W) (hr : RdAt W' R (if s' = 0 then L0 else if s' = 1 then L1 else L2) v1 v2 v3) (ht : Turned (· = R) W W') (hs : s ≤ 2) : RdI w R L0 L1 L2 v1 v2 v3 n s' W' :=
  ⟨fun _ => hr, fun _ => (h.m hs).kept ht (fun k hk e => by omega), h.t.trans (ht.toBelow (by have := h.base; omega) (fun k _ e => by have e : k = R := e; omega)), Nat.le_trans h.z ht.size, h.lt⟩
theorem RdI.new (hr : RdAt w R L0 v1 v2 v3) (hm : NdOwn w (R + 1) v1 v2 v3 n) : RdI w R L0 L1 L2 v1 v2 v3 n 0 w :=
  ⟨fun _ => hr, fun _ => hm, Below.refl _ _, Nat.le_refl _, lt_of_heap hr⟩
end
/-- What a part leaves. -/
def PartPost (w : World) (R : Nat) (L : List UInt8) (n : Nd) (e : Ending) (w' : World) : Prop := e = .returned (.tuple #[]) ∧ ∃ v1 v2 v3, RdAt w' R L v1 v2 v3 ∧ NdOwn w' (R + 1) v1 v2 v3 n ∧ Below R w w'

set_option maxRecDepth 20000 in
set_option maxHeartbeats 4000000 in
theorem part_pair {w : World} {R : Nat} {v1 v2 v3 : Value} {n : Nd} (k v M : List UInt8) (at' : Nat) (hk : k.length ≤ 255) (hv : v.length ≤ 255) (hM : M.length ≤ 400) (hl : n.ps.length ≤ 1000) (h : RdAt w R (putB k.length 1 ++ (k ++ (putB v.length 1 ++ (v ++ M)))) v1 v2 v3) (hm : NdOwn w (R + 1) v1 v2 v3 n) : Calls Tryz.prog 103 #[.pointer (some ⟨R, 0, none⟩), .int .i64 1, .int .i64 at'] w (PartPost w R M { n with ps := n.ps ++ [⟨k, v⟩] }) := by
  obtain ⟨L0, hL0⟩ : ∃ L0, putB k.length 1 ++ (k ++ (putB v.length 1 ++ (v ++ M))) = L0 := ⟨_, rfl⟩
  obtain ⟨L1, hL1⟩ : ∃ L1, putB v.length 1 ++ (v ++ M) = L1 := ⟨_, rfl⟩
  obtain ⟨L2, hL2⟩ : ∃ L2, M = L2 := ⟨_, rfl⟩
  have hl1 : L1.length ≤ 1000 := by rw [← hL1]; simp; omega
  have HT1 : Veil (∀ W, RdAt W R L0 v1 v2 v3 → Calls Tryz.prog 137 #[.pointer (some ⟨R, 0, none⟩)] W fun e w' => e = .returned (.string ⟨k.toArray⟩) ∧ RdAt w' R L1 v1 v2 v3 ∧ Turned (· = R) W w') := ⟨fun W hW => rtext_any k L1 (by rw [← hL0, hL1] at hW; exact hW) hk hl1⟩
  have HT2 : Veil (∀ W, RdAt W R L1 v1 v2 v3 → Calls Tryz.prog 137 #[.pointer (some ⟨R, 0, none⟩)] W fun e w' => e = .returned (.string ⟨v.toArray⟩) ∧ RdAt w' R L2 v1 v2 v3 ∧ Turned (· = R) W w') := ⟨fun W hW => rtext_any v L2 (by rw [← hL1, hL2] at hW; exact hW) hv (by rw [← hL2]; omega)⟩
  rw [hL0] at h
  have HI0 : Veil (RdI w R L0 L1 L2 v1 v2 v3 n 0 w.drew) := ⟨by
    obtain ⟨h1, h2, h3, h4, h5⟩ := RdI.new (L1 := L1) (L2 := L2) h hm
    exact ⟨fun hs => h1 hs, fun hs => (h2 hs).below (Below.refl _ _).drew, h3.drew, h4, h5⟩⟩
  have HIB : Veil (∀ s W, RdI w R L0 L1 L2 v1 v2 v3 n s W → ∀ W', Below W.heap.size W W' → RdI w R L0 L1 L2 v1 v2 v3 n s W') := ⟨fun s W h W' hb => h.below hb⟩
  have HIZ : Veil (∀ s W, RdI w R L0 L1 L2 v1 v2 v3 n s W → w.heap.size ≤ W.heap.size) := ⟨fun s W h => h.z⟩
  have hlr : R < w.heap.size := lt_of_heap h
  have HTR : Veil (∀ W W' : World, Turned (· = R) W W' → Turned (· < w.heap.size) W W') := ⟨fun W W' ht => ht.wider fun k _ e => by have e : k = R := e; omega⟩
  have HFw : Veil (n.ps.length ≤ 1000000) := ⟨by omega⟩
  have HAp : Veil (∀ {s : Nat} (W : World), RdI w R L0 L1 L2 v1 v2 v3 n s W → 2 ≤ s → s ≤ 2 → ∀ v9 w9, OwnE elP w9 (R + 1) v9 (n.ps ++ [⟨k, v⟩]) → W.grownBy w9 v1.ownBlock → (∀ k, v9.ownBlock = some k → v1.ownBlock = some k ∨ W.heap.size ≤ k) → RdI w R L0 L1 L2 v1 v2 v3 n 3 w9 ∧ Turned (· < w.heap.size) W w9 ∧ NdOwn w9 (R + 1) v9 v2 v3 { n with ps := n.ps ++ [⟨k, v⟩] } ∧ RdAt w9 R L2 v1 v2 v3) := ⟨by
    intro s W hI h1 h2 v9 w9 ho hg hv9
    obtain rfl : s = 2 := by omega
    have hT : Turned (fun j => v1.ownBlock = some j) W w9 := Turned.grown hg (fun j hj _ => hj)
    have hr : RdAt W R L2 v1 v2 v3 := hI.r (by omega)
    refine ⟨⟨fun h => absurd h (by omega), fun h => absurd h (by omega), hI.t.trans (hT.toBelow (by have := hI.base; omega) (fun j _ e => by have := (hm.p.lt e).1; omega)), Nat.le_trans hI.z hT.size, hI.lt⟩, hT.wider fun j _ e => (hm.p.lt e).2, (hI.m (by omega)).putP hg ho hv9, hT.heap hr (fun e => by have := (hm.p.lt e).1; omega)⟩⟩
  have HEnd : Veil (∀ (u : Value) (W : World) (s : Nat), RdI w R L0 L1 L2 v1 v2 v3 n s W → NdOwn W (R + 1) u v2 v3 { n with ps := n.ps ++ [⟨k, v⟩] } → RdAt W R L2 v1 v2 v3 → (∃ u1 u2 u3, RdAt (W.setCell ⟨R, 1, none⟩ u) R M u1 u2 u3 ∧ NdOwn (W.setCell ⟨R, 1, none⟩ u) (R + 1) u1 u2 u3 { n with ps := n.ps ++ [⟨k, v⟩] } ∧ Below R w (W.setCell ⟨R, 1, none⟩ u))) := ⟨by
    intro u W s hI hn hr
    have hT : Turned (· = R) W (W.setCell ⟨R, 1, none⟩ u) := (Turned.refl (· = R) W).setCell (p := ⟨R, 1, none⟩) rfl _
    refine ⟨u, v2, v3, by rw [hL2]; exact heap_setCell_at hr 1 _, hn.kept hT (fun j hj e => by have e : j = R := e; omega), hI.t.trans (hT.toBelow (by have := hI.base; omega) (fun j _ e => by have e : j = R := e; omega))⟩⟩
  clear h hm hk hv hM hl hl1 hL0 hL1 hL2
  unfold PartPost
  go_enter Tryz.func103, Tryz.ntmps103
  go_wp2
  refine region_world 17 [[], [], [(1, 13)], [(2, 14)], [(3, 15)], [(4, 16)], [], [(6, 18)], [(7, 19)], [(8, 20)], [], [(10, 22)], [(11, 23)], [(12, 24)], [(9, 21), (13, 25)], [(14, 26)], [(5, 17), (15, 27)]]
    [[], [], [1], [2], [3], [4], [], [6], [7], [8], [], [10], [11], [9, 12], [9, 13], [14], [5, 13, 15]]
    [(0, 12), (1, 13), (2, 14), (3, 15), (4, 16), (5, 17), (6, 18), (7, 19), (8, 20), (9, 21), (10, 22), (11, 23), (12, 24), (13, 25), (14, 26), (15, 27), (16, 28)]
    (w.heap.size) 3 (RdI w R L0 L1 L2 v1 v2 v3 n)
    [.is (.pointer (some ⟨R, 0, none⟩)), .is (.pointer (some ⟨R, 0, none⟩)), .is (.pointer (some ⟨R, 0, none⟩)), .is (.pointer (some ⟨R, 1, none⟩)), .is (.pointer (some ⟨R, 1, none⟩)), .is (v1), .is (.pointer (some ⟨R, 0, none⟩)), .is (.pointer (some ⟨R, 0, none⟩)), .is (.pointer (some ⟨R, 0, none⟩)), .is (.string ⟨k.toArray⟩), .is (.pointer (some ⟨R, 0, none⟩)), .is (.pointer (some ⟨R, 0, none⟩)), .is (.pointer (some ⟨R, 0, none⟩)), .is (.string ⟨v.toArray⟩), .is (.agg #[.string ⟨k.toArray⟩, .string ⟨v.toArray⟩]), .row (fun g => .slice (some ⟨g, 0, none⟩) 1 1) #[.string ⟨k.toArray⟩, .string ⟨v.toArray⟩] 37, .last ((fun u W => NdOwn W (R + 1) u v2 v3 { n with ps := n.ps ++ [⟨k, v⟩] } ∧ RdAt W R L2 v1 v2 v3))]
    (fun i => [0, 0, 0, 0, 0, 0, 0, 0, 0, 1, 0, 0, 0, 2, 2, 2, 3].getD i 0) (fun i => [3, 3, 3, 3, 3, 2, 3, 3, 3, 0, 3, 3, 3, 1, 3, 2, 2].getD i 3) rfl (by kernel_rfl) ?_ ⟨?_, ?_, ?_, ?_, ?_, ?_, ?_, ?_, ?_, ?_, ?_, ?_, ?_, ?_, ?_, ?_, ?_, trivial⟩ ?_
  · exact HI0.out
  · intro vals s W hI hs _
    have hs : s ≤ 3 := hs
    dsimp only [putsL, slotOf]
    go_wp2
    exact ⟨rfl, s, hI, ⟨Nat.le_refl _, Turned.refl _ _, fun _ => rfl⟩, (by first | exact ⟨rfl, (show 0 ≤ s by omega)⟩ | exact rfl), (by intros; assumption)⟩
  · intro vals s W hI hs _
    have hs : s ≤ 3 := hs
    dsimp only [putsL, slotOf]
    go_wp2
    exact ⟨rfl, s, hI, ⟨Nat.le_refl _, Turned.refl _ _, fun _ => rfl⟩, (by first | exact ⟨rfl, (show 0 ≤ s by omega)⟩ | exact rfl), (by intros; assumption)⟩
  · intro vals s W hI hs ⟨⟨h1, l1⟩, _⟩
    have hs : s ≤ 3 := hs
    have l1 : 0 ≤ s := l1
    have h1 : vals 1 = _ := h1
    dsimp only [putsL, slotOf]
    rw [h1]
    go_wp2
    exact ⟨rfl, s, hI, ⟨Nat.le_refl _, Turned.refl _ _, fun _ => rfl⟩, (by first | exact ⟨rfl, (show 0 ≤ s by omega)⟩ | exact rfl), (by intros; assumption)⟩
  · intro vals s W hI hs ⟨⟨h2, l2⟩, _⟩
    have hs : s ≤ 3 := hs
    have l2 : 0 ≤ s := l2
    have h2 : vals 2 = _ := h2
    dsimp only [putsL, slotOf]
    rw [h2]
    go_wp2
    exact ⟨rfl, s, hI, ⟨Nat.le_refl _, Turned.refl _ _, fun _ => rfl⟩, (by first | exact ⟨rfl, (show 0 ≤ s by omega)⟩ | exact rfl), (by intros; assumption)⟩
  · intro vals s W hI hs ⟨⟨h3, l3⟩, _⟩
    have hs : s ≤ 3 := hs
    have l3 : 0 ≤ s := l3
    have h3 : vals 3 = _ := h3
    dsimp only [putsL, slotOf]
    rw [h3]
    go_wp2
    exact ⟨rfl, s, hI, ⟨Nat.le_refl _, Turned.refl _ _, fun _ => rfl⟩, (by first | exact ⟨rfl, (show 0 ≤ s by omega)⟩ | exact rfl), (by intros; assumption)⟩
  · intro vals s W hI hs ⟨⟨h4, l4⟩, _⟩
    have hs : s ≤ 2 := hs
    have l4 : 0 ≤ s := l4
    have h4 : vals 4 = _ := h4
    obtain ⟨⟨-, b1, -, -⟩, -⟩ := (hI.r hs).cells
    dsimp only [putsL, slotOf]
    rw [h4]
    go_wp2
    exact ⟨rfl, s, hI, ⟨Nat.le_refl _, Turned.refl _ _, fun _ => rfl⟩, (by first | exact ⟨rfl, (show 0 ≤ s by omega)⟩ | exact rfl), (by intros; assumption)⟩
  · intro vals s W hI hs _
    have hs : s ≤ 3 := hs
    dsimp only [putsL, slotOf]
    go_wp2
    exact ⟨rfl, s, hI, ⟨Nat.le_refl _, Turned.refl _ _, fun _ => rfl⟩, (by first | exact ⟨rfl, (show 0 ≤ s by omega)⟩ | exact rfl), (by intros; assumption)⟩
  · intro vals s W hI hs ⟨⟨h6, l6⟩, _⟩
    have hs : s ≤ 3 := hs
    have l6 : 0 ≤ s := l6
    have h6 : vals 6 = _ := h6
    dsimp only [putsL, slotOf]
    rw [h6]
    go_wp2
    exact ⟨rfl, s, hI, ⟨Nat.le_refl _, Turned.refl _ _, fun _ => rfl⟩, (by first | exact ⟨rfl, (show 0 ≤ s by omega)⟩ | exact rfl), (by intros; assumption)⟩
  · intro vals s W hI hs ⟨⟨h7, l7⟩, _⟩
    have hs : s ≤ 3 := hs
    have l7 : 0 ≤ s := l7
    have h7 : vals 7 = _ := h7
    dsimp only [putsL, slotOf]
    rw [h7]
    go_wp2
    exact ⟨rfl, s, hI, ⟨Nat.le_refl _, Turned.refl _ _, fun _ => rfl⟩, (by first | exact ⟨rfl, (show 0 ≤ s by omega)⟩ | exact rfl), (by intros; assumption)⟩
  · intro vals s W hI hs ⟨⟨h8, l8⟩, _⟩
    have hs : s ≤ 0 := hs
    have l8 : 0 ≤ s := l8
    have h8 : vals 8 = _ := h8
    obtain rfl : s = 0 := by omega
    have hr0 : RdAt W R L0 v1 v2 v3 := hI.r (by omega)
    dsimp only [putsL, slotOf]
    rw [h8]
    go_wp2_with ((go_at_call 137; refine (HT1.out _ hr0).mono ?_; rintro e w4 ⟨rfl, hR4, ht4⟩; have hI4 := hI.step (s' := 1) hR4 ht4 (by omega); have hT4 := HTR.out _ _ ht4))
    refine ⟨rfl, 1, hI4, ⟨by omega, hT4, fun h => absurd h (by omega)⟩, (by first | exact ⟨rfl, (show 1 ≤ 1 by omega)⟩ | exact rfl), ?_⟩
    first | exact ub_more ([3, 3, 3, 3, 3, 2, 3, 3, 3, 0, 3, 3, 3, 1, 3, 2, 2] : List Nat) 1 3 9 0 [8] (by decide) (by decide) _ (by omega) | simpa using ub_more ([3, 3, 3, 3, 3, 2, 3, 3, 3, 0, 3, 3, 3, 1, 3, 2, 2] : List Nat) 1 3 9 0 [8] (by decide) (by decide) _ (by omega)
  · intro vals s W hI hs _
    have hs : s ≤ 3 := hs
    dsimp only [putsL, slotOf]
    go_wp2
    exact ⟨rfl, s, hI, ⟨Nat.le_refl _, Turned.refl _ _, fun _ => rfl⟩, (by first | exact ⟨rfl, (show 0 ≤ s by omega)⟩ | exact rfl), (by intros; assumption)⟩
  · intro vals s W hI hs ⟨⟨h10, l10⟩, _⟩
    have hs : s ≤ 3 := hs
    have l10 : 0 ≤ s := l10
    have h10 : vals 10 = _ := h10
    dsimp only [putsL, slotOf]
    rw [h10]
    go_wp2
    exact ⟨rfl, s, hI, ⟨Nat.le_refl _, Turned.refl _ _, fun _ => rfl⟩, (by first | exact ⟨rfl, (show 0 ≤ s by omega)⟩ | exact rfl), (by intros; assumption)⟩
  · intro vals s W hI hs ⟨⟨h11, l11⟩, _⟩
    have hs : s ≤ 3 := hs
    have l11 : 0 ≤ s := l11
    have h11 : vals 11 = _ := h11
    dsimp only [putsL, slotOf]
    rw [h11]
    go_wp2
    exact ⟨rfl, s, hI, ⟨Nat.le_refl _, Turned.refl _ _, fun _ => rfl⟩, (by first | exact ⟨rfl, (show 0 ≤ s by omega)⟩ | exact rfl), (by intros; assumption)⟩
  · intro vals s W hI hs ⟨⟨h9, l9⟩, ⟨h12, l12⟩, _⟩
    have hs : s ≤ 1 := hs
    have l9 : 1 ≤ s := l9
    have l12 : 0 ≤ s := l12
    have h12 : vals 12 = _ := h12
    obtain rfl : s = 1 := by omega
    have hr0 : RdAt W R L1 v1 v2 v3 := hI.r (by omega)
    dsimp only [putsL, slotOf]
    rw [h12]
    go_wp2_with ((go_at_call 137; refine (HT2.out _ hr0).mono ?_; rintro e w4 ⟨rfl, hR4, ht4⟩; have hI4 := hI.step (s' := 2) hR4 ht4 (by omega); have hT4 := HTR.out _ _ ht4))
    refine ⟨rfl, 2, hI4, ⟨by omega, hT4, fun h => absurd h (by omega)⟩, (by first | exact ⟨rfl, (show 2 ≤ 2 by omega)⟩ | exact rfl), ?_⟩
    first | exact ub_more ([3, 3, 3, 3, 3, 2, 3, 3, 3, 0, 3, 3, 3, 1, 3, 2, 2] : List Nat) 2 3 13 1 [9, 12] (by decide) (by decide) _ (by omega) | simpa using ub_more ([3, 3, 3, 3, 3, 2, 3, 3, 3, 0, 3, 3, 3, 1, 3, 2, 2] : List Nat) 2 3 13 1 [9, 12] (by decide) (by decide) _ (by omega)
  · intro vals s W hI hs ⟨⟨h9, l9⟩, ⟨h13, l13⟩, _⟩
    have hs : s ≤ 3 := hs
    have l9 : 1 ≤ s := l9
    have l13 : 2 ≤ s := l13
    have h9 : vals 9 = _ := h9
    have h13 : vals 13 = _ := h13
    dsimp only [putsL, slotOf]
    rw [h9, h13]
    go_wp2
    exact ⟨rfl, s, hI, ⟨Nat.le_refl _, Turned.refl _ _, fun _ => rfl⟩, (by first | exact ⟨rfl, (show 2 ≤ s by omega)⟩ | exact rfl), (by intros; assumption)⟩
  · intro vals s W hI hs ⟨⟨h14, l14⟩, _⟩
    have hs : s ≤ 2 := hs
    have l14 : 2 ≤ s := l14
    have h14 : vals 14 = _ := h14
    dsimp only [putsL, slotOf]
    rw [h14]
    go_wp2
    exact ⟨rfl, s, HIB.out _ _ hI _ (below_al (Below.refl _ _) _), ⟨Nat.le_refl _, (Turned.refl _ _).alloc _, fun h => absurd h (by omega)⟩, (by first | exact ⟨⟨_, HIZ.out _ _ hI, rfl, heap_alloc_new _ _⟩, (show 2 ≤ s by omega)⟩ | exact ⟨_, HIZ.out _ _ hI, rfl, heap_alloc_new _ _⟩), (by intros; assumption)⟩
  · intro vals s W hI hs ⟨⟨h5, l5⟩, ⟨h13, l13⟩, ⟨⟨g15, hw15, h15, hg15⟩, l15⟩, _⟩
    have hs : s ≤ 2 := hs
    have l5 : 0 ≤ s := l5
    have l13 : 2 ≤ s := l13
    have l15 : 2 ≤ s := l15
    have h5 : vals 5 = _ := h5
    have h15 : vals 15 = _ := h15
    dsimp only [putsL, slotOf]
    rw [h5, h15]
    go_wp2_with ((at_builtin; refine wpList_append_el elP rfl _ _ rfl (R + 1) v1 n.ps ⟨k, v⟩ rfl (hI.m hs).p g15 rfl hg15 HFw.out hI.base ?_; intro v9 w9 hown9 hgr9 hv9; obtain ⟨hI4, hT4, hL4⟩ := HAp.out _ hI (by omega) (by omega) _ _ hown9 hgr9 hv9))
    refine ⟨rfl, 3, hI4, ⟨by omega, hT4, fun h => absurd h (by omega)⟩, (by first | exact ⟨⟨hL4, Nat.le_refl 3⟩, (show 3 ≤ 3 by omega)⟩ | exact ⟨hL4, Nat.le_refl 3⟩), ?_⟩
    first | exact ub_more ([3, 3, 3, 3, 3, 2, 3, 3, 3, 0, 3, 3, 3, 1, 3, 2, 2] : List Nat) 3 3 16 2 [5, 13, 15] (by decide) (by decide) _ (by omega) | simpa using ub_more ([3, 3, 3, 3, 3, 2, 3, 3, 3, 0, 3, 3, 3, 1, 3, 2, 2] : List Nat) 3 3 16 2 [5, 13, 15] (by decide) (by decide) _ (by omega)
  rintro vals s W hI hq
  have q0 : vals 0 = _ := (hq 0 (by decide)).1
  have q1 : vals 1 = _ := (hq 1 (by decide)).1
  have q2 : vals 2 = _ := (hq 2 (by decide)).1
  have q3 : vals 3 = _ := (hq 3 (by decide)).1
  have q4 : vals 4 = _ := (hq 4 (by decide)).1
  have q5 : vals 5 = _ := (hq 5 (by decide)).1
  have q6 : vals 6 = _ := (hq 6 (by decide)).1
  have q7 : vals 7 = _ := (hq 7 (by decide)).1
  have q8 : vals 8 = _ := (hq 8 (by decide)).1
  have q9 : vals 9 = _ := (hq 9 (by decide)).1
  have q10 : vals 10 = _ := (hq 10 (by decide)).1
  have q11 : vals 11 = _ := (hq 11 (by decide)).1
  have q12 : vals 12 = _ := (hq 12 (by decide)).1
  have q13 : vals 13 = _ := (hq 13 (by decide)).1
  have q14 : vals 14 = _ := (hq 14 (by decide)).1
  obtain ⟨⟨g15, hw15, q15, hg15⟩, -⟩ := hq 15 (by decide)
  have q15 : vals 15 = _ := q15
  obtain ⟨⟨hL16, hLs16⟩, -⟩ := hq 16 (by decide)
  dsimp only [putsL]
  rw [q0, q1, q2, q3, q4, q5, q6, q7, q8, q9, q10, q11, q12, q13, q14, q15]
  clear hq q0 q1 q2 q3 q4 q5 q6 q7 q8 q9 q10 q11 q12 q13 q14 q15
  simp only [List.drop_succ_cons, List.drop_zero, List.setIfInBounds_toArray, List.set_cons_succ, List.set_cons_zero]
  obtain ⟨hLa, hLb⟩ := hL16
  obtain ⟨pu, cu, hu, -⟩ := hLa.p.form
  rw [hu] at hLa
  rw [hu]
  have hlR : R < W.heap.size := lt_of_heap hLb
  obtain ⟨⟨-, b1, -, -⟩, f0⟩ := hLb.cells
  have f1 := f0 1
  have HEN : Veil _ := ⟨HEnd.out _ W s hI hLa hLb⟩
  clear hI hLa hLb
  go_wp2
  go_end0
  have e := HEN.out
  rw [List.length_append] at e
  exact ⟨rfl, e⟩
end Go.Proofs.YtokbmimbbeedcaaGreatDoor

/- Nodes read by the program: a kid; a key with its kid. -/
namespace Go.Proofs.YtokbmimbbeedcaaGreatDoor
open Go Go.RowKit Sm
attribute [local go_sem] Oper.semAt_some

set_option maxRecDepth 20000 in
set_option maxHeartbeats 4000000 in
theorem part_kid {w : World} {R : Nat} {v1 v2 v3 : Value} {n : Nd} (d : Nat) (M : List UInt8) (hd : d < 4294967296) (hM : M.length ≤ 400) (hl : n.ds.length ≤ 1000) (ha : RdAt w R (putB d 4 ++ M) v1 v2 v3) (hma : NdOwn w (R + 1) v1 v2 v3 n) : Calls Tryz.prog 103 #[.pointer (some ⟨R, 0, none⟩), .int .i64 2, .int .i64 0] w (PartPost w R M { n with ds := n.ds ++ [d] }) := by
  obtain ⟨L0, hL0⟩ : ∃ L0, putB d 4 ++ M = L0 := ⟨_, rfl⟩
  obtain ⟨L2, hL2⟩ : ∃ L2, M = L2 := ⟨_, rfl⟩
  have hl4 : (putB d 4).length = 4 := putB_length _ _
  have HT1a : Veil (∀ W, RdAt W R L0 v1 v2 v3 → Calls Tryz.prog 102 #[.pointer (some ⟨R, 0, none⟩), .int .i64 4] W fun e w' => e = .returned (.int .i64 d) ∧ RdAt w' R L2 v1 v2 v3 ∧ Turned (· = R) W w') := ⟨fun W hW => by
    rw [← hL0] at hW
    have := rnumber_any hW 4 (by rw [List.length_append]; omega) (by decide) (by rw [List.length_append]; omega)
    rw [List.take_append_of_le_length (by omega), List.take_of_length_le (by omega), getB_putB _ 4 (by decide) (by omega), List.drop_append_of_le_length (by omega), List.drop_eq_nil_of_le (by omega), List.nil_append, hL2] at this
    exact this⟩
  rw [hL0] at ha
  have HFwa : Veil (n.ds.length ≤ 1000000) := ⟨by omega⟩
  have HI0a : Veil (RdI w R L0 L2 L2 v1 v2 v3 n 0 w.drew) := ⟨by
    obtain ⟨h1, h2, h3, h4, h5⟩ := RdI.new (L1 := L2) (L2 := L2) ha hma
    exact ⟨fun hs => h1 hs, fun hs => (h2 hs).below (Below.refl _ _).drew, h3.drew, h4, h5⟩⟩
  have HIBa : Veil (∀ s W, RdI w R L0 L2 L2 v1 v2 v3 n s W → ∀ W', Below W.heap.size W W' → RdI w R L0 L2 L2 v1 v2 v3 n s W') := ⟨fun s W h W' hb => h.below hb⟩
  have HIZa : Veil (∀ s W, RdI w R L0 L2 L2 v1 v2 v3 n s W → w.heap.size ≤ W.heap.size) := ⟨fun s W h => h.z⟩
  have hlra : R < w.heap.size := lt_of_heap ha
  have HTRa : Veil (∀ W W' : World, Turned (· = R) W W' → Turned (· < w.heap.size) W W') := ⟨fun W W' ht => ht.wider fun k _ e => by have e : k = R := e; omega⟩
  have HApa : Veil (∀ {s : Nat} (W : World), RdI w R L0 L2 L2 v1 v2 v3 n s W → 2 ≤ s → s ≤ 2 → ∀ v9 w9, OwnE elD w9 (R + 1) v9 (n.ds ++ [d]) → W.grownBy w9 v3.ownBlock → (∀ k, v9.ownBlock = some k → v3.ownBlock = some k ∨ W.heap.size ≤ k) → RdI w R L0 L2 L2 v1 v2 v3 n 3 w9 ∧ Turned (· < w.heap.size) W w9 ∧ NdOwn w9 (R + 1) v1 v2 v9 { n with ds := n.ds ++ [d] } ∧ RdAt w9 R L2 v1 v2 v3) := ⟨by
    intro s W hI h1 h2 v9 w9 ho hg hv9
    obtain rfl : s = 2 := by omega
    have hT : Turned (fun j => v3.ownBlock = some j) W w9 := Turned.grown hg (fun j hj _ => hj)
    have hr : RdAt W R L2 v1 v2 v3 := hI.r (by omega)
    refine ⟨⟨fun h => absurd h (by omega), fun h => absurd h (by omega), hI.t.trans (hT.toBelow (by have := hI.base; omega) (fun j _ e => by have := (hma.d.lt e).1; omega)), Nat.le_trans hI.z hT.size, hI.lt⟩, hT.wider fun j _ e => (hma.d.lt e).2, (hI.m (by omega)).putD hg ho hv9, hT.heap hr (fun e => by have := (hma.d.lt e).1; omega)⟩⟩
  have HEnda : Veil (∀ (u : Value) (W : World) (s : Nat), RdI w R L0 L2 L2 v1 v2 v3 n s W → NdOwn W (R + 1) v1 v2 u { n with ds := n.ds ++ [d] } → RdAt W R L2 v1 v2 v3 → RdAt (W.setCell ⟨R, 3, none⟩ u) R L2 v1 v2 u ∧ NdOwn (W.setCell ⟨R, 3, none⟩ u) (R + 1) v1 v2 u { n with ds := n.ds ++ [d] } ∧ Below R w (W.setCell ⟨R, 3, none⟩ u)) := ⟨by
    intro u W s hI hn hr
    have hT : Turned (· = R) W (W.setCell ⟨R, 3, none⟩ u) := (Turned.refl (· = R) W).setCell (p := ⟨R, 3, none⟩) rfl _
    exact ⟨heap_setCell_at hr 3 _, hn.kept hT (fun j hj e => by have e : j = R := e; omega), hI.t.trans (hT.toBelow (by have := hI.base; omega) (fun j _ e => by have e : j = R := e; omega))⟩⟩
  rw [hL2]
  clear ha hma hM hl hL0 hL2 hl4
  unfold PartPost
  go_enter Tryz.func103, Tryz.ntmps103
  go_wp2
  refine region_world 13 [[], [], [(1, 48)], [(2, 49)], [(3, 50)], [(4, 51)], [], [(6, 53)], [(7, 54)], [(8, 55)], [(9, 56)], [(10, 57)], [(5, 52), (11, 58)]]
    [[], [], [1], [2], [3], [4], [], [6], [7], [8], [9], [10], [5, 9, 11]]
    [(0, 47), (1, 48), (2, 49), (3, 50), (4, 51), (5, 52), (6, 53), (7, 54), (8, 55), (9, 56), (10, 57), (11, 58), (12, 59)]
    (w.heap.size) 3 (RdI w R L0 L2 L2 v1 v2 v3 n)
    [.is (.pointer (some ⟨R, 0, none⟩)), .is (.pointer (some ⟨R, 0, none⟩)), .is (.pointer (some ⟨R, 0, none⟩)), .is (.pointer (some ⟨R, 1, none⟩)), .is (.pointer (some ⟨R, 3, none⟩)), .is (v3), .is (.pointer (some ⟨R, 0, none⟩)), .is (.pointer (some ⟨R, 0, none⟩)), .is (.pointer (some ⟨R, 0, none⟩)), .is (.int .i64 d), .is (.int .u32 d), .row (fun g => .slice (some ⟨g, 0, none⟩) 1 1) #[.int .u32 d] 23, .last ((fun u W => NdOwn W (R + 1) v1 v2 u { n with ds := n.ds ++ [d] } ∧ RdAt W R L2 v1 v2 v3))]
    (fun i => [0, 0, 0, 0, 0, 0, 0, 0, 0, 2, 2, 2, 3].getD i 0) (fun i => [3, 3, 3, 3, 3, 2, 3, 3, 3, 0, 3, 2, 2].getD i 3) rfl (by kernel_rfl) ?_ ⟨?_, ?_, ?_, ?_, ?_, ?_, ?_, ?_, ?_, ?_, ?_, ?_, ?_, trivial⟩ ?_
  · exact HI0a.out
  · intro vals s W hI hs _
    have hs : s ≤ 3 := hs
    dsimp only [putsL, slotOf]
    go_wp2
    exact ⟨rfl, s, hI, ⟨Nat.le_refl _, Turned.refl _ _, fun _ => rfl⟩, (by first | exact ⟨rfl, (show 0 ≤ s by omega)⟩ | exact rfl), (by intros; assumption)⟩
  · intro vals s W hI hs _
    have hs : s ≤ 3 := hs
    dsimp only [putsL, slotOf]
    go_wp2
    exact ⟨rfl, s, hI, ⟨Nat.le_refl _, Turned.refl _ _, fun _ => rfl⟩, (by first | exact ⟨rfl, (show 0 ≤ s by omega)⟩ | exact rfl), (by intros; assumption)⟩
  · intro vals s W hI hs ⟨⟨h1, l1⟩, _⟩
    have hs : s ≤ 3 := hs
    have l1 : 0 ≤ s := l1
    have h1 : vals 1 = _ := h1
    dsimp only [putsL, slotOf]
    rw [h1]
    go_wp2
    exact ⟨rfl, s, hI, ⟨Nat.le_refl _, Turned.refl _ _, fun _ => rfl⟩, (by first | exact ⟨rfl, (show 0 ≤ s by omega)⟩ | exact rfl), (by intros; assumption)⟩
  · intro vals s W hI hs ⟨⟨h2, l2⟩, _⟩
    have hs : s ≤ 3 := hs
    have l2 : 0 ≤ s := l2
    have h2 : vals 2 = _ := h2
    dsimp only [putsL, slotOf]
    rw [h2]
    go_wp2
    exact ⟨rfl, s, hI, ⟨Nat.le_refl _, Turned.refl _ _, fun _ => rfl⟩, (by first | exact ⟨rfl, (show 0 ≤ s by omega)⟩ | exact rfl), (by intros; assumption)⟩
  · intro vals s W hI hs ⟨⟨h3, l3⟩, _⟩
    have hs : s ≤ 3 := hs
    have l3 : 0 ≤ s := l3
    have h3 : vals 3 = _ := h3
    dsimp only [putsL, slotOf]
    rw [h3]
    go_wp2
    exact ⟨rfl, s, hI, ⟨Nat.le_refl _, Turned.refl _ _, fun _ => rfl⟩, (by first | exact ⟨rfl, (show 0 ≤ s by omega)⟩ | exact rfl), (by intros; assumption)⟩
  · intro vals s W hI hs ⟨⟨h4, l4⟩, _⟩
    have hs : s ≤ 2 := hs
    have l4 : 0 ≤ s := l4
    have h4 : vals 4 = _ := h4
    obtain ⟨⟨-, b1, b2, b3⟩, -⟩ := (hI.r hs).cells
    dsimp only [putsL, slotOf]
    rw [h4]
    go_wp2
    exact ⟨rfl, s, hI, ⟨Nat.le_refl _, Turned.refl _ _, fun _ => rfl⟩, (by first | exact ⟨rfl, (show 0 ≤ s by omega)⟩ | exact rfl), (by intros; assumption)⟩
  · intro vals s W hI hs _
    have hs : s ≤ 3 := hs
    dsimp only [putsL, slotOf]
    go_wp2
    exact ⟨rfl, s, hI, ⟨Nat.le_refl _, Turned.refl _ _, fun _ => rfl⟩, (by first | exact ⟨rfl, (show 0 ≤ s by omega)⟩ | exact rfl), (by intros; assumption)⟩
  · intro vals s W hI hs ⟨⟨h6, l6⟩, _⟩
    have hs : s ≤ 3 := hs
    have l6 : 0 ≤ s := l6
    have h6 : vals 6 = _ := h6
    dsimp only [putsL, slotOf]
    rw [h6]
    go_wp2
    exact ⟨rfl, s, hI, ⟨Nat.le_refl _, Turned.refl _ _, fun _ => rfl⟩, (by first | exact ⟨rfl, (show 0 ≤ s by omega)⟩ | exact rfl), (by intros; assumption)⟩
  · intro vals s W hI hs ⟨⟨h7, l7⟩, _⟩
    have hs : s ≤ 3 := hs
    have l7 : 0 ≤ s := l7
    have h7 : vals 7 = _ := h7
    dsimp only [putsL, slotOf]
    rw [h7]
    go_wp2
    exact ⟨rfl, s, hI, ⟨Nat.le_refl _, Turned.refl _ _, fun _ => rfl⟩, (by first | exact ⟨rfl, (show 0 ≤ s by omega)⟩ | exact rfl), (by intros; assumption)⟩
  · intro vals s W hI hs ⟨⟨h8, l8⟩, _⟩
    have hs : s ≤ 0 := hs
    have l8 : 0 ≤ s := l8
    have h8 : vals 8 = _ := h8
    obtain rfl : s = 0 := by omega
    have hr0 : RdAt W R L0 v1 v2 v3 := hI.r (by omega)
    dsimp only [putsL, slotOf]
    rw [h8]
    go_wp2_with ((go_at_call 102; refine (HT1a.out _ hr0).mono ?_; rintro e w4 ⟨rfl, hR4, ht4⟩; have hI4 := hI.step (s' := 2) hR4 ht4 (by omega); have hT4 := HTRa.out _ _ ht4))
    refine ⟨rfl, 2, hI4, ⟨by omega, hT4, fun h => absurd h (by omega)⟩, (by first | exact ⟨rfl, (show 2 ≤ 2 by omega)⟩ | exact rfl), ?_⟩
    first | exact ub_more ([3, 3, 3, 3, 3, 2, 3, 3, 3, 0, 3, 2, 2] : List Nat) 2 3 9 0 [8] (by decide) (by decide) _ (by omega) | simpa using ub_more ([3, 3, 3, 3, 3, 2, 3, 3, 3, 0, 3, 2, 2] : List Nat) 2 3 9 0 [8] (by decide) (by decide) _ (by omega)
  · intro vals s W hI hs ⟨⟨h9, l9⟩, _⟩
    have hs : s ≤ 3 := hs
    have l9 : 2 ≤ s := l9
    have h9 : vals 9 = _ := h9
    dsimp only [putsL, slotOf]
    rw [h9]
    go_wp2
    exact ⟨rfl, s, hI, ⟨Nat.le_refl _, Turned.refl _ _, fun _ => rfl⟩, (by first | exact ⟨rfl, (show 2 ≤ s by omega)⟩ | exact rfl), (by intros; assumption)⟩
  · intro vals s W hI hs ⟨⟨h10, l10⟩, _⟩
    have hs : s ≤ 2 := hs
    have l10 : 2 ≤ s := l10
    have h10 : vals 10 = _ := h10
    dsimp only [putsL, slotOf]
    rw [h10]
    go_wp2
    exact ⟨rfl, s, HIBa.out _ _ hI _ (below_al (Below.refl _ _) _), ⟨Nat.le_refl _, (Turned.refl _ _).alloc _, fun h => absurd h (by omega)⟩, (by first | exact ⟨⟨_, HIZa.out _ _ hI, rfl, heap_alloc_new _ _⟩, (show 2 ≤ s by omega)⟩ | exact ⟨_, HIZa.out _ _ hI, rfl, heap_alloc_new _ _⟩), (by intros; assumption)⟩
  · intro vals s W hI hs ⟨⟨h5, l5⟩, ⟨h9, l9⟩, ⟨⟨g11, hw11, h11, hg11⟩, l11⟩, _⟩
    have hs : s ≤ 2 := hs
    have l5 : 0 ≤ s := l5
    have l9 : 2 ≤ s := l9
    have l11 : 2 ≤ s := l11
    have h5 : vals 5 = _ := h5
    have h11 : vals 11 = _ := h11
    dsimp only [putsL, slotOf]
    rw [h5, h11]
    go_wp2_with ((at_builtin; refine wpList_append_el elD rfl _ _ rfl (R + 1) v3 n.ds d rfl (hI.m hs).d g11 rfl hg11 HFwa.out hI.base ?_; intro v9 w9 hown9 hgr9 hv9; obtain ⟨hI4, hT4, hL4⟩ := HApa.out _ hI (by omega) (by omega) _ _ hown9 hgr9 hv9))
    refine ⟨rfl, 3, hI4, ⟨by omega, hT4, fun h => absurd h (by omega)⟩, (by first | exact ⟨⟨hL4, Nat.le_refl 3⟩, (show 3 ≤ 3 by omega)⟩ | exact ⟨hL4, Nat.le_refl 3⟩), ?_⟩
    first | exact ub_more ([3, 3, 3, 3, 3, 2, 3, 3, 3, 0, 3, 2, 2] : List Nat) 3 3 12 2 [5, 9, 11] (by decide) (by decide) _ (by omega) | simpa using ub_more ([3, 3, 3, 3, 3, 2, 3, 3, 3, 0, 3, 2, 2] : List Nat) 3 3 12 2 [5, 9, 11] (by decide) (by decide) _ (by omega)
  rintro vals s W hI hq
  have q0 : vals 0 = _ := (hq 0 (by decide)).1
  have q1 : vals 1 = _ := (hq 1 (by decide)).1
  have q2 : vals 2 = _ := (hq 2 (by decide)).1
  have q3 : vals 3 = _ := (hq 3 (by decide)).1
  have q4 : vals 4 = _ := (hq 4 (by decide)).1
  have q5 : vals 5 = _ := (hq 5 (by decide)).1
  have q6 : vals 6 = _ := (hq 6 (by decide)).1
  have q7 : vals 7 = _ := (hq 7 (by decide)).1
  have q8 : vals 8 = _ := (hq 8 (by decide)).1
  have q9 : vals 9 = _ := (hq 9 (by decide)).1
  have q10 : vals 10 = _ := (hq 10 (by decide)).1
  obtain ⟨⟨g11, hw11, q11, hg11⟩, -⟩ := hq 11 (by decide)
  have q11 : vals 11 = _ := q11
  obtain ⟨⟨hL12, hLs12⟩, -⟩ := hq 12 (by decide)
  dsimp only [putsL]
  rw [q0, q1, q2, q3, q4, q5, q6, q7, q8, q9, q10, q11]
  clear hq q0 q1 q2 q3 q4 q5 q6 q7 q8 q9 q10 q11
  simp only [List.drop_succ_cons, List.drop_zero, List.setIfInBounds_toArray, List.set_cons_succ, List.set_cons_zero]
  obtain ⟨hLa, hLb⟩ := hL12
  obtain ⟨pu, cu, hu, -⟩ := hLa.d.form
  rw [hu] at hLa
  rw [hu]
  have hlR : R < W.heap.size := lt_of_heap hLb
  obtain ⟨⟨-, b1, b2, b3⟩, f0⟩ := hLb.cells
  have f1 := f0 3
  have HENa : Veil _ := ⟨HEnda.out _ W s hI hLa hLb⟩
  clear hI hLa hLb f0 hLs12 hg11 q11 hw11
  go_wp2
  go_end0
  have e := HENa.out
  rw [List.length_append] at e
  exact ⟨rfl, _, _, _, e⟩

set_option maxRecDepth 20000 in
set_option maxHeartbeats 8000000 in
theorem part_key {w : World} {R : Nat} {v1 v2 v3 : Value} {n : Nd} (key : List UInt8) (d : Nat) (M : List UInt8) (at' : Nat) (hat : 0 < at') (hat2 : at' ≤ 1000) (hk : key.length ≤ 255) (hd : d < 4294967296) (hM : M.length ≤ 400) (hl : n.ds.length ≤ 1000) (hlk : n.ks.length ≤ 1000) (ha : RdAt w R (putB key.length 1 ++ (key ++ (putB d 4 ++ M))) v1 v2 v3) (hma : NdOwn w (R + 1) v1 v2 v3 n) : Calls Tryz.prog 103 #[.pointer (some ⟨R, 0, none⟩), .int .i64 2, .int .i64 at'] w (PartPost w R M { n with ks := n.ks ++ [key], ds := n.ds ++ [d] }) := by
  obtain ⟨L0, hL0⟩ : ∃ L0, putB key.length 1 ++ (key ++ (putB d 4 ++ M)) = L0 := ⟨_, rfl⟩
  obtain ⟨L2, hL2⟩ : ∃ L2, putB d 4 ++ M = L2 := ⟨_, rfl⟩
  obtain ⟨L3, hL3⟩ : ∃ L3, M = L3 := ⟨_, rfl⟩
  have hl4 : (putB d 4).length = 4 := putB_length _ _
  have hl2 : L2.length ≤ 1000 := by rw [← hL2, List.length_append]; omega
  have HT1a : Veil (∀ W, RdAt W R L0 v1 v2 v3 → Calls Tryz.prog 137 #[.pointer (some ⟨R, 0, none⟩)] W fun e w' => e = .returned (.string ⟨key.toArray⟩) ∧ RdAt w' R L2 v1 v2 v3 ∧ Turned (· = R) W w') := ⟨fun W hW => rtext_any key L2 (by rw [← hL0, hL2] at hW; exact hW) hk hl2⟩
  have HT1b : Veil (∀ v2 W, RdAt W R L2 v1 v2 v3 → Calls Tryz.prog 102 #[.pointer (some ⟨R, 0, none⟩), .int .i64 4] W fun e w' => e = .returned (.int .i64 d) ∧ RdAt w' R L3 v1 v2 v3 ∧ Turned (· = R) W w') := ⟨fun v2 W hW => by
    rw [← hL2] at hW
    have := rnumber_any hW 4 (by rw [List.length_append]; omega) (by decide) (by rw [List.length_append]; omega)
    rw [List.take_append_of_le_length (by omega), List.take_of_length_le (by omega), getB_putB _ 4 (by decide) (by omega), List.drop_append_of_le_length (by omega), List.drop_eq_nil_of_le (by omega), List.nil_append, hL3] at this
    exact this⟩
  rw [hL0] at ha
  have HFwa : Veil (n.ks.length ≤ 1000000) := ⟨by omega⟩
  have HFwd : Veil (n.ds.length ≤ 1000000) := ⟨by omega⟩
  have hat3 : (0 : Int) < at' := by omega
  have HI0a : Veil (RdI w R L0 L2 L2 v1 v2 v3 n 0 w.drew) := ⟨by
    obtain ⟨h1, h2, h3, h4, h5⟩ := RdI.new (L1 := L2) (L2 := L2) ha hma
    exact ⟨fun hs => h1 hs, fun hs => (h2 hs).below (Below.refl _ _).drew, h3.drew, h4, h5⟩⟩
  have HIBa : Veil (∀ s W, RdI w R L0 L2 L2 v1 v2 v3 n s W → ∀ W', Below W.heap.size W W' → RdI w R L0 L2 L2 v1 v2 v3 n s W') := ⟨fun s W h W' hb => h.below hb⟩
  have HIZa : Veil (∀ s W, RdI w R L0 L2 L2 v1 v2 v3 n s W → w.heap.size ≤ W.heap.size) := ⟨fun s W h => h.z⟩
  have hlra : R < w.heap.size := lt_of_heap ha
  have HTRa : Veil (∀ W W' : World, Turned (· = R) W W' → Turned (· < w.heap.size) W W') := ⟨fun W W' ht => ht.wider fun k _ e => by have e : k = R := e; omega⟩
  have HApa : Veil (∀ {s : Nat} (W : World), RdI w R L0 L2 L2 v1 v2 v3 n s W → 2 ≤ s → s ≤ 2 → ∀ v9 w9, OwnE elK w9 (R + 1) v9 (n.ks ++ [key]) → W.grownBy w9 v2.ownBlock → (∀ k, v9.ownBlock = some k → v2.ownBlock = some k ∨ W.heap.size ≤ k) → RdI w R L0 L2 L2 v1 v2 v3 n 3 w9 ∧ Turned (· < w.heap.size) W w9 ∧ NdOwn w9 (R + 1) v1 v9 v3 { n with ks := n.ks ++ [key] } ∧ RdAt w9 R L2 v1 v2 v3) := ⟨by
    intro s W hI h1 h2 v9 w9 ho hg hv9
    obtain rfl : s = 2 := by omega
    have hT : Turned (fun j => v2.ownBlock = some j) W w9 := Turned.grown hg (fun j hj _ => hj)
    have hr : RdAt W R L2 v1 v2 v3 := hI.r (by omega)
    refine ⟨⟨fun h => absurd h (by omega), fun h => absurd h (by omega), hI.t.trans (hT.toBelow (by have := hI.base; omega) (fun j _ e => by have := (hma.k.lt e).1; omega)), Nat.le_trans hI.z hT.size, hI.lt⟩, hT.wider fun j _ e => (hma.k.lt e).2, (hI.m (by omega)).putK hg ho hv9, hT.heap hr (fun e => by have := (hma.k.lt e).1; omega)⟩⟩
  have HEnda : Veil (∀ (u : Value) (W : World) (s : Nat), RdI w R L0 L2 L2 v1 v2 v3 n s W → NdOwn W (R + 1) v1 u v3 { n with ks := n.ks ++ [key] } → RdAt W R L2 v1 v2 v3 → RdAt (W.setCell ⟨R, 2, none⟩ u) R L2 v1 u v3 ∧ NdOwn (W.setCell ⟨R, 2, none⟩ u) (R + 1) v1 u v3 { n with ks := n.ks ++ [key] } ∧ Below R w (W.setCell ⟨R, 2, none⟩ u)) := ⟨by
    intro u W s hI hn hr
    have hT : Turned (· = R) W (W.setCell ⟨R, 2, none⟩ u) := (Turned.refl (· = R) W).setCell (p := ⟨R, 2, none⟩) rfl _
    exact ⟨heap_setCell_at hr 2 _, hn.kept hT (fun j hj e => by have e : j = R := e; omega), hI.t.trans (hT.toBelow (by have := hI.base; omega) (fun j _ e => by have e : j = R := e; omega))⟩⟩
  rw [hL3]
  clear ha hma hM hl hlk hl4 hl2 hL0 hL2 hL3 hk hat
  unfold PartPost
  go_enter Tryz.func103, Tryz.ntmps103
  go_wp2
  refine region_world 12 [[], [], [(1, 33)], [(2, 34)], [(3, 35)], [(4, 36)], [], [(6, 38)], [(7, 39)], [(8, 40)], [(9, 41)], [(5, 37), (10, 42)]]
    [[], [], [1], [2], [3], [4], [], [6], [7], [8], [9], [5, 9, 10]]
    [(0, 32), (1, 33), (2, 34), (3, 35), (4, 36), (5, 37), (6, 38), (7, 39), (8, 40), (9, 41), (10, 42), (11, 43)]
    (w.heap.size) 3 (RdI w R L0 L2 L2 v1 v2 v3 n)
    [.is (.pointer (some ⟨R, 0, none⟩)), .is (.pointer (some ⟨R, 0, none⟩)), .is (.pointer (some ⟨R, 0, none⟩)), .is (.pointer (some ⟨R, 1, none⟩)), .is (.pointer (some ⟨R, 2, none⟩)), .is (v2), .is (.pointer (some ⟨R, 0, none⟩)), .is (.pointer (some ⟨R, 0, none⟩)), .is (.pointer (some ⟨R, 0, none⟩)), .is (.string ⟨key.toArray⟩), .row (fun g => .slice (some ⟨g, 0, none⟩) 1 1) #[.string ⟨key.toArray⟩] 9, .last ((fun u W => NdOwn W (R + 1) v1 u v3 { n with ks := n.ks ++ [key] } ∧ RdAt W R L2 v1 v2 v3))]
    (fun i => [0, 0, 0, 0, 0, 0, 0, 0, 0, 2, 2, 3].getD i 0) (fun i => [3, 3, 3, 3, 3, 2, 3, 3, 3, 0, 2, 2].getD i 3) rfl (by kernel_rfl) ?_ ⟨?_, ?_, ?_, ?_, ?_, ?_, ?_, ?_, ?_, ?_, ?_, ?_, trivial⟩ ?_
  · exact HI0a.out
  · intro vals s W hI hs _
    have hs : s ≤ 3 := hs
    dsimp only [putsL, slotOf]
    go_wp2
    exact ⟨rfl, s, hI, ⟨Nat.le_refl _, Turned.refl _ _, fun _ => rfl⟩, (by first | exact ⟨rfl, (show 0 ≤ s by omega)⟩ | exact rfl), (by intros; assumption)⟩
  · intro vals s W hI hs _
    have hs : s ≤ 3 := hs
    dsimp only [putsL, slotOf]
    go_wp2
    exact ⟨rfl, s, hI, ⟨Nat.le_refl _, Turned.refl _ _, fun _ => rfl⟩, (by first | exact ⟨rfl, (show 0 ≤ s by omega)⟩ | exact rfl), (by intros; assumption)⟩
  · intro vals s W hI hs ⟨⟨h1, l1⟩, _⟩
    have hs : s ≤ 3 := hs
    have l1 : 0 ≤ s := l1
    have h1 : vals 1 = _ := h1
    dsimp only [putsL, slotOf]
    rw [h1]
    go_wp2
    exact ⟨rfl, s, hI, ⟨Nat.le_refl _, Turned.refl _ _, fun _ => rfl⟩, (by first | exact ⟨rfl, (show 0 ≤ s by omega)⟩ | exact rfl), (by intros; assumption)⟩
  · intro vals s W hI hs ⟨⟨h2, l2⟩, _⟩
    have hs : s ≤ 3 := hs
    have l2 : 0 ≤ s := l2
    have h2 : vals 2 = _ := h2
    dsimp only [putsL, slotOf]
    rw [h2]
    go_wp2
    exact ⟨rfl, s, hI, ⟨Nat.le_refl _, Turned.refl _ _, fun _ => rfl⟩, (by first | exact ⟨rfl, (show 0 ≤ s by omega)⟩ | exact rfl), (by intros; assumption)⟩
  · intro vals s W hI hs ⟨⟨h3, l3⟩, _⟩
    have hs : s ≤ 3 := hs
    have l3 : 0 ≤ s := l3
    have h3 : vals 3 = _ := h3
    dsimp only [putsL, slotOf]
    rw [h3]
    go_wp2
    exact ⟨rfl, s, hI, ⟨Nat.le_refl _, Turned.refl _ _, fun _ => rfl⟩, (by first | exact ⟨rfl, (show 0 ≤ s by omega)⟩ | exact rfl), (by intros; assumption)⟩
  · intro vals s W hI hs ⟨⟨h4, l4⟩, _⟩
    have hs : s ≤ 2 := hs
    have l4 : 0 ≤ s := l4
    have h4 : vals 4 = _ := h4
    obtain ⟨⟨-, b1, b2, b3⟩, -⟩ := (hI.r hs).cells
    dsimp only [putsL, slotOf]
    rw [h4]
    go_wp2
    exact ⟨rfl, s, hI, ⟨Nat.le_refl _, Turned.refl _ _, fun _ => rfl⟩, (by first | exact ⟨rfl, (show 0 ≤ s by omega)⟩ | exact rfl), (by intros; assumption)⟩
  · intro vals s W hI hs _
    have hs : s ≤ 3 := hs
    dsimp only [putsL, slotOf]
    go_wp2
    exact ⟨rfl, s, hI, ⟨Nat.le_refl _, Turned.refl _ _, fun _ => rfl⟩, (by first | exact ⟨rfl, (show 0 ≤ s by omega)⟩ | exact rfl), (by intros; assumption)⟩
  · intro vals s W hI hs ⟨⟨h6, l6⟩, _⟩
    have hs : s ≤ 3 := hs
    have l6 : 0 ≤ s := l6
    have h6 : vals 6 = _ := h6
    dsimp only [putsL, slotOf]
    rw [h6]
    go_wp2
    exact ⟨rfl, s, hI, ⟨Nat.le_refl _, Turned.refl _ _, fun _ => rfl⟩, (by first | exact ⟨rfl, (show 0 ≤ s by omega)⟩ | exact rfl), (by intros; assumption)⟩
  · intro vals s W hI hs ⟨⟨h7, l7⟩, _⟩
    have hs : s ≤ 3 := hs
    have l7 : 0 ≤ s := l7
    have h7 : vals 7 = _ := h7
    dsimp only [putsL, slotOf]
    rw [h7]
    go_wp2
    exact ⟨rfl, s, hI, ⟨Nat.le_refl _, Turned.refl _ _, fun _ => rfl⟩, (by first | exact ⟨rfl, (show 0 ≤ s by omega)⟩ | exact rfl), (by intros; assumption)⟩
  · intro vals s W hI hs ⟨⟨h8, l8⟩, _⟩
    have hs : s ≤ 0 := hs
    have l8 : 0 ≤ s := l8
    have h8 : vals 8 = _ := h8
    obtain rfl : s = 0 := by omega
    have hr0 : RdAt W R L0 v1 v2 v3 := hI.r (by omega)
    dsimp only [putsL, slotOf]
    rw [h8]
    go_wp2_with ((go_at_call 137; refine (HT1a.out _ hr0).mono ?_; rintro e w4 ⟨rfl, hR4, ht4⟩; have hI4 := hI.step (s' := 2) hR4 ht4 (by omega); have hT4 := HTRa.out _ _ ht4))
    refine ⟨rfl, 2, hI4, ⟨by omega, hT4, fun h => absurd h (by omega)⟩, (by first | exact ⟨rfl, (show 2 ≤ 2 by omega)⟩ | exact rfl), ?_⟩
    first | exact ub_more ([3, 3, 3, 3, 3, 2, 3, 3, 3, 0, 2, 2] : List Nat) 2 3 9 0 [8] (by decide) (by decide) _ (by omega) | simpa using ub_more ([3, 3, 3, 3, 3, 2, 3, 3, 3, 0, 2, 2] : List Nat) 2 3 9 0 [8] (by decide) (by decide) _ (by omega)
  · intro vals s W hI hs ⟨⟨h9, l9⟩, _⟩
    have hs : s ≤ 2 := hs
    have l9 : 2 ≤ s := l9
    have h9 : vals 9 = _ := h9
    dsimp only [putsL, slotOf]
    rw [h9]
    go_wp2
    exact ⟨rfl, s, HIBa.out _ _ hI _ (below_al (Below.refl _ _) _), ⟨Nat.le_refl _, (Turned.refl _ _).alloc _, fun h => absurd h (by omega)⟩, (by first | exact ⟨⟨_, HIZa.out _ _ hI, rfl, heap_alloc_new _ _⟩, (show 2 ≤ s by omega)⟩ | exact ⟨_, HIZa.out _ _ hI, rfl, heap_alloc_new _ _⟩), (by intros; assumption)⟩
  · intro vals s W hI hs ⟨⟨h5, l5⟩, ⟨h9, l9⟩, ⟨⟨g10, hw10, h10, hg10⟩, l10⟩, _⟩
    have hs : s ≤ 2 := hs
    have l5 : 0 ≤ s := l5
    have l9 : 2 ≤ s := l9
    have l10 : 2 ≤ s := l10
    have h5 : vals 5 = _ := h5
    have h10 : vals 10 = _ := h10
    dsimp only [putsL, slotOf]
    rw [h5, h10]
    go_wp2_with ((at_builtin; refine wpList_append_el elK rfl _ _ rfl (R + 1) v2 n.ks key rfl (hI.m hs).k g10 rfl hg10 HFwa.out hI.base ?_; intro v9 w9 hown9 hgr9 hv9; obtain ⟨hI4, hT4, hL4⟩ := HApa.out _ hI (by omega) (by omega) _ _ hown9 hgr9 hv9))
    refine ⟨rfl, 3, hI4, ⟨by omega, hT4, fun h => absurd h (by omega)⟩, (by first | exact ⟨⟨hL4, Nat.le_refl 3⟩, (show 3 ≤ 3 by omega)⟩ | exact ⟨hL4, Nat.le_refl 3⟩), ?_⟩
    first | exact ub_more ([3, 3, 3, 3, 3, 2, 3, 3, 3, 0, 2, 2] : List Nat) 3 3 11 2 [5, 9, 10] (by decide) (by decide) _ (by omega) | simpa using ub_more ([3, 3, 3, 3, 3, 2, 3, 3, 3, 0, 2, 2] : List Nat) 3 3 11 2 [5, 9, 10] (by decide) (by decide) _ (by omega)
  rintro vals s W hI hq
  have q0 : vals 0 = _ := (hq 0 (by decide)).1
  have q1 : vals 1 = _ := (hq 1 (by decide)).1
  have q2 : vals 2 = _ := (hq 2 (by decide)).1
  have q3 : vals 3 = _ := (hq 3 (by decide)).1
  have q4 : vals 4 = _ := (hq 4 (by decide)).1
  have q5 : vals 5 = _ := (hq 5 (by decide)).1
  have q6 : vals 6 = _ := (hq 6 (by decide)).1
  have q7 : vals 7 = _ := (hq 7 (by decide)).1
  have q8 : vals 8 = _ := (hq 8 (by decide)).1
  have q9 : vals 9 = _ := (hq 9 (by decide)).1
  obtain ⟨⟨g10, hw10, q10, hg10⟩, -⟩ := hq 10 (by decide)
  have q10 : vals 10 = _ := q10
  obtain ⟨⟨hL11, hLs11⟩, -⟩ := hq 11 (by decide)
  dsimp only [putsL]
  rw [q0, q1, q2, q3, q4, q5, q6, q7, q8, q9, q10]
  clear hq q0 q1 q2 q3 q4 q5 q6 q7 q8 q9 q10
  simp only [List.drop_succ_cons, List.drop_zero, List.setIfInBounds_toArray, List.set_cons_succ, List.set_cons_zero]
  obtain ⟨hLa, hLb⟩ := hL11
  obtain ⟨pu, cu, hu, -⟩ := hLa.k.form
  rw [hu] at hLa
  rw [hu]
  have hlR : R < W.heap.size := lt_of_heap hLb
  obtain ⟨⟨-, b1, b2, b3⟩, f0⟩ := hLb.cells
  have f1 := f0 2
  have HENa : Veil _ := ⟨HEnda.out _ W s hI hLa hLb⟩
  clear hI hLa hLb f0 hLs11 hg10 q10 hw10
  go_wp2
  have e := HENa.out
  rw [List.length_append, List.length_cons, List.length_nil] at e
  clear HENa b1 b2 b3 f1 hlR
  generalize hv2b : Value.slice pu (n.ks.length + 1) cu = v2b at e ⊢
  generalize W.setCell ⟨R, 2, none⟩ v2b = W1 at e ⊢
  obtain ⟨hb, hmb, hBb⟩ := e
  have HBb : Veil _ := ⟨hBb⟩
  obtain ⟨m, hm_⟩ : ∃ m, ({ n with ks := n.ks ++ [key] } : Nd) = m := ⟨_, rfl⟩
  have HFwb : Veil (m.ds.length ≤ 1000000) := ⟨by rw [← hm_]; exact HFwd.out⟩
  have HM : Veil ({ m with ds := m.ds ++ [d] } = ({ n with ks := n.ks ++ [key], ds := n.ds ++ [d] } : Nd)) := ⟨by rw [← hm_]⟩
  rw [hm_] at hmb
  clear hBb hm_ HFwd hu
  have HI0b : Veil (RdI W1 R L2 L3 L3 v1 v2b v3 m 0 W1.drew) := ⟨by
    obtain ⟨h1, h2, h3, h4, h5⟩ := RdI.new (L1 := L3) (L2 := L3) hb hmb
    exact ⟨fun hs => h1 hs, fun hs => (h2 hs).below (Below.refl _ _).drew, h3.drew, h4, h5⟩⟩
  have HIBb : Veil (∀ s W, RdI W1 R L2 L3 L3 v1 v2b v3 m s W → ∀ W', Below W.heap.size W W' → RdI W1 R L2 L3 L3 v1 v2b v3 m s W') := ⟨fun s W h W' hb => h.below hb⟩
  have HIZb : Veil (∀ s W, RdI W1 R L2 L3 L3 v1 v2b v3 m s W → W1.heap.size ≤ W.heap.size) := ⟨fun s W h => h.z⟩
  have hlrb : R < W1.heap.size := lt_of_heap hb
  have HTRb : Veil (∀ W W' : World, Turned (· = R) W W' → Turned (· < W1.heap.size) W W') := ⟨fun W W' ht => ht.wider fun k _ e => by have e : k = R := e; omega⟩
  have HApb : Veil (∀ {s : Nat} (W : World), RdI W1 R L2 L3 L3 v1 v2b v3 m s W → 2 ≤ s → s ≤ 2 → ∀ v9 w9, OwnE elD w9 (R + 1) v9 (m.ds ++ [d]) → W.grownBy w9 v3.ownBlock → (∀ k, v9.ownBlock = some k → v3.ownBlock = some k ∨ W.heap.size ≤ k) → RdI W1 R L2 L3 L3 v1 v2b v3 m 3 w9 ∧ Turned (· < W1.heap.size) W w9 ∧ NdOwn w9 (R + 1) v1 v2b v9 { m with ds := m.ds ++ [d] } ∧ RdAt w9 R L3 v1 v2b v3) := ⟨by
    intro s W hI h1 h2 v9 w9 ho hg hv9
    obtain rfl : s = 2 := by omega
    have hT : Turned (fun j => v3.ownBlock = some j) W w9 := Turned.grown hg (fun j hj _ => hj)
    have hr : RdAt W R L3 v1 v2b v3 := hI.r (by omega)
    refine ⟨⟨fun h => absurd h (by omega), fun h => absurd h (by omega), hI.t.trans (hT.toBelow (by have := hI.base; omega) (fun j _ e => by have := (hmb.d.lt e).1; omega)), Nat.le_trans hI.z hT.size, hI.lt⟩, hT.wider fun j _ e => (hmb.d.lt e).2, (hI.m (by omega)).putD hg ho hv9, hT.heap hr (fun e => by have := (hmb.d.lt e).1; omega)⟩⟩
  have HEndb : Veil (∀ (u : Value) (W : World) (s : Nat), RdI W1 R L2 L3 L3 v1 v2b v3 m s W → NdOwn W (R + 1) v1 v2b u { m with ds := m.ds ++ [d] } → RdAt W R L3 v1 v2b v3 → RdAt (W.setCell ⟨R, 3, none⟩ u) R L3 v1 v2b u ∧ NdOwn (W.setCell ⟨R, 3, none⟩ u) (R + 1) v1 v2b u { m with ds := m.ds ++ [d] } ∧ Below R W1 (W.setCell ⟨R, 3, none⟩ u)) := ⟨by
    intro u W s hI hn hr
    have hT : Turned (· = R) W (W.setCell ⟨R, 3, none⟩ u) := (Turned.refl (· = R) W).setCell (p := ⟨R, 3, none⟩) rfl _
    exact ⟨heap_setCell_at hr 3 _, hn.kept hT (fun j hj e => by have e : j = R := e; omega), hI.t.trans (hT.toBelow (by have := hI.base; omega) (fun j _ e => by have e : j = R := e; omega))⟩⟩
  clear hb hmb
  refine region_world 13 [[], [], [(1, 48)], [(2, 49)], [(3, 50)], [(4, 51)], [], [(6, 53)], [(7, 54)], [(8, 55)], [(9, 56)], [(10, 57)], [(5, 52), (11, 58)]]
    [[], [], [1], [2], [3], [4], [], [6], [7], [8], [9], [10], [5, 9, 11]]
    [(0, 47), (1, 48), (2, 49), (3, 50), (4, 51), (5, 52), (6, 53), (7, 54), (8, 55), (9, 56), (10, 57), (11, 58), (12, 59)]
    (W1.heap.size) 3 (RdI W1 R L2 L3 L3 v1 v2b v3 m)
    [.is (.pointer (some ⟨R, 0, none⟩)), .is (.pointer (some ⟨R, 0, none⟩)), .is (.pointer (some ⟨R, 0, none⟩)), .is (.pointer (some ⟨R, 1, none⟩)), .is (.pointer (some ⟨R, 3, none⟩)), .is (v3), .is (.pointer (some ⟨R, 0, none⟩)), .is (.pointer (some ⟨R, 0, none⟩)), .is (.pointer (some ⟨R, 0, none⟩)), .is (.int .i64 d), .is (.int .u32 d), .row (fun g => .slice (some ⟨g, 0, none⟩) 1 1) #[.int .u32 d] 23, .last ((fun u W => NdOwn W (R + 1) v1 v2b u { m with ds := m.ds ++ [d] } ∧ RdAt W R L3 v1 v2b v3))]
    (fun i => [0, 0, 0, 0, 0, 0, 0, 0, 0, 2, 2, 2, 3].getD i 0) (fun i => [3, 3, 3, 3, 3, 2, 3, 3, 3, 0, 3, 2, 2].getD i 3) rfl (by kernel_rfl) ?_ ⟨?_, ?_, ?_, ?_, ?_, ?_, ?_, ?_, ?_, ?_, ?_, ?_, ?_, trivial⟩ ?_
  · exact HI0b.out
  · intro vals s W hI hs _
    have hs : s ≤ 3 := hs
    dsimp only [putsL, slotOf]
    go_wp2
    exact ⟨rfl, s, hI, ⟨Nat.le_refl _, Turned.refl _ _, fun _ => rfl⟩, (by first | exact ⟨rfl, (show 0 ≤ s by omega)⟩ | exact rfl), (by intros; assumption)⟩
  · intro vals s W hI hs _
    have hs : s ≤ 3 := hs
    dsimp only [putsL, slotOf]
    go_wp2
    exact ⟨rfl, s, hI, ⟨Nat.le_refl _, Turned.refl _ _, fun _ => rfl⟩, (by first | exact ⟨rfl, (show 0 ≤ s by omega)⟩ | exact rfl), (by intros; assumption)⟩
  · intro vals s W hI hs ⟨⟨h1, l1⟩, _⟩
    have hs : s ≤ 3 := hs
    have l1 : 0 ≤ s := l1
    have h1 : vals 1 = _ := h1
    dsimp only [putsL, slotOf]
    rw [h1]
    go_wp2
    exact ⟨rfl, s, hI, ⟨Nat.le_refl _, Turned.refl _ _, fun _ => rfl⟩, (by first | exact ⟨rfl, (show 0 ≤ s by omega)⟩ | exact rfl), (by intros; assumption)⟩
  · intro vals s W hI hs ⟨⟨h2, l2⟩, _⟩
    have hs : s ≤ 3 := hs
    have l2 : 0 ≤ s := l2
    have h2 : vals 2 = _ := h2
    dsimp only [putsL, slotOf]
    rw [h2]
    go_wp2
    exact ⟨rfl, s, hI, ⟨Nat.le_refl _, Turned.refl _ _, fun _ => rfl⟩, (by first | exact ⟨rfl, (show 0 ≤ s by omega)⟩ | exact rfl), (by intros; assumption)⟩
  · intro vals s W hI hs ⟨⟨h3, l3⟩, _⟩
    have hs : s ≤ 3 := hs
    have l3 : 0 ≤ s := l3
    have h3 : vals 3 = _ := h3
    dsimp only [putsL, slotOf]
    rw [h3]
    go_wp2
    exact ⟨rfl, s, hI, ⟨Nat.le_refl _, Turned.refl _ _, fun _ => rfl⟩, (by first | exact ⟨rfl, (show 0 ≤ s by omega)⟩ | exact rfl), (by intros; assumption)⟩
  · intro vals s W hI hs ⟨⟨h4, l4⟩, _⟩
    have hs : s ≤ 2 := hs
    have l4 : 0 ≤ s := l4
    have h4 : vals 4 = _ := h4
    obtain ⟨⟨-, b1, b2, b3⟩, -⟩ := (hI.r hs).cells
    dsimp only [putsL, slotOf]
    rw [h4]
    go_wp2
    exact ⟨rfl, s, hI, ⟨Nat.le_refl _, Turned.refl _ _, fun _ => rfl⟩, (by first | exact ⟨rfl, (show 0 ≤ s by omega)⟩ | exact rfl), (by intros; assumption)⟩
  · intro vals s W hI hs _
    have hs : s ≤ 3 := hs
    dsimp only [putsL, slotOf]
    go_wp2
    exact ⟨rfl, s, hI, ⟨Nat.le_refl _, Turned.refl _ _, fun _ => rfl⟩, (by first | exact ⟨rfl, (show 0 ≤ s by omega)⟩ | exact rfl), (by intros; assumption)⟩
  · intro vals s W hI hs ⟨⟨h6, l6⟩, _⟩
    have hs : s ≤ 3 := hs
    have l6 : 0 ≤ s := l6
    have h6 : vals 6 = _ := h6
    dsimp only [putsL, slotOf]
    rw [h6]
    go_wp2
    exact ⟨rfl, s, hI, ⟨Nat.le_refl _, Turned.refl _ _, fun _ => rfl⟩, (by first | exact ⟨rfl, (show 0 ≤ s by omega)⟩ | exact rfl), (by intros; assumption)⟩
  · intro vals s W hI hs ⟨⟨h7, l7⟩, _⟩
    have hs : s ≤ 3 := hs
    have l7 : 0 ≤ s := l7
    have h7 : vals 7 = _ := h7
    dsimp only [putsL, slotOf]
    rw [h7]
    go_wp2
    exact ⟨rfl, s, hI, ⟨Nat.le_refl _, Turned.refl _ _, fun _ => rfl⟩, (by first | exact ⟨rfl, (show 0 ≤ s by omega)⟩ | exact rfl), (by intros; assumption)⟩
  · intro vals s W hI hs ⟨⟨h8, l8⟩, _⟩
    have hs : s ≤ 0 := hs
    have l8 : 0 ≤ s := l8
    have h8 : vals 8 = _ := h8
    obtain rfl : s = 0 := by omega
    have hr0 : RdAt W R L2 v1 v2b v3 := hI.r (by omega)
    dsimp only [putsL, slotOf]
    rw [h8]
    go_wp2_with ((go_at_call 102; refine (HT1b.out _ _ hr0).mono ?_; rintro e w4 ⟨rfl, hR4, ht4⟩; have hI4 := hI.step (s' := 2) hR4 ht4 (by omega); have hT4 := HTRb.out _ _ ht4))
    refine ⟨rfl, 2, hI4, ⟨by omega, hT4, fun h => absurd h (by omega)⟩, (by first | exact ⟨rfl, (show 2 ≤ 2 by omega)⟩ | exact rfl), ?_⟩
    first | exact ub_more ([3, 3, 3, 3, 3, 2, 3, 3, 3, 0, 3, 2, 2] : List Nat) 2 3 9 0 [8] (by decide) (by decide) _ (by omega) | simpa using ub_more ([3, 3, 3, 3, 3, 2, 3, 3, 3, 0, 3, 2, 2] : List Nat) 2 3 9 0 [8] (by decide) (by decide) _ (by omega)
  · intro vals s W hI hs ⟨⟨h9, l9⟩, _⟩
    have hs : s ≤ 3 := hs
    have l9 : 2 ≤ s := l9
    have h9 : vals 9 = _ := h9
    dsimp only [putsL, slotOf]
    rw [h9]
    go_wp2
    exact ⟨rfl, s, hI, ⟨Nat.le_refl _, Turned.refl _ _, fun _ => rfl⟩, (by first | exact ⟨rfl, (show 2 ≤ s by omega)⟩ | exact rfl), (by intros; assumption)⟩
  · intro vals s W hI hs ⟨⟨h10, l10⟩, _⟩
    have hs : s ≤ 2 := hs
    have l10 : 2 ≤ s := l10
    have h10 : vals 10 = _ := h10
    dsimp only [putsL, slotOf]
    rw [h10]
    go_wp2
    exact ⟨rfl, s, HIBb.out _ _ hI _ (below_al (Below.refl _ _) _), ⟨Nat.le_refl _, (Turned.refl _ _).alloc _, fun h => absurd h (by omega)⟩, (by first | exact ⟨⟨_, HIZb.out _ _ hI, rfl, heap_alloc_new _ _⟩, (show 2 ≤ s by omega)⟩ | exact ⟨_, HIZb.out _ _ hI, rfl, heap_alloc_new _ _⟩), (by intros; assumption)⟩
  · intro vals s W hI hs ⟨⟨h5, l5⟩, ⟨h9, l9⟩, ⟨⟨g11, hw11, h11, hg11⟩, l11⟩, _⟩
    have hs : s ≤ 2 := hs
    have l5 : 0 ≤ s := l5
    have l9 : 2 ≤ s := l9
    have l11 : 2 ≤ s := l11
    have h5 : vals 5 = _ := h5
    have h11 : vals 11 = _ := h11
    dsimp only [putsL, slotOf]
    rw [h5, h11]
    go_wp2_with ((at_builtin; refine wpList_append_el elD rfl _ _ rfl (R + 1) v3 m.ds d rfl (hI.m hs).d g11 rfl hg11 HFwb.out hI.base ?_; intro v9 w9 hown9 hgr9 hv9; obtain ⟨hI4, hT4, hL4⟩ := HApb.out _ hI (by omega) (by omega) _ _ hown9 hgr9 hv9))
    refine ⟨rfl, 3, hI4, ⟨by omega, hT4, fun h => absurd h (by omega)⟩, (by first | exact ⟨⟨hL4, Nat.le_refl 3⟩, (show 3 ≤ 3 by omega)⟩ | exact ⟨hL4, Nat.le_refl 3⟩), ?_⟩
    first | exact ub_more ([3, 3, 3, 3, 3, 2, 3, 3, 3, 0, 3, 2, 2] : List Nat) 3 3 12 2 [5, 9, 11] (by decide) (by decide) _ (by omega) | simpa using ub_more ([3, 3, 3, 3, 3, 2, 3, 3, 3, 0, 3, 2, 2] : List Nat) 3 3 12 2 [5, 9, 11] (by decide) (by decide) _ (by omega)
  rintro vals s W hI hq
  have q0 : vals 0 = _ := (hq 0 (by decide)).1
  have q1 : vals 1 = _ := (hq 1 (by decide)).1
  have q2 : vals 2 = _ := (hq 2 (by decide)).1
  have q3 : vals 3 = _ := (hq 3 (by decide)).1
  have q4 : vals 4 = _ := (hq 4 (by decide)).1
  have q5 : vals 5 = _ := (hq 5 (by decide)).1
  have q6 : vals 6 = _ := (hq 6 (by decide)).1
  have q7 : vals 7 = _ := (hq 7 (by decide)).1
  have q8 : vals 8 = _ := (hq 8 (by decide)).1
  have q9 : vals 9 = _ := (hq 9 (by decide)).1
  have q10 : vals 10 = _ := (hq 10 (by decide)).1
  obtain ⟨⟨g11, hw11, q11, hg11⟩, -⟩ := hq 11 (by decide)
  have q11 : vals 11 = _ := q11
  obtain ⟨⟨hL12, hLs12⟩, -⟩ := hq 12 (by decide)
  dsimp only [putsL]
  rw [q0, q1, q2, q3, q4, q5, q6, q7, q8, q9, q10, q11]
  clear hq q0 q1 q2 q3 q4 q5 q6 q7 q8 q9 q10 q11
  simp only [List.drop_succ_cons, List.drop_zero, List.setIfInBounds_toArray, List.set_cons_succ, List.set_cons_zero]
  obtain ⟨hLa, hLb⟩ := hL12
  obtain ⟨pu, cu, hu, -⟩ := hLa.d.form
  rw [hu] at hLa
  rw [hu]
  have hlR : R < W.heap.size := lt_of_heap hLb
  obtain ⟨⟨-, b1, b2, b3⟩, f0⟩ := hLb.cells
  have f1 := f0 3
  have HENb : Veil _ := ⟨HEndb.out _ W s hI hLa hLb⟩
  clear hI hLa hLb f0 hLs12 hg11 q11 hw11
  go_wp2
  go_end0
  have e := HENb.out
  rw [List.length_append] at e
  refine ⟨rfl, _, _, _, e.1, ?_, HBb.out.trans e.2.2⟩
  rw [← HM.out]
  exact e.2.1
end Go.Proofs.YtokbmimbbeedcaaGreatDoor
