/- The walk of the document's own Encode. -/
import Derived.Deep.RegionHeld3
import Derived.Test.YtapmppiiphbcpaaKP6
import Derived.Test.YtapmppiiphbcpaaKSZ
namespace Go.Proofs.Ytapmppiiphbcpaa
open Go Go.RowKit Sm
attribute [local go_sem] Oper.semAt_some

theorem below_then {w w1 w2 : World} (h : Below w.heap.size w w1) (k : Below w1.heap.size w1 w2) : Below w.heap.size w w2 := h.trans (k.mono h.size)
theorem below_then5 {a b c d : Prop} {w w1 w2 : World} (k : Below w1.heap.size w1 w2) (h : a ∧ b ∧ c ∧ d ∧ Below w.heap.size w w1) : Below w.heap.size w w2 := below_then h.2.2.2.2 k
theorem last5 {a b c d e : Prop} (h : a ∧ b ∧ c ∧ d ∧ e) : e := h.2.2.2.2
/-- A page in its box. -/
def Box (b : Nat) (k i t : Int) (s : ByteArray) (W : World) : Prop := W.cell? ⟨b, 0, none⟩ = some (.int .i64 k) ∧ W.cell? ⟨b, 1, none⟩ = some (.int .u32 i) ∧ W.cell? ⟨b, 2, none⟩ = some (.int .u64 t) ∧ W.cell? ⟨b, 3, none⟩ = some (.string s)
theorem Box.new (w : World) (k i t : Int) (s : ByteArray) (T : TypeId) : Box w.heap.size k i t s (w.alloc (.cells #[.int .i64 k, .int .u32 i, .int .u64 t, .string s] T)) := by
  have h := heap_alloc_new w (.cells [.int .i64 k, .int .u32 i, .int .u64 t, .string s].toArray T)
  exact ⟨cell_whole h 0, cell_whole h 1, cell_whole h 2, cell_whole h 3⟩
theorem Box.below {b : Nat} {k i t : Int} {s : ByteArray} {W W' : World} (h : Box b k i t s W) (hb : Below W.heap.size W W') (hlt : b < W.heap.size) : Box b k i t s W' :=
  ⟨(hb.cell hlt).trans h.1, (hb.cell hlt).trans h.2.1, (hb.cell hlt).trans h.2.2.1, (hb.cell hlt).trans h.2.2.2⟩

theorem make_zeros (m : Nat) (hm : m ≤ 256) (W : World) : (Instr.makeSlice 104 (.int .i64 (m : Int)) (.int .i64 (m : Int))).run Try.prog W = .ok (.slice (some ⟨W.heap.size, 0, none⟩) m m) (W.alloc (.cells (List.replicate m (Value.int .u8 0)).toArray 5)) := by
  obtain ⟨i0, hi, hz0, hz1, hz2⟩ := info_parts info_u8
  have h := run_make (P := Try.prog) W 104 5 i0 (.int .u8 0) Try.underlying104 hi hz0 .i64 .i64 (m : Int) (m : Int) (by omega) (by omega) (by rw [hz2]; omega) (by omega)
  rw [hz1, Nat.mul_one, show ((m : Int).toNat) = m by omega] at h
  rw [← made_zeros]
  exact h
theorem conv_zeros (m : Nat) (W : World) : (convert 104 9 (.slice (some ⟨W.heap.size, 0, none⟩) m m)).run Try.prog (W.alloc (.cells (List.replicate m (Value.int .u8 0)).toArray 5)) = .ok (.string ⟨(List.replicate m (0 : UInt8)).toArray⟩) (W.alloc (.cells (List.replicate m (Value.int .u8 0)).toArray 5)) := by
  have hu : List.replicate m (Value.int .u8 0) = u8s (List.replicate m 0) := by simp [u8s, u8v]
  have := run_convert_u8s (P := Try.prog) (W.alloc (.cells (u8s (List.replicate m 0)).toArray 5)) 104 9 5 Try.underlying104 Try.underlying5 Try.underlying9 W.heap.size 0 m (List.replicate m 0) (by
    have := rangeAt_whole (heap_alloc_new W (.cells (u8s (List.replicate m 0)).toArray 5)) 0 (u8s (List.replicate m 0)).length
    rwa [List.drop_zero, List.take_length] at this)
  rw [← hu, List.length_replicate] at this
  exact this

set_option maxRecDepth 20000 in
set_option maxHeartbeats 2000000 in
theorem refencode_any (p : Pg) (hp : Veil p.Ok) (w : World) : Calls Try.prog 59 #[p.v] w fun e w' => e = .returned p.encR ∧ Below w.heap.size w w' := by
  have hR : Veil (∀ w, Calls Try.prog 82 #[p.v] w fun e w' => e = .returned (.bool p.right) ∧ Below w.heap.size w w') := ⟨refright_any p hp⟩
  unfold Pg.encR
  cases hr : p.right
  · rw [hr] at hR
    clear hr hp
    obtain ⟨k, i, t, b⟩ := p
    unfold Pg.v at hR ⊢
    simp only at hR ⊢
    go_enter Try.func59, Try.ntmps59
    go_wp2_with (go_at_call 82; refine (hR.out _).mono ?_; rintro e w2 ⟨rfl, hb2⟩)
    go_ret2
    exact ⟨rfl, (below_al (Below.refl _ _) _).trans (hb2.mono (by simp))⟩
  · have hrr := p.right_iff.1 hr
    rw [hr] at hR
    obtain ⟨k, i, t, b⟩ := p
    simp only at hrr
    obtain ⟨n, rfl⟩ : ∃ n : Nat, k = n := ⟨k.toNat, by omega⟩
    have hhd : putB n 1 ++ putB i 4 ++ putB t 8 ++ putB b.length 2 = wrB [(1, n), (4, i), (8, t), (2, b.length)] := by simp [wrB]
    have hbl3 : b.length ≤ 237 := hrr.2.2.2.2.2
    have hS : Veil (∀ w, Calls Try.prog 83 #[.string (⟨(putB n 1).toArray⟩ ++ ⟨(putB i 4).toArray⟩ ++ ⟨(putB t 8).toArray⟩ ++ ⟨(putB b.length 2).toArray⟩ ++ ⟨b.toArray⟩)] w fun e w' => e = .returned (.string ⟨((putB n 1) ++ (putB i 4) ++ (putB t 8) ++ (putB b.length 2) ++ b ++ sealB (sumN ((putB n 1) ++ (putB i 4) ++ (putB t 8) ++ (putB b.length 2) ++ b))).toArray⟩) ∧ Below w.heap.size w w') := ⟨fun w => by
      rw [str_append, str_append, str_append, str_append]
      exact refseal_any ((putB n 1) ++ (putB i 4) ++ (putB t 8) ++ (putB b.length 2) ++ b) ⟨by simp; omega⟩ w⟩
    have hE : Veil ((⟨(n : Int), i, t, b⟩ : Pg).enc = (putB n 1) ++ (putB i 4) ++ (putB t 8) ++ (putB b.length 2) ++ b ++ sealB (sumN ((putB n 1) ++ (putB i 4) ++ (putB t 8) ++ (putB b.length 2) ++ b)) ++ List.replicate (256 - ((putB n 1) ++ (putB i 4) ++ (putB t 8) ++ (putB b.length 2) ++ b ++ sealB (sumN ((putB n 1) ++ (putB i 4) ++ (putB t 8) ++ (putB b.length 2) ++ b))).length) 0) := ⟨by rw [hhd]; rfl⟩
    obtain ⟨q, hq⟩ : ∃ q, (putB n 1) ++ (putB i 4) ++ (putB t 8) ++ (putB b.length 2) ++ b ++ sealB (sumN ((putB n 1) ++ (putB i 4) ++ (putB t 8) ++ (putB b.length 2) ++ b)) = q := ⟨_, rfl⟩
    have hql : q.length = 19 + b.length := by rw [← hq]; simp [sealB_len']; omega
    rw [hq] at hS hE
    have hql2 : q.length ≤ 256 := by omega
    have hi4 := hp.out.id
    simp only at hi4
    have m1 : n % 18446744073709551616 = n := Nat.mod_eq_of_lt (by omega)
    have m2 : i % 18446744073709551616 = i := Nat.mod_eq_of_lt (by omega)
    have m4 : b.length % 18446744073709551616 = b.length := Nat.mod_eq_of_lt (by omega)
    have hS' : Veil (∀ w, Calls Try.prog 83 #[.string (⟨(putB (n % 18446744073709551616) 1).toArray⟩ ++ ⟨(putB (i % 18446744073709551616) 4).toArray⟩ ++ ⟨(putB t 8).toArray⟩ ++ ⟨(putB (b.length % 18446744073709551616) 2).toArray⟩ ++ ⟨b.toArray⟩)] w fun e w' => e = .returned (.string ⟨q.toArray⟩) ∧ Below w.heap.size w w') := ⟨fun w => by rw [m1, m2, m4]; exact hS.out w⟩
    clear m1 m2 m4 hi4 hS
    clear hq hhd hr hp hql hrr
    unfold Pg.v at hR ⊢
    simp only [if_true] at hR ⊢
    rw [hE.out]
    obtain ⟨WB, hWB⟩ : ∃ WB, w.alloc (.cells #[.int .i64 n, .int .u32 i, .int .u64 t, .string ⟨b.toArray⟩] 49) = WB := ⟨_, rfl⟩
    have hbox : Veil (Box w.heap.size n i t ⟨b.toArray⟩ WB) := ⟨by rw [← hWB]; exact Box.new _ _ _ _ _ _⟩
    have hlw : Veil (w.heap.size < WB.heap.size) := ⟨by rw [← hWB]; simp⟩
    have hwB : Veil (Below w.heap.size w WB) := ⟨by rw [← hWB]; exact below_al (Below.refl _ _) _⟩
    have ST : Veil (∀ W, Below WB.heap.size WB W → Box w.heap.size n i t ⟨b.toArray⟩ W) := ⟨fun W h => hbox.out.below h hlw.out⟩
    obtain ⟨x0, x1, x2, x3⟩ := hbox.out
    obtain ⟨m, hm⟩ : ∃ m, 256 - q.length = m := ⟨_, rfl⟩
    have hmI : (256 : Int) - (q.length : Int) = (m : Int) := by omega
    have hm256 : m ≤ 256 := by omega
    have hMK := make_zeros m hm256
    have hCV := conv_zeros m
    rw [hm]
    obtain ⟨zs, hzs⟩ : ∃ zs : List UInt8, List.replicate m 0 = zs := ⟨_, rfl⟩
    have hzl : Veil (zs.length = m) := ⟨by rw [← hzs]; simp⟩
    obtain ⟨Z, hZ⟩ : ∃ Z : Array Value, (List.replicate m (Value.int .u8 0)).toArray = Z := ⟨_, rfl⟩
    rw [hZ] at hMK hCV
    rw [hzs] at hCV ⊢
    clear hzs hZ hm
    go_enter Try.func59, Try.ntmps59
    go_wp2_with (go_at_call 82; refine (hR.out _).mono ?_; rintro e w2 ⟨rfl, hb2⟩)
    have hb2' : Below WB.heap.size WB w2 := hb2
    have HWB := Lib.hid hWB
    clear hWB x0 x1 x2 x3 hb2
    have HB2 := Lib.hid hb2'
    clear hb2'
    have hb0 : Below WB.heap.size WB w2.drew := HB2.out.drew
    have hbl4 : ¬ 9223372036854775807 < 15 + b.length := by omega
    have hbl5 : ¬ 9223372036854775807 < 1 + 4 + 8 + 2 + b.length := by omega
    go_region_held3 (fun W => W.cell? ⟨w.heap.size, 0, none⟩ = some (.int .i64 n) ∧ W.cell? ⟨w.heap.size, 1, none⟩ = some (.int .u32 i) ∧ W.cell? ⟨w.heap.size, 2, none⟩ = some (.int .u64 t) ∧ W.cell? ⟨w.heap.size, 3, none⟩ = some (.string ⟨b.toArray⟩) ∧ Below WB.heap.size WB W) (refine ⟨(ST.out _ ?_).1, (ST.out _ ?_).2.1, (ST.out _ ?_).2.2.1, (ST.out _ ?_).2.2.2, ?_⟩ <;> first | assumption | exact HB2.out | exact HB2.out.drew | exact below_then hb0 hb3 | exact below_then5 hb7 (by assumption) | exact below_then5 hb3 (by assumption)) (first
      | (go_at_call 83; refine (hS'.out _).mono ?_; rintro e w7 ⟨rfl, hb7⟩)
      | (go_at_call 68; refine (put_any _ _ (by decide) _).mono ?_; rintro e w3 ⟨rfl, hb3⟩))
    have hf7 : Below WB.heap.size WB w7 := last5 (by assumption)
    have HF7 : Veil _ := ⟨hwB.out.trans (hf7.mono hwB.out.size)⟩
    have hnb2 : ¬ 9223372036854775807 < q.length + zs.length := by rw [hzl.out]; omega
    clear hf7 hb7 hbl4 hbl5 hb0
    go_wp2
    go_ret2
    exact ⟨congrArg (fun x => Ending.returned (Value.tuple #[Value.string x, .int .i64 0])) (str_append _ _), below_al HF7.out _⟩
end Go.Proofs.Ytapmppiiphbcpaa
