/- The law's own helpers: shown, small. -/
import Derived.DataShut
import Derived.Test.YtapmppiiphbcpaaKPA
import Derived.Test.YtapmppiiphbcpaaKP8
namespace Go.Proofs.Ytapmppiiphbcpaa
open Go Go.RowKit Sm
attribute [local go_sem] Oper.semAt_some

def exPg : Pg := ⟨1, 2, 1, []⟩
theorem exPg_ok : exPg.Ok := ⟨by decide, by decide, by decide, by decide, by decide⟩
theorem exPg_right : exPg.right = true := by decide
theorem zeroPg_ok : Pg.zero.Ok := ⟨by decide, by decide, by decide, by decide, by decide⟩

set_option maxRecDepth 20000 in
set_option maxHeartbeats 2000000 in
theorem shown3_any (w : World) : Calls Try.prog 23 #[] w fun e w' => e = .returned (.bool true) ∧ Below w.heap.size w w' := by
  obtain ⟨E, hE⟩ : ∃ E, exPg.enc = E := ⟨_, rfl⟩
  have hl : E.length = 256 := by rw [← hE]; exact exPg.enc_len (by decide)
  have hx : (⟨E.toArray⟩ : ByteArray).extract 0 15 = ⟨#[1, 0, 0, 0, 2, 0, 0, 0, 0, 0, 0, 0, 1, 0, 0]⟩ := by
    have h1 : (⟨E.toArray⟩ : ByteArray).extract 0 15 = ⟨(E.take 15).toArray⟩ := by
      apply ByteArray.ext
      simp [ByteArray.data_extract]
    rw [h1, ← hE]
    have h2 : exPg.enc.take 15 = exPg.head := by
      unfold Pg.enc Pg.sealed Pg.text
      rw [List.append_assoc, List.append_assoc]
      exact List.take_left' exPg.head_len
    rw [h2]
    rfl
  have e1 : Veil (∀ w, Calls Try.prog 55 #[.agg #[.int .i64 1, .int .u32 2, .int .u64 1, .string ⟨#[]⟩]] w fun e w' => e = .returned (.tuple #[.string ⟨E.toArray⟩, .int .i64 0]) ∧ Below w.heap.size w w') := ⟨fun w => by
    have := encode_any exPg ⟨exPg_ok⟩ w
    unfold Pg.encR at this
    rw [exPg_right, if_pos rfl, hE] at this
    exact this⟩
  have e2 : Veil (∀ w, Calls Try.prog 56 #[.string ⟨E.toArray⟩] w fun e w' => e = .returned (.tuple #[.agg #[.int .i64 1, .int .u32 2, .int .u64 1, .string ⟨#[]⟩], .int .i64 0]) ∧ Below w.heap.size w w') := ⟨fun w => by
    have hb := exPg.back exPg_ok exPg_right
    have := decode_any exPg.enc (by rw [exPg.enc_len (by decide)]; decide) w
    unfold decR pgOf at this
    rw [hb.1, if_pos rfl, if_pos rfl, hb.2, hE] at this
    exact this⟩
  have e3 : Veil (∀ w, Calls Try.prog 55 #[.agg #[.int .i64 0, .int .u32 0, .int .u64 0, .string ⟨#[]⟩]] w fun e w' => e = .returned (.tuple #[.string ⟨#[]⟩, .int .i64 30]) ∧ Below w.heap.size w w') := ⟨fun w => by
    have := encode_any Pg.zero ⟨zeroPg_ok⟩ w
    unfold Pg.encR at this
    rw [show Pg.zero.right = false from by decide, if_neg (by decide)] at this
    exact this⟩
  clear hE
  go_enter Try.func23, Try.ntmps23
  go_wp2_with (first
    | (go_at_call 56; refine (e2.out _).mono ?_; rintro e w2 ⟨rfl, hb2⟩)
    | (go_at_call 55; (with_reducible refine (e1.out _).mono ?_); rintro e w1 ⟨rfl, hb1⟩)
    | (go_at_call 55; (with_reducible refine (e3.out _).mono ?_); rintro e w3 ⟨rfl, hb3⟩; obtain ⟨hc3, hf3⟩ := bcell hb3))
  go_ret
  exact ⟨rfl, below_then (below_al (below_then hb1 hb2) _) hb3⟩

def Pg.small (p : Pg) : Pg := ⟨p.kind, p.id, p.tx, p.body.take 250⟩
theorem min_len (n : Nat) (W : World) : (Builtin.min_ #[3, 3] 3 #[.int .i64 (n : Int), .int .i64 250]).run Try.prog W = .ok (.int .i64 ((min n 250 : Nat) : Int)) W := by
  rw [run_min_int2]
  by_cases h : (250 : Int) < n
  · rw [if_pos h, show min n 250 = 250 by omega]; rfl
  · rw [if_neg h, show min n 250 = n by omega]

/-- A page as it comes in. -/
structure Pg.In (p : Pg) : Prop where
  k1 : -9223372036854775808 ≤ p.kind
  k2 : p.kind ≤ 9223372036854775807
  id : p.id < 4294967296
  tx : p.tx < 18446744073709551616
  b : p.body.length ≤ 9223372036854775807
theorem Pg.In.small {p : Pg} (h : p.In) : p.small.Ok := ⟨h.k1, h.k2, h.id, h.tx, by simp [Pg.small]; omega⟩
theorem pg_of (x y z : Int) (t : ByteArray) (hy : (Lit.int IntKind.u32 y).wf = true) (hz : (Lit.int IntKind.u64 z).wf = true) : Value.agg #[.int .i64 x, .int .u32 y, .int .u64 z, .string t] = (⟨x, y.toNat, z.toNat, t.data.toList⟩ : Pg).v := by
  have h1 := (Lit.wf_int_iff .u32 y).1 hy
  have h2 := (Lit.wf_int_iff .u64 z).1 hz
  simp [IntKind.min, IntKind.signed, IntKind.max, IntKind.bits] at h1 h2
  simp only [Pg.v]
  rw [show ((y.toNat : Nat) : Int) = y by omega, show ((z.toNat : Nat) : Int) = z by omega]
theorem pg_in (x y z : Int) (t : ByteArray) (hx : (Lit.int IntKind.i64 x).wf = true) (hy : (Lit.int IntKind.u32 y).wf = true) (hz : (Lit.int IntKind.u64 z).wf = true) (ht : t.size ≤ maxLen) : (⟨x, y.toNat, z.toNat, t.data.toList⟩ : Pg).In := by
  have h0 := (Lit.wf_int_iff .i64 x).1 hx
  have h1 := (Lit.wf_int_iff .u32 y).1 hy
  have h2 := (Lit.wf_int_iff .u64 z).1 hz
  simp [IntKind.min, IntKind.signed, IntKind.max, IntKind.bits] at h0 h1 h2
  refine ⟨?_, ?_, ?_, ?_, ?_⟩ <;> simp only
  · omega
  · omega
  · omega
  · omega
  · exact Nat.le_trans (Nat.le_of_eq Array.length_toList) (Nat.le_trans ht (by decide +kernel))

set_option maxRecDepth 20000 in
set_option maxHeartbeats 2000000 in
theorem small_any (p : Pg) (hl : p.body.length ≤ 9223372036854775807) (w : World) : Calls Try.prog 24 #[p.v] w fun e w' => e = .returned p.small.v ∧ Below w.heap.size w w' := by
  obtain ⟨k, i, t, b⟩ := p
  unfold Pg.small Pg.v
  dsimp only at hl ⊢
  have hmin := min_len b.length
  obtain ⟨m, hm⟩ : ∃ m, min b.length 250 = m := ⟨_, rfl⟩
  have hmb : m ≤ b.length := by omega
  have hm250 : m ≤ 250 := by omega
  have hx : (⟨b.toArray⟩ : ByteArray).extract 0 m = ⟨(b.take 250).toArray⟩ := by
    have h1 : (⟨b.toArray⟩ : ByteArray).extract 0 m = ⟨(b.take m).toArray⟩ := by
      apply ByteArray.ext
      simp [ByteArray.data_extract]
    rw [h1, ← hm]
    congr 2
    rw [List.take_eq_take_iff]
    omega
  rw [hm] at hmin
  clear hm
  generalize b.take 250 = bs at *
  have hm0 : (0 : Int) ≤ m := by omega
  go_enter Try.func24, Try.ntmps24
  go_wp2
  exact bodyPost_ret (results_page (g := w.heap.size + 1) rfl rfl rfl (heap_alloc2_new _ _ _)) rfl ⟨rfl, below_al (below_al (Below.refl _ _) _) _⟩
end Go.Proofs.Ytapmppiiphbcpaa
