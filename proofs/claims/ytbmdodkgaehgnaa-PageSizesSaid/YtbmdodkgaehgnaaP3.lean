/- The walks of Right, cut, numbers. -/
import Derived.Test.YtbmdodkgaehgnaaP2
import Derived.Laws.BitsAllLaws
namespace Go.Proofs.Ytbmdodkgaehgnaa
open Go Go.RowKit Sm
attribute [local go_sem] Oper.semAt_some

/-- A page: its kind, id, transaction, body. -/
structure Pg where
  kind : Int
  id : Nat
  tx : Nat
  body : List UInt8
def Pg.v (p : Pg) : Value := .agg #[.int .i64 p.kind, .int .u32 p.id, .int .u64 p.tx, .string ⟨p.body.toArray⟩]
structure Pg.Ok (p : Pg) : Prop where
  k1 : -9223372036854775808 ≤ p.kind
  k2 : p.kind ≤ 9223372036854775807
  id : p.id < 4294967296
  tx : p.tx < 18446744073709551616
  b : p.body.length ≤ 1000000
def Pg.right (p : Pg) : Bool := decide (1 ≤ p.kind ∧ p.kind ≤ 3 ∧ 2 ≤ p.id ∧ p.id < 16384 ∧ 1 ≤ p.tx ∧ p.body.length ≤ 237)
theorem Pg.right_iff (p : Pg) : p.right = true ↔ (1 ≤ p.kind ∧ p.kind ≤ 3 ∧ 2 ≤ p.id ∧ p.id < 16384 ∧ 1 ≤ p.tx ∧ p.body.length ≤ 237) := by simp [Pg.right]

def cutAt (from' n : Nat) : Nat := if n = 0 then 0 else from'
theorem cut_any (b : Nat) (from' n len cap : Nat) (h : from' + n ≤ cap) (hc : from' + n ≤ 1000000) (hl : len ≤ cap) (w : World) : Calls Try.prog 44 #[.slice (some ⟨b, 0, none⟩) len cap, .int .i64 from', .int .i64 n] w fun e w' => e = .returned (.slice (some ⟨b, cutAt from' n, none⟩) n n) ∧ w = w' := by
  rcases Nat.eq_zero_or_pos n with rfl | hn
  · have e : cutAt from' 0 = 0 := rfl
    rw [e]
    clear e
    go_enter Try.func44, Try.ntmps44
    go_wp2
    go_ret
    exact ⟨rfl, rfl⟩
  · have e : cutAt from' n = from' := if_neg (by omega)
    rw [e]
    clear e
    go_enter Try.func44, Try.ntmps44
    go_wp2
    go_ret
    refine ⟨?_, rfl⟩
    show Ending.returned (Value.slice (some ⟨b, from', none⟩) (from' + n - from') (from' + n - from')) = _
    rw [Nat.add_sub_cancel_left]

set_option maxRecDepth 20000 in
set_option maxHeartbeats 1000000 in
theorem right_any (p : Pg) (hp : Veil p.Ok) (w : World) : Calls Try.prog 15 #[p.v] w fun e w' => e = .returned (.bool p.right) ∧ Below w.heap.size w w' := by
  have HR : Veil _ := ⟨p.right_iff⟩
  obtain ⟨r, hr⟩ : ∃ r, p.right = r := ⟨_, rfl⟩
  rw [hr] at HR ⊢
  clear hr
  obtain ⟨k, i, t, b⟩ := p
  have hbl : Veil _ := ⟨hp.out.b⟩
  have h1 : b.length ≤ 1000000 := hp.out.b
  unfold Pg.v
  simp only at *
  obtain ⟨I, hI⟩ : ∃ I : Int, (i : Int) = I := ⟨_, rfl⟩
  obtain ⟨T, hT⟩ : ∃ T : Int, (t : Int) = T := ⟨_, rfl⟩
  obtain ⟨N, hN⟩ : ∃ N : Int, (b.length : Int) = N := ⟨_, rfl⟩
  have H : Veil ((i : Int) = I ∧ (t : Int) = T ∧ (b.length : Int) = N) := ⟨hI, hT, hN⟩
  rw [hI, hT]
  clear hI hT
  go_enter Try.func15, Try.ntmps15
  go_wp2
  all_goals
    go_ret
    refine ⟨?_, below_al (Below.refl _ _) _⟩
    refine (show Ending.returned (Value.bool _) = Ending.returned (Value.bool _) from congrArg (fun x => Ending.returned (Value.bool x)) ?_)
    obtain ⟨h1, h2, h3⟩ := H.out
    have hr := HR.out
    simp only [beq_iff_eq, beq_eq_false_iff_ne, ne_eq] at *
    cases r <;> simp at hr ⊢ <;> omega
end Go.Proofs.Ytbmdodkgaehgnaa
