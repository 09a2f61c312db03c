/- Keys: the document's own Key, Of. -/
import Derived.OwnWalk
import Derived.Test.YtgaahgnjmhnggaaKH1
namespace Go.Proofs.Ytgaahgnjmhnggaa
open Go Go.RowKit Sm
attribute [local go_sem] Oper.semAt_some

/-- A place in a box. -/
structure PlBox (w : World) (b : Nat) (k A I M : Int) : Prop where
  k : w.cell? ⟨b, 0, none⟩ = some (.int .i64 k)
  a : w.cell? ⟨b, 1, none⟩ = some (.int .u32 A)
  i : w.cell? ⟨b, 2, none⟩ = some (.int .u16 I)
  m : w.cell? ⟨b, 3, none⟩ = some (.int .u32 M)
theorem PlBox.new (w : World) (k A I M : Int) (T : TypeId) : PlBox (w.alloc (.cells #[.int .i64 k, .int .u32 A, .int .u16 I, .int .u32 M] T)) w.heap.size k A I M := by
  constructor <;> exact cell_whole (cur := [.int .i64 k, .int .u32 A, .int .u16 I, .int .u32 M]) (heap_alloc_new _ _) _
theorem PlBox.below {w w' : World} {b : Nat} {k A I M : Int} (h : PlBox w b k A I M) (hb : Below w.heap.size w w') : PlBox w' b k A I M :=
  ⟨(hb.cell (World.block_lt_of_cell? _ _ h.k)).trans h.k, (hb.cell (World.block_lt_of_cell? _ _ h.a)).trans h.a, (hb.cell (World.block_lt_of_cell? _ _ h.i)).trans h.i, (hb.cell (World.block_lt_of_cell? _ _ h.m)).trans h.m⟩
theorem ret_str {a b : ByteArray} {c : Int} (h : a = b) : Ending.returned (.tuple #[.string a, .int .i64 c]) = Ending.returned (.tuple #[.string b, .int .i64 c]) := by rw [h]
theorem drop3 (x : Nat) : (putB x 4).drop 3 = putB x 1 := by
  rw [putB_succ, putB_succ, putB_succ]; rfl

set_option maxRecDepth 20000 in
set_option maxHeartbeats 1000000 in
theorem refkey_any (p : Pl) (hp : p.Ok) (w : World) : Calls Try.prog 10 #[p.v] w fun e w' => e = .returned (.tuple #[.string ⟨p.keyR.1.toArray⟩, .int .i64 p.keyR.2]) ∧ Below w.heap.size w w' := by
  obtain ⟨r, hr⟩ : ∃ r, p.keyR = r := ⟨_, rfl⟩
  have HR : Veil _ := ⟨hr⟩
  rw [hr]
  clear hr
  obtain ⟨S, c⟩ := r
  dsimp only
  have RR : Veil _ := ⟨fun w => refplace_any p w⟩
  by_cases hright : p.right = true
  · have hkind := p.right_kind hright
    rw [hright] at RR
    have HS : Veil (S = p.key ∧ c = 0) := ⟨by have h := HR.out; unfold Pl.keyR at h; rw [if_pos hright] at h; simp only [Prod.mk.injEq] at h; exact ⟨h.1.symm, h.2.symm⟩⟩
    obtain ⟨k, a, i, m⟩ := p
    have ha := hp.a
    have hi := hp.item
    have hm := hp.mail
    unfold Pl.v at *
    dsimp only at *
    have P4 : Veil (∀ w, Calls Try.prog 20 #[.int .u64 a, .int .i64 4] w fun e w' => e = .returned (.string ⟨(putB a 4).toArray⟩) ∧ Below w.heap.size w w') := ⟨fun w => put_any a 4 (by decide) w⟩
    have P2 : Veil (∀ w, Calls Try.prog 20 #[.int .u64 i, .int .i64 2] w fun e w' => e = .returned (.string ⟨(putB i 2).toArray⟩) ∧ Below w.heap.size w w') := ⟨fun w => put_any i 2 (by decide) w⟩
    have PM : Veil (∀ w, Calls Try.prog 20 #[.int .u64 m, .int .i64 4] w fun e w' => e = .returned (.string ⟨(putB m 4).toArray⟩) ∧ Below w.heap.size w w') := ⟨fun w => put_any m 4 (by decide) w⟩
    have wa : IntKind.u64.wrap (a : Int) = a := by rw [IntKind.wrap_u64]; omega
    have wi : IntKind.u64.wrap (i : Int) = i := by rw [IntKind.wrap_u64]; omega
    have wm : IntKind.u64.wrap (m : Int) = m := by rw [IntKind.wrap_u64]; omega
    have HD : Veil ((⟨(putB a 4).toArray⟩ : ByteArray).extract 3 4 = ⟨(putB a 1).toArray⟩) := ⟨by rw [extM, drop3]; simp [List.take_of_length_le]⟩
    have hl4 : (putB a 4).length = 4 := putB_length _ _
    have hl2 : (putB i 2).length = 2 := putB_length _ _
    have hlm : (putB m 4).length = 4 := putB_length _ _
    clear hp HR hright
    have HB : Veil (PlBox (w.alloc (.cells #[.int .i64 k, .int .u32 a, .int .u16 i, .int .u32 m] 25)) w.heap.size k a i m) := ⟨PlBox.new _ _ _ _ _ _⟩
    have HW : Veil (Below w.heap.size w (w.alloc (.cells #[.int .i64 k, .int .u32 a, .int .u16 i, .int .u32 m] 25))) := ⟨below_al (Below.refl _ _) _⟩
    rcases hkind with rfl | rfl | rfl | rfl | rfl | rfl
    all_goals
      go_enter Try.func10, Try.ntmps10
      go_wp2_with (first
        | (go_at_call 20; (with_reducible refine (PM.out _).mono ?_); rintro e w4 ⟨rfl, hb4⟩; have hT := bc_then hT hb4; have HQ : Veil _ := ⟨HQ.out.below hb4⟩; obtain ⟨c0, c1, c2, c3⟩ := HQ.out)
        | (go_at_call 20; (with_reducible refine (P2.out _).mono ?_); rintro e w3 ⟨rfl, hb3⟩; have hT := bc_then hT hb3; have HQ : Veil _ := ⟨HQ.out.below hb3⟩; obtain ⟨c0, c1, c2, c3⟩ := HQ.out)
        | (go_at_call 20; (with_reducible refine (P4.out _).mono ?_); rintro e w2 ⟨rfl, hb2⟩; have hT := bc_then hT hb2; have HQ : Veil _ := ⟨HQ.out.below hb2⟩; obtain ⟨c0, c1, c2, c3⟩ := HQ.out)
        | (go_at_call 14; refine (RR.out _).mono ?_; rintro e w1 ⟨rfl, hb1⟩; have hT := bc_then HW.out hb1; have HQ : Veil _ := ⟨HB.out.below hb1⟩; obtain ⟨c0, c1, c2, c3⟩ := HQ.out))
      go_ret2
      refine ⟨?_, hT⟩
      rw [HS.out.1, HS.out.2]
      refine ret_str ?_
      try rw [HD.out]
      apply ByteArray.ext
      simp [Pl.key]
  · have hf : p.right = false := by simpa using hright
    rw [hf] at RR
    have HS : Veil (S = [] ∧ c = 100) := ⟨by have h := HR.out; unfold Pl.keyR at h; rw [if_neg hright] at h; simp only [Prod.mk.injEq] at h; exact ⟨h.1.symm, h.2.symm⟩⟩
    obtain ⟨e1, e2⟩ := HS.out
    subst e1 e2
    clear hright hf HR hp
    obtain ⟨k, a, i, m⟩ := p
    unfold Pl.v at *
    dsimp only at *
    go_enter Try.func10, Try.ntmps10
    go_wp2_with (go_at_call 14; refine (RR.out _).mono ?_; rintro e w1 ⟨rfl, hb1⟩)
    go_ret2
    exact ⟨rfl, bc_then (below_al (Below.refl _ _) _) hb1⟩

/-! ### Of -/
def ofR (k : Int) (a : Nat) : List UInt8 × List UInt8 × Int :=
  if (1 ≤ a ∧ a ≤ 1000000) ∧ (k = 2 ∨ k = 3) then ((if k = 2 then 105 else 109) :: putB a 4, (if k = 2 then 105 else 109) :: putB (a + 1) 4, 0) else ([], [], 100)
theorem ret_strs {a b a' b' : ByteArray} {c : Int} (h : a = a') (h2 : b = b') : Ending.returned (.tuple #[.string a, .string b, .int .i64 c]) = Ending.returned (.tuple #[.string a', .string b', .int .i64 c]) := by rw [h, h2]
end Go.Proofs.Ytgaahgnjmhnggaa
