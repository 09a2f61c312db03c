/- The law that a store touches one sector alone: MetaSlots. -/
import Derived.BigQuiet
import Derived.Test.YtghpcjkjhbafnaaKMB
namespace Go.Proofs.Ytghpcjkjhbafnaa
open Go Go.RowKit Sm
attribute [local go_sem] Oper.semAt_some

theorem my_uns0 {w A : World} {d kb sb : Nat} {D : Dk} (h : MyD w d kb sb D A) (hu : D.uns = []) : Calls Try.prog 18 #[.pointer (some ⟨d, 0, none⟩)] A fun e w' => ∃ q qc, e = .returned (.slice q 0 qc) ∧ MyD w d kb sb D w' ∧ Below A.heap.size A w' := by
  have h' := h
  obtain ⟨v, hD, -⟩ := h
  refine (unsynced_any hD).mono ?_
  rintro e w' ⟨s, rfl, hs, hb⟩
  rw [hu] at hs
  rcases hs.2 with ⟨e1, e2⟩ | ⟨g, cap, cur, e1, -⟩
  · exact ⟨none, 0, by rw [e1], h'.below hb, hb⟩
  · exact ⟨_, _, by rw [e1]; rfl, h'.below hb, hb⟩
theorem my_uns1 {w A : World} {d kb sb : Nat} {D : Dk} (h : MyD w d kb sb D A) (i : Nat) (b : List UInt8) (hu : D.uns = [(i, b)]) : Calls Try.prog 18 #[.pointer (some ⟨d, 0, none⟩)] A fun e w' => ∃ g qc, e = .returned (.slice (some ⟨g, 0, none⟩) 1 qc) ∧ w'.cell? ⟨g, 0, none⟩ = some (.int .i64 i) ∧ MyD w d kb sb D w' ∧ Below A.heap.size A w' := by
  have h' := h
  obtain ⟨v, hD, -⟩ := h
  refine (unsynced_any hD).mono ?_
  rintro e w' ⟨s, rfl, hs, hb⟩
  rw [hu] at hs
  rcases hs.2 with ⟨-, e2⟩ | ⟨g, cap, cur, rfl, hg, hh, hn, hc, hsz, ht⟩
  · simp at e2
  · refine ⟨g, cap, rfl, ?_, h'.below hb, hb⟩
    rw [cell_whole (cur := cur.toList) (by simpa using hh)]
    have := congrArg (fun l => l[0]?) ht
    simpa [atv] using this
theorem stoD_uns (D : Dk) (h : 4 < D.kept.length) (m : Mt) (hr : m.right = true) (hu : D.uns = []) : (stoD D m).uns = [(secM m.tx, m.enc)] := by
  have hl := secM_lt m.tx
  unfold stoD Dk.wr
  rw [if_pos hr, if_pos (show (0 : Int) ≤ ((secM m.tx : Nat) : Int) ∧ ((secM m.tx : Nat) : Int) < (D.kept.length : Int) ∧ m.enc.length ≤ 64 by rw [m.enc_len]; omega)]
  show D.uns ++ [((((secM m.tx : Nat) : Int)).toNat, pad m.enc)] = _
  rw [hu, Int.toNat_natCast, pad_full _ m.enc_len]
  rfl

set_option maxRecDepth 20000 in
set_option maxHeartbeats 4000000 in
theorem metaSlots_any (m : Mt) (hm : m.Ok) (w : World) : Calls Try.prog 12 #[m.v] w fun e w' => e = .returned (.bool true) ∧ Below w.heap.size w w' := by
  obtain ⟨WB, hWB⟩ : ∃ WB, w.alloc (.cells #[.int .u64 m.tx, .int .u32 m.root, .int .u32 m.high, .int .u32 m.free] 60) = WB := ⟨_, rfl⟩
  have hpB : Veil (WB.heap[w.heap.size]? = some (.cells #[.int .u64 m.tx, .int .u32 m.root, .int .u32 m.high, .int .u32 m.free] 60 (0, 0))) := ⟨by rw [← hWB]; exact heap_alloc_new _ _⟩
  have hlw : Veil (w.heap.size < WB.heap.size) := ⟨by rw [← hWB]; simp⟩
  have hwB : Veil (Below w.heap.size w WB) := ⟨by rw [← hWB]; exact below_al (Below.refl _ _) _⟩
  have ST : Veil (∀ W, Below WB.heap.size WB W → W.cell? ⟨w.heap.size, 0, none⟩ = some (.int .u64 m.tx) ∧ W.cell? ⟨w.heap.size, 1, none⟩ = some (.int .u32 m.root) ∧ W.cell? ⟨w.heap.size, 2, none⟩ = some (.int .u32 m.high) ∧ W.cell? ⟨w.heap.size, 3, none⟩ = some (.int .u32 m.free)) := ⟨fun W h => (pack4 ((h.block w.heap.size hlw.out).trans hpB.out)).1⟩
  have HS : Veil (∀ (A : World) (d kb sb : Nat), MyD WB d kb sb (Dk.new 8) A → Calls Try.prog 36 #[.pointer (some ⟨d, 0, none⟩), m.v] A fun e w' => e = .returned (.int .i64 (if m.right then 0 else 40)) ∧ MyD WB d kb sb (stoD (Dk.new 8) m) w') := ⟨fun A d kb sb h => by
    have := mstore_my h m hm (by simp [Dk.new]) (by simp [Dk.new])
    rwa [stoC_big _ (by rw [new_len]; decide)] at this⟩
  cases hr : m.right
  · rw [hr] at HS
    have hu : (stoD (Dk.new 8) m).uns = [] := by unfold stoD; rw [hr]; rfl
    have HU : Veil _ := ⟨hu⟩
    clear hu hr hm
    generalize stoD (Dk.new 8) m = D1 at *
    obtain ⟨t, a, h, f⟩ := m
    unfold Mt.v at *
    dsimp only at *
    go_enter Try.func12, Try.ntmps12
    go_wp2_with (first
      | (go_at_call 29; refine (shown4_any _).mono ?_; rintro e w1 ⟨rfl, hb1⟩)
      | (go_at_call 14; refine (new_any 8 (by decide) (by decide) _).mono ?_; intro e w2 hp2; obtain ⟨d, kb, sb, rfl, hM2, hb2⟩ := MyD.new hb1 hp2; have HM2 : Veil _ := ⟨hM2⟩; obtain ⟨x0, x1, x2, x3⟩ := ST.out w2 hM2.in; clear hM2 hp2 hb2)
      | (go_at_call 36; refine (HS.out _ _ _ _ HM2.out).mono ?_; rintro e w3 ⟨rfl, hM3⟩; have HM3 : Veil _ := ⟨hM3⟩; clear hM3)
      | (go_at_call 18; refine (my_uns0 HM3.out HU.out).mono ?_; rintro e w4 ⟨q, qc, rfl, hM4, -⟩; have HM4 : Veil _ := ⟨hM4⟩; clear hM4))
    go_ret
    exact ⟨rfl, blw_then hwB.out HM4.out.in⟩
  · rw [hr] at HS
    have hu := stoD_uns (Dk.new 8) (by rw [new_len]; decide) m hr rfl
    have HU : Veil _ := ⟨hu⟩
    clear hu hr hm
    generalize stoD (Dk.new 8) m = D1 at *
    obtain ⟨t, a, h, f⟩ := m
    dsimp only at HU
    generalize (⟨t, a, h, f⟩ : Mt).enc = E at HU
    unfold Mt.v at *
    dsimp only at *
    have e0 : ((t : Int)).tmod 2 = ((t % 2 : Nat) : Int) := by rw [Int.tmod_eq_emod_of_nonneg (by omega)]; omega
    have h2 : t % 2 < 2 := Nat.mod_lt _ (by decide)
    have hsec : ((secM t : Nat) : Int) = 4 * ((t % 2 : Nat) : Int) := by unfold secM; omega
    have HU' : Veil (∀ (A : World) (d kb sb : Nat), MyD WB d kb sb D1 A → Calls Try.prog 18 #[.pointer (some ⟨d, 0, none⟩)] A fun e w' => ∃ g qc, e = .returned (.slice (some ⟨g, 0, none⟩) 1 qc) ∧ w'.cell? ⟨g, 0, none⟩ = some (.int .i64 (4 * ((t % 2 : Nat) : Int))) ∧ MyD WB d kb sb D1 w' ∧ Below A.heap.size A w') := ⟨fun A d kb sb hM => by
      have := my_uns1 hM _ _ HU.out
      rwa [hsec] at this⟩
    clear hsec HU
    generalize t % 2 = r at *
    have e2 : IntKind.i64.wrap (r : Int) = r := by rw [IntKind.wrap_i64]; omega
    have e3 : IntKind.u64.wrap (r : Int) = r := by rw [IntKind.wrap_u64]; omega
    have e4 : IntKind.i64.wrap (4 * (r : Int)) = 4 * r := by rw [IntKind.wrap_i64]; omega
    go_enter Try.func12, Try.ntmps12
    go_wp2_with (first
      | (go_at_call 29; refine (shown4_any _).mono ?_; rintro e w1 ⟨rfl, hb1⟩)
      | (go_at_call 14; refine (new_any 8 (by decide) (by decide) _).mono ?_; intro e w2 hp2; obtain ⟨d, kb, sb, rfl, hM2, hb2⟩ := MyD.new hb1 hp2; have HM2 : Veil _ := ⟨hM2⟩; obtain ⟨x0, x1, x2, x3⟩ := ST.out w2 hM2.in; clear hM2 hp2 hb2)
      | (go_at_call 36; refine (HS.out _ _ _ _ HM2.out).mono ?_; rintro e w3 ⟨rfl, hM3⟩; have HM3 : Veil _ := ⟨hM3⟩; clear hM3)
      | (go_at_call 18; refine (HU'.out _ _ _ _ HM3.out).mono ?_; rintro e w4 ⟨g, qc, rfl, hcell, hM4, -⟩; have HM4 : Veil _ := ⟨hM4⟩; obtain ⟨y0, y1, y2, y3⟩ := ST.out w4 hM4.in; clear hM4))
    go_quiet (fail)
    go_wp2
    go_ret
    exact ⟨rfl, blw_drewN nq (blw_then hwB.out HM4.out.in)⟩
end Go.Proofs.Ytghpcjkjhbafnaa
