/- The law on changed bytes: SumFinds. -/
import Derived.Test.YtecpickpimcoaaaSU
import Derived.Laws.IdiomStrings
import Derived.DataShut
namespace Go.Proofs.Ytecpickpimcoaaa
open Go Go.RowKit
attribute [local go_sem] Oper.semAt_some

/-- A text's bytes, in a new row. -/
theorem bytes_of (u : List UInt8) (w : World) : ∃ cap W, (convert 9 37 (.string ⟨u.toArray⟩)).run Try.prog w = .ok (.slice (some ⟨w.heap.size, 0, none⟩) u.length cap) W ∧ Below w.heap.size w W ∧ ∀ i, i < u.length → W.cell? ⟨w.heap.size, i, none⟩ = some (.int .u8 (u.getD i 0).toNat) ∧ W.frozen? ⟨w.heap.size, i, none⟩ = false := by
  refine ⟨_, _, run_bytes_of_string (P := Try.prog) w 9 37 5 ⟨u.toArray⟩ Try.underlying9 Try.underlying37 Try.underlying5, below_al (Below.refl _ w).drew _, fun i hi => ⟨?_, ?_⟩⟩
  · have := World.cell?_alloc_mark w.drew (bytesRow ⟨u.toArray⟩ (grownCap w (⟨u.toArray⟩ : ByteArray).size 0 5)) 5 ((bytesRow ⟨u.toArray⟩ (grownCap w (⟨u.toArray⟩ : ByteArray).size 0 5)).size, (bytesRow ⟨u.toArray⟩ (grownCap w (⟨u.toArray⟩ : ByteArray).size 0 5)).size + 1) i
    rw [bytesRow_at _ _ _ (by simpa using hi)] at this
    have e : (⟨u.toArray⟩ : ByteArray).data[i]'(by simpa using hi) = u.getD i 0 := by simp [List.getD, hi]
    rw [e] at this
    exact this
  · have := World.frozen?_alloc_mark w.drew (bytesRow ⟨u.toArray⟩ (grownCap w (⟨u.toArray⟩ : ByteArray).size 0 5)) 5 (bytesRow ⟨u.toArray⟩ (grownCap w (⟨u.toArray⟩ : ByteArray).size 0 5)).size ((bytesRow ⟨u.toArray⟩ (grownCap w (⟨u.toArray⟩ : ByteArray).size 0 5)).size + 1) i
    have hlt : i < (bytesRow ⟨u.toArray⟩ (grownCap w (⟨u.toArray⟩ : ByteArray).size 0 5)).size := by
      have := bytesRow_at ⟨u.toArray⟩ (grownCap w (⟨u.toArray⟩ : ByteArray).size 0 5) i (by simpa using hi)
      exact (Array.getElem?_eq_some_iff.1 this).1
    rw [show decide ((bytesRow ⟨u.toArray⟩ (grownCap w (⟨u.toArray⟩ : ByteArray).size 0 5)).size ≤ i) = false from decide_eq_false (by omega)] at this
    exact this

set_option maxHeartbeats 2000000 in
theorem finds_bad (s : List UInt8) (at' Y : Int) (w : World) (u : List UInt8) (hu : s.take 3000 ++ sealB (sumN (s.take 3000)) = u) (hb : at' < 0 ∨ (0 ≤ at' ∧ (u.length : Int) ≤ at') ∨ (0 ≤ at' ∧ at' < u.length ∧ Y = 0)) : Calls Try.prog 7 #[.string ⟨s.toArray⟩, .int .i64 at', .int .u8 Y] w fun e w' => e = .returned (.bool true) ∧ Below w.heap.size w w' := by
  go_enter Try.func7, Try.ntmps7
  have h1 : (s.take 3000).length ≤ 3000 := by rw [List.length_take]; omega
  obtain ⟨s', hs'⟩ : ∃ s', s.take 3000 = s' := ⟨_, rfl⟩
  rw [hs'] at h1 hu
  have CS := seal_ok s' u (Nat.le_trans h1 (by decide)) hu
  have HS : Veil _ := ⟨hs'⟩
  clear hs' hu h1
  rcases hb with hb | ⟨hb0, hb⟩ | ⟨hb0, hb, rfl⟩
  all_goals
    go_wp2_with (first
      | (go_at_call 23; refine (CS.out w2).mono ?_; rintro e w3 ⟨rfl, hb3⟩; obtain ⟨cap, W, hcv, hW, hcc⟩ := bytes_of u w3; have HCC : Veil _ := ⟨hcc⟩; clear hcc)
      | (go_at_call 13; refine (cut_any s _).mono ?_; rintro e w3 ⟨rfl, rfl⟩; rw [HS.out])
      | (go_at_call 11; refine (shown_any _).mono ?_; rintro e w2 ⟨rfl, hb2⟩))
    go_ret
    exact ⟨rfl, below_then (below_then hb2 hb3) hW⟩

theorem lo8 {n : Int} (h : (Lit.int IntKind.u8 n).wf = true) : 0 ≤ n := by
  have := (Lit.wf_int_iff .u8 n).1 h
  simp [IntKind.min, IntKind.signed, IntKind.max, IntKind.bits] at this
  omega
theorem hi8 {n : Int} (h : (Lit.int IntKind.u8 n).wf = true) : n < 256 := by
  have := (Lit.wf_int_iff .u8 n).1 h
  simp [IntKind.min, IntKind.signed, IntKind.max, IntKind.bits] at this
  omega
theorem conv_set (u : List UInt8) (k : Nat) (c : UInt8) (cap B : Nat) (W : World) (hcc : ∀ i, i < u.length → W.cell? ⟨B, i, none⟩ = some (.int .u8 (u.getD i 0).toNat) ∧ W.frozen? ⟨B, i, none⟩ = false) :
    (convert 37 9 (.slice (some ⟨B, 0, none⟩) u.length cap)).run Try.prog (W.setCell ⟨B, k, none⟩ (.int .u8 c.toNat)) = .ok (.string ⟨(u.set k c).toArray⟩) (W.setCell ⟨B, k, none⟩ (.int .u8 c.toNat)) := by
  have := run_convert_u8s (P := Try.prog) (W.setCell ⟨B, k, none⟩ (.int .u8 c.toNat)) 37 9 5 Try.underlying37 Try.underlying5 Try.underlying9 B 0 cap (u.set k c) (fun j v hj => by
    simp only [u8s, List.getElem?_map, List.getElem?_set] at hj
    rw [Nat.zero_add]
    by_cases hjk : k = j
    · subst hjk
      by_cases hl : k < u.length
      · simp [hl] at hj
        subst hj
        rw [World.cell?_setCell_same _ _ _ (hcc k hl).1]
        rfl
      · simp [hl] at hj
    · rw [World.cell?_setCell_other _ _ _ _ (fun e => hjk (congrArg Addr.off e))]
      simp only [hjk, if_false] at hj
      have hl : j < u.length := by
        rcases Nat.lt_or_ge j u.length with h | h
        · exact h
        · rw [List.getElem?_eq_none h] at hj; cases hj
      rw [(hcc j hl).1]
      simp [hl] at hj
      subst hj
      simp [u8v, List.getD, hl])
  rwa [List.length_set] at this

set_option maxHeartbeats 2000000 in
theorem finds_good (s : List UInt8) (k : Nat) (Y : Int) (w : World) (u : List UInt8) (hu : s.take 3000 ++ sealB (sumN (s.take 3000)) = u) (hk : k < u.length) (hY0 : 0 < Y) (hY : Y < 256) : Calls Try.prog 7 #[.string ⟨s.toArray⟩, .int .i64 k, .int .u8 Y] w fun e w' => e = .returned (.bool true) ∧ Below w.heap.size w w' := by
  go_enter Try.func7, Try.ntmps7
  have h1 : (s.take 3000).length ≤ 3000 := by rw [List.length_take]; omega
  obtain ⟨s', hs'⟩ : ∃ s', s.take 3000 = s' := ⟨_, rfl⟩
  rw [hs'] at h1 hu
  have CS := seal_ok s' u (Nat.le_trans h1 (by decide)) hu
  have hlu : u.length = s'.length + 4 := by rw [← hu, List.length_append, sealB_len]
  obtain ⟨c, hc⟩ : ∃ c, u.getD k 0 ^^^ UInt8.ofNat Y.toNat = c := ⟨_, rfl⟩
  have hyt : ((UInt8.ofNat Y.toNat).toNat : Int) = Y := by rw [UInt8.toNat_ofNat']; omega
  have hne : c ≠ u.getD k 0 := fun e => by
    rw [e] at hc
    have h0 := congrArg (u.getD k 0 ^^^ ·) hc
    simp only [← UInt8.xor_assoc, UInt8.xor_self, UInt8.zero_xor] at h0
    rw [h0] at hyt
    simp at hyt
    omega
  have CO := open_ok (u.set k c) (by rw [List.length_set, hlu]; exact Nat.le_trans (Nat.add_le_add_right h1 4) (by decide)) (v := .tuple #[.string ⟨#[]⟩, .int .i64 20]) (by
    rw [← hu]; rw [← hu] at hne hk; exact finds s' k c (by rw [List.length_append, sealB_len] at hk; exact hk) hne)
  have hxor : bits BinOp.xor IntKind.u8 ((u.getD k 0).toNat : Int) Y = (c.toNat : Int) := by
    rw [← hyt, u8_xor_nat _ _ (UInt8.toNat_lt _) (UInt8.toNat_lt _), ← hc, UInt8.toNat_xor]
  obtain ⟨X, hX⟩ : ∃ X : Int, ((u.getD k 0).toNat : Int) = X := ⟨_, rfl⟩
  obtain ⟨Z, hZ⟩ : ∃ Z : Int, (c.toNat : Int) = Z := ⟨_, rfl⟩
  rw [hX, hZ] at hxor
  have HS : Veil _ := ⟨hs'⟩
  have HXZ : Veil _ := ⟨And.intro hX hZ⟩
  have HK : Veil _ := ⟨hk⟩
  clear hs' hu h1 hc hyt hne hX hZ hlu
  go_wp2_with (first
    | (go_at_call 19; refine (CO.out _).mono ?_; rintro e w5 ⟨rfl, hb5⟩)
    | (go_at_call 23; refine (CS.out w2).mono ?_; rintro e w3 ⟨rfl, hb3⟩; obtain ⟨cap, W, hcv, hW, hcc⟩ := bytes_of u w3; have hck := (hcc k HK.out).1; have hfk := (hcc k HK.out).2; rw [HXZ.out.1] at hck; have hcv2 := conv_set u k c cap w3.heap.size W hcc; rw [HXZ.out.2] at hcv2; clear hcc)
    | (go_at_call 13; refine (cut_any s _).mono ?_; rintro e w3 ⟨rfl, rfl⟩; rw [HS.out])
    | (go_at_call 11; refine (shown_any _).mono ?_; rintro e w2 ⟨rfl, hb2⟩))
  all_goals
    go_ret
    first
      | exact ⟨rfl, below_then (below_then hb2 hb3) hW⟩
      | exact ⟨rfl, below_then (((below_then (below_then hb2 hb3) hW)).trans (((Turned.refl (· = w3.heap.size) W).setCell (p := ⟨w3.heap.size, k, none⟩) rfl _).toBelow (below_then (below_then hb2 hb3) hW).size (fun j _ e => by have := (below_then hb2 hb3).size; omega))) hb5⟩

theorem finds_any (s : List UInt8) (at' Y : Int) (hY0 : 0 ≤ Y) (hY : Y < 256) (w : World) : Calls Try.prog 7 #[.string ⟨s.toArray⟩, .int .i64 at', .int .u8 Y] w fun e w' => e = .returned (.bool true) ∧ Below w.heap.size w w' := by
  by_cases h : at' < 0 ∨ (0 ≤ at' ∧ ((s.take 3000 ++ sealB (sumN (s.take 3000))).length : Int) ≤ at') ∨ (0 ≤ at' ∧ at' < ((s.take 3000 ++ sealB (sumN (s.take 3000))).length : Int) ∧ Y = 0)
  · exact finds_bad s at' Y w _ rfl h
  · have hg := finds_good s at'.toNat Y w _ rfl (by omega) (by omega) hY
    rwa [show ((at'.toNat : Nat) : Int) = at' by omega] at hg
end Go.Proofs.Ytecpickpimcoaaa
