/- The walks of the document's own answers: Seal, Open, Turn. -/
import Derived.Test.YtecpickpimcoaaaSX
import Derived.Deep.QuietTactic
import Derived.BigQuiet
namespace Go.Proofs.Ytecpickpimcoaaa
open Go Go.RowKit
attribute [local go_sem] Oper.semAt_some

theorem conv_four (n : Nat) (w : World) : (convert 37 9 (.slice (some ⟨w.heap.size, 0, none⟩) 4 4)).run Try.prog (w.alloc (.cells #[Value.int IntKind.u8 ((n : Int) / 16777216 % 256), Value.int IntKind.u8 ((n : Int) / 65536 % 256), Value.int IntKind.u8 ((n : Int) / 256 % 256), Value.int IntKind.u8 ((n : Int) % 256)] 5)) = .ok (.string ⟨(sealB n).toArray⟩) (w.alloc (.cells #[Value.int IntKind.u8 ((n : Int) / 16777216 % 256), Value.int IntKind.u8 ((n : Int) / 65536 % 256), Value.int IntKind.u8 ((n : Int) / 256 % 256), Value.int IntKind.u8 ((n : Int) % 256)] 5)) := by
  have hc := seal_cells n
  have := run_convert_u8s (P := Try.prog) (w.alloc (.cells (u8s (sealB n)).toArray 5)) 37 9 5 Try.underlying37 Try.underlying5 Try.underlying9 w.heap.size 0 4 (sealB n) (by
    have := rangeAt_whole (heap_alloc_new w (.cells (u8s (sealB n)).toArray 5)) 0 (u8s (sealB n)).length
    rwa [List.drop_zero, List.take_length] at this)
  rw [← hc] at this
  exact this

set_option maxHeartbeats 1000000 in
theorem refseal_any (s : List UInt8) (hs : Veil (s.length ≤ 1000000)) (w : World) : Calls Try.prog 24 #[.string ⟨s.toArray⟩] w fun e w' => e = .returned (.string ⟨(s ++ sealB (sumN s)).toArray⟩) ∧ Below w.heap.size w w' := by
  have hs' : Veil (s.length ≤ 9223372036854775806) := ⟨by have := hs.out; omega⟩
  have hcv := conv_four (sumN s) w
  have hlt := sumN_lt s
  have hN : ((sumN s : Nat) : Int) < 4294967296 := by omega
  have hN0 : 0 ≤ ((sumN s : Nat) : Int) := by omega
  have RS : Veil (∀ w, Calls Try.prog 18 #[.string ⟨s.toArray⟩] w fun e w' => e = .returned (.int .u32 (sumN s)) ∧ w = w') := ⟨fun w => refsum_any s hs' w⟩
  obtain ⟨q, hq⟩ : ∃ q, sealB (sumN s) = q := ⟨_, rfl⟩
  have hql : q.length = 4 := by rw [← hq, sealB_len]
  have hnb : ¬ 9223372036854775807 < s.length + q.length := by have := hs.out; omega
  rw [hq] at hcv ⊢
  clear hq hlt hql
  revert hcv RS hN hN0
  generalize ((sumN s : Nat) : Int) = N
  intro hN hN0 RS hcv
  rw [show N / 16777216 % 256 = N / 16777216 by omega] at hcv
  go_enter Try.func24, Try.ntmps24
  go_wp2_with (go_at_call 18; refine (RS.out _).mono ?_; rintro e w2 ⟨rfl, rfl⟩)
  go_ret
  exact ⟨congrArg (fun x => Ending.returned (Value.string x)) (str_append _ _), below_al (Below.refl _ _) _⟩

theorem sealB_back (t : List UInt8) (h : t.length = 4) : sealB (sealV t) = t := by
  match t, h with
  | [a, b, c, d], _ =>
    have := a.toNat_lt; have := b.toNat_lt; have := c.toNat_lt; have := d.toNat_lt
    simp only [sealV, shlS, sealB, List.foldl_cons, List.foldl_nil, List.cons.injEq, and_true]
    refine ⟨?_, ?_, ?_, ?_⟩ <;> (apply UInt8.toNat_inj.1; simp only [Nat.toUInt8, UInt8.toNat_ofNat']; omega)

set_option maxHeartbeats 1000000 in
theorem refopen_any (s : List UInt8) (hs : Veil (s.length ≤ 1000000)) (w : World) : Calls Try.prog 20 #[.string ⟨s.toArray⟩] w fun e w' => e = .returned (openR s) ∧ Below w.heap.size w w' := by
  by_cases h4 : 4 ≤ s.length
  · have hn : s.length - 4 + 4 = s.length := by omega
    obtain ⟨n, hnn⟩ : ∃ n, s.length - 4 = n := ⟨_, rfl⟩
    rw [hnn] at hn
    have hw : wrap64 ((s.length : Int) - 4) = n := by have := hs.out; unfold wrap64; omega
    have hle : n ≤ s.length := by omega
    have h5 : ¬ (s.length : Int) < 4 := by omega
    have hex : (⟨s.toArray⟩ : ByteArray).extract 0 n = ⟨(s.take n).toArray⟩ := by rw [extract_mid]; simp
    have RS : Veil (∀ w, Calls Try.prog 24 #[.string ⟨(s.take n).toArray⟩] w fun e w' => e = .returned (.string ⟨(s.take n ++ sealB (sumN (s.take n))).toArray⟩) ∧ Below w.heap.size w w') := ⟨fun w => refseal_any (s.take n) ⟨by have := hs.out; rw [List.length_take]; omega⟩ w⟩
    have hd4 : (s.drop n).length = 4 := by rw [List.length_drop]; omega
    have hiff : (s.take n ++ sealB (sumN (s.take n)) = s) ↔ sealV (s.drop n) = sumN (s.take n) := by
      constructor
      · intro h
        have h2 : s.take n ++ sealB (sumN (s.take n)) = s.take n ++ s.drop n := by rw [h, List.take_append_drop]
        rw [← List.append_cancel_left h2, seal_back _ (sumN_lt _)]
      · intro h
        rw [← h, sealB_back _ hd4, List.take_append_drop]
    have hR : openR s = if sealV (s.drop n) = sumN (s.take n) then .tuple #[.string ⟨(s.take n).toArray⟩, .int .i64 0] else .tuple #[.string ⟨#[]⟩, .int .i64 20] := by
      unfold openR opens
      rw [hnn]
      simp [h4]
    rw [hR]
    clear hR hnn hn hd4 h4
    obtain ⟨u, hu⟩ : ∃ u, s.take n ++ sealB (sumN (s.take n)) = u := ⟨_, rfl⟩
    rw [hu] at RS hiff
    obtain ⟨b, hbb⟩ : ∃ b, s.take n = b := ⟨_, rfl⟩
    by_cases he : u = s
    · rw [if_pos (hiff.1 he)]
      rw [hbb] at hex RS ⊢
      subst he
      clear hu hiff hbb
      go_enter Try.func20, Try.ntmps20
      go_wp2_with (go_at_call 24; refine (RS.out _).mono ?_; rintro e w2 ⟨rfl, hb2⟩)
      go_ret2
      exact ⟨rfl, hb2⟩
    · rw [if_neg (fun h => he (hiff.2 h))]
      rw [hbb] at hex RS
      have heq : (u == s) = false := by simpa using he
      clear hu hiff hbb he
      go_enter Try.func20, Try.ntmps20
      go_wp2_with (go_at_call 24; refine (RS.out _).mono ?_; rintro e w2 ⟨rfl, hb2⟩)
      go_ret2
      exact ⟨rfl, hb2⟩
  · have hR : openR s = .tuple #[.string ⟨#[]⟩, .int .i64 20] := by unfold openR opens; simp [h4]
    have h5 : (s.length : Int) < 4 := by omega
    rw [hR]
    clear hR h4
    go_enter Try.func20, Try.ntmps20
    go_wp2
    go_ret2
    exact ⟨rfl, Below.refl _ _⟩

set_option maxHeartbeats 1000000 in
theorem refturn_no (s : List UInt8) (hs : Veil (s.length ≤ 1000000)) (at' : Int) (h : at' < 0 ∨ (0 ≤ at' ∧ (s.length : Int) - 1 ≤ at')) (w : World) : Calls Try.prog 22 #[.string ⟨s.toArray⟩, .int .i64 at'] w fun e w' => e = .returned (.tuple #[.string ⟨#[]⟩, .int .i64 2]) ∧ Below w.heap.size w w' := by
  go_enter Try.func22, Try.ntmps22
  rcases h with h | ⟨h0, h⟩
  · go_wp2
    go_ret2
    exact ⟨rfl, Below.refl _ _⟩
  · have hw : wrap64 ((s.length : Int) - 1) = (s.length : Int) - 1 := by have := hs.out; unfold wrap64; omega
    go_wp2
    go_ret2
    exact ⟨rfl, Below.refl _ _⟩

theorem take_one (s : List UInt8) (i : Nat) (h : i < s.length) : (s.drop i).take 1 = [s.getD i 0] := by
  rw [List.drop_eq_getElem_cons h, List.take_succ_cons, List.take_zero]; simp [List.getD, h]

set_option maxHeartbeats 1000000 in
theorem refturn_yes (s : List UInt8) (hs : Veil (s.length ≤ 1000000)) (k : Nat) (hk : k + 1 < s.length) (w : World) : Calls Try.prog 22 #[.string ⟨s.toArray⟩, .int .i64 k] w fun e w' => e = .returned (.tuple #[.string ⟨(turnL s k).toArray⟩, .int .i64 0]) ∧ Below w.heap.size w w' := by
  go_enter Try.func22, Try.ntmps22
  have h2 : (k : Int) < (s.length : Int) - 1 := by omega
  have hw : wrap64 ((s.length : Int) - 1) = (s.length : Int) - 1 := by have := hs.out; unfold wrap64; omega
  have hw1 : wrap64 ((k : Int) + 1) = (k : Int) + 1 := by have := hs.out; unfold wrap64; omega
  have hw2 : wrap64 ((k : Int) + 2) = (k : Int) + 2 := by have := hs.out; unfold wrap64; omega
  have hw1' : IntKind.i64.wrap ((k : Int) + 1) = (k : Int) + 1 := by have := hs.out; rw [IntKind.wrap_i64]; omega
  have hw2' : IntKind.i64.wrap ((k : Int) + 2) = (k : Int) + 2 := by have := hs.out; rw [IntKind.wrap_i64]; omega
  have i1 : (k : Int) + 1 < s.length := by omega
  have i0 : (0 : Int) ≤ (k : Int) + 1 := by omega
  have i2 : (k : Int) + 2 ≤ s.length := by omega
  have b0 : k ≤ s.length := by omega
  have b1 : k < s.length := by omega
  have b2 : k + 2 ≤ s.length := by omega
  have i3 : (k : Int) + 1 ≤ s.length := by omega
  have i4 : (k : Int) ≤ (k : Int) + 1 := by omega
  go_wp2_with fail
  obtain ⟨W, hW⟩ : ∃ W, w.drew = W := ⟨_, rfl⟩
  refine region_plan 22 [(true, 0), (true, 1), (true, 2), (true, 3), (true, 4), (true, 5), (true, 6), (true, 7), (true, 8), (true, 9), (true, 10), (true, 11), (true, 12), (true, 13), (true, 14), (true, 15), (true, 16), (true, 17), (true, 18), (true, 19), (true, 20), (true, 21)] (by kernel_rfl) (by kernel_rfl) (fun _ => True) W hW trivial ?_
  simp only [planOps, List.filterMap_cons, List.filterMap_nil, List.getElem?_toArray, List.getElem?_cons_zero, List.getElem?_cons_succ, Option.map_some]
  iterate 9 (refine plan_quiet rfl ?_ ?_ (fun K hK => ?_); rotate_left; (intro w' hw'; go_simp; rfl); (go_simp; refine hK _ ?_; clear hK K))
  have n1 : ¬ 9223372036854775807 < k + (((k : Int) + 2).toNat - (k + 1)) := by have := hs.out; omega
  iterate 6 (refine plan_quiet rfl ?_ ?_ (fun K hK => ?_); rotate_left; (intro w' hw'; go_simp; rfl); (go_simp; refine hK _ ?_; clear hK K))
  have n2 : ¬ 9223372036854775807 < k + (((k : Int) + 2).toNat - (k + 1)) + (min (k + 1) s.length - k) := by have := hs.out; omega
  have n3 : ¬ 9223372036854775807 < k + (((k : Int) + 2).toNat - (k + 1)) + (min (k + 1) s.length - k) + (s.length - ((k : Int) + 2).toNat) := by have := hs.out; omega
  iterate 7 (refine plan_quiet rfl ?_ ?_ (fun K hK => ?_); rotate_left; (intro w' hw'; go_simp; rfl); (go_simp; refine hK _ ?_; clear hK K))
  refine wpPlan_nil ?_
  simp only [List.drop_succ_cons, List.drop_zero]
  go_wp2
  refine only_normal ?_
  go_wp2
  go_ret2
  have hb : Below w.heap.size w W := by rw [← hW]; exact (Below.refl _ w).drew
  refine ⟨congrArg (fun x => Ending.returned (Value.tuple #[Value.string x, .int .i64 0])) ?_, hb⟩
  rw [show ((k : Int) + 2).toNat = k + 2 by omega, extract_mid, extract_mid, extract_mid, extract_mid]
  rw [show (s.drop 0).take (k - 0) = s.take k by simp, show (s.drop (k + 2)).take (s.length - (k + 2)) = s.drop (k + 2) by rw [List.take_of_length_le]; simp]
  have e1 : (s.drop (k + 1)).take (k + 2 - (k + 1)) = [s.getD (k + 1) 0] := by
    rw [show k + 2 - (k + 1) = 1 by omega, take_one s _ hk]
  have e2 : (s.drop k).take (k + 1 - k) = [s.getD k 0] := by
    rw [show k + 1 - k = 1 by omega, take_one s _ b1]
  rw [e1, e2, str_append, str_append, str_append]
  simp [turnL]

theorem refturn_any (s : List UInt8) (hs : Veil (s.length ≤ 1000000)) (at' : Int) (w : World) : Calls Try.prog 22 #[.string ⟨s.toArray⟩, .int .i64 at'] w fun e w' => e = .returned (turnR s at') ∧ Below w.heap.size w w' := by
  by_cases h : 0 ≤ at' ∧ at' < (s.length : Int) - 1
  · have := refturn_yes s hs at'.toNat (by omega) w
    rw [show ((at'.toNat : Nat) : Int) = at' by omega] at this
    unfold turnR
    rwa [if_pos h]
  · have := refturn_no s hs at' (by omega) w
    unfold turnR
    rwa [if_neg h]

/-! ### The law -/
theorem openR_form (s : List UInt8) : ∃ (u : List UInt8) (E : Int), openR s = .tuple #[.string ⟨u.toArray⟩, .int .i64 E] := by
  unfold openR
  split
  · exact ⟨_, _, rfl⟩
  · exact ⟨[], _, rfl⟩
theorem turnR_form (s : List UInt8) (at' : Int) : ∃ (u : List UInt8) (E : Int), turnR s at' = .tuple #[.string ⟨u.toArray⟩, .int .i64 E] := by
  unfold turnR
  split
  · exact ⟨_, _, rfl⟩
  · exact ⟨[], _, rfl⟩

set_option maxHeartbeats 2000000 in
theorem seals_law (s : List UInt8) (at' : Int) (w : World) : Calls Try.prog 4 #[.string ⟨s.toArray⟩, .int .i64 at'] w fun e w' => e = .returned (.bool true) ∧ Below w.heap.size w w' := by
  go_enter Try.func4, Try.ntmps4
  have h1 : (s.take 3000).length ≤ 3000 := by rw [List.length_take]; omega
  obtain ⟨s', hs'⟩ : ∃ s', s.take 3000 = s' := ⟨_, rfl⟩
  rw [hs'] at h1
  obtain ⟨p, E, ho⟩ := openR_form s'
  obtain ⟨q, F, ht⟩ := turnR_form s' at'
  obtain ⟨u, hu⟩ : ∃ u, s' ++ sealB (sumN s') = u := ⟨_, rfl⟩
  have CC : Veil (∀ w, Calls Try.prog 13 #[.string ⟨s.toArray⟩] w fun e w' => e = .returned (.string ⟨s'.toArray⟩) ∧ w = w') := ⟨fun w => by rw [← hs']; exact cut_any s w⟩
  have CO := open_ok s' (Nat.le_trans h1 (by decide)) ho
  have RO : Veil (∀ w, Calls Try.prog 20 #[.string ⟨s'.toArray⟩] w fun e w' => e = .returned (.tuple #[.string ⟨p.toArray⟩, .int .i64 E]) ∧ Below w.heap.size w w') := ⟨fun w => by rw [← ho]; exact refopen_any s' ⟨by omega⟩ w⟩
  have CT : Veil (∀ w, Calls Try.prog 21 #[.string ⟨s'.toArray⟩, .int .i64 at'] w fun e w' => e = .returned (.tuple #[.string ⟨q.toArray⟩, .int .i64 F]) ∧ Below w.heap.size w w') := ⟨fun w => by rw [← ht]; exact turn_any s' ⟨by omega⟩ at' w⟩
  have RT : Veil (∀ w, Calls Try.prog 22 #[.string ⟨s'.toArray⟩, .int .i64 at'] w fun e w' => e = .returned (.tuple #[.string ⟨q.toArray⟩, .int .i64 F]) ∧ Below w.heap.size w w') := ⟨fun w => by rw [← ht]; exact refturn_any s' ⟨by omega⟩ at' w⟩
  have CS := seal_ok s' u (Nat.le_trans h1 (by decide)) hu
  have RS : Veil (∀ w, Calls Try.prog 24 #[.string ⟨s'.toArray⟩] w fun e w' => e = .returned (.string ⟨u.toArray⟩) ∧ Below w.heap.size w w') := ⟨fun w => by rw [← hu]; exact refseal_any s' ⟨by omega⟩ w⟩
  clear hs' h1 ho ht hu
  go_wp2_with (first
    | (go_at_call 24; refine (RS.out _).mono ?_; rintro e w9 ⟨rfl, hb9⟩)
    | (go_at_call 23; refine (CS.out _).mono ?_; rintro e w8 ⟨rfl, hb8⟩)
    | (go_at_call 22; refine (RT.out _).mono ?_; rintro e w7 ⟨rfl, hb7⟩)
    | (go_at_call 21; refine (CT.out _).mono ?_; rintro e w6 ⟨rfl, hb6⟩)
    | (go_at_call 20; refine (RO.out _).mono ?_; rintro e w5 ⟨rfl, hb5⟩)
    | (go_at_call 19; refine (CO.out _).mono ?_; rintro e w4 ⟨rfl, hb4⟩)
    | (go_at_call 13; refine (CC.out _).mono ?_; rintro e w3 ⟨rfl, rfl⟩)
    | (go_at_call 11; refine (shown_any _).mono ?_; rintro e w2 ⟨rfl, hb2⟩))
  go_ret
  have b4 := below_then hb2 hb4
  have b5 := below_then b4 hb5
  have b6 := below_then b5 hb6
  have b7 := below_then b6 hb7
  have b8 := below_then b7 hb8
  exact ⟨rfl, below_then b8 hb9⟩
end Go.Proofs.Ytecpickpimcoaaa
