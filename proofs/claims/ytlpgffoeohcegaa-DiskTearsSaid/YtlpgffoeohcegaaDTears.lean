/- DiskTears: a write of which so many bytes are kept is its beginning, and what was there. -/
import Derived.Test.YtlpgffoeohcegaaDC
import Derived.BigQuiet
namespace Go.Proofs.Ytlpgffoeohcegaa
open Go.RowKit

/-- A disk of one sector: what was written and synced, what is written now, so many bytes of it. -/
def T1 (s : List UInt8) : Dk := (Dk.new 1).write 0 s
def T2 (s t : List UInt8) : Dk := (T1 s).sync.write 0 t
theorem T1_seen (s : List UInt8) : (T1 s).seen[0]? = some (pad s) := by simp [T1, Dk.write, Dk.new]
theorem T2_seen (s t : List UInt8) : (T2 s t).seen[0]? = some (pad t) := by simp [T2, T1, Dk.write, Dk.new, Dk.sync]
theorem T2_uns (s t : List UInt8) : (T2 s t).uns.length = 1 := by simp [T2, Dk.write, Dk.sync]
theorem T2_kept (s t : List UInt8) : (T2 s t).kept.length = 1 := by simp [T2, T1, Dk.write, Dk.new, Dk.sync, length_keepAll]
theorem T3_seen (s t : List UInt8) (hs : s.length ≤ 64) (n : Nat) : ((T2 s t).crash [(n : Int)]).seen[0]? = some ((pad t).take n ++ (pad s).drop n) := by
  have h64 : (pad s).take 64 = pad s := List.take_of_length_le (by rw [length_pad hs]; exact Nat.le_refl _)
  have hz : zero64.drop 64 = [] := rfl
  simp [T2, T1, Dk.new, Dk.write, Dk.sync, Dk.crash, crashKept, fallAll, keepAll, all64, tear, h64, hz]

theorem extract_take (s : List UInt8) (k : Nat) : (⟨s.toArray⟩ : ByteArray).extract 0 k = ⟨(s.take k).toArray⟩ := by
  have h : ((⟨s.toArray⟩ : ByteArray).extract 0 k).data = (s.take k).toArray := by
    rw [ByteArray.data_extract]
    simp
  cases h' : (⟨s.toArray⟩ : ByteArray).extract 0 k
  rw [h'] at h
  exact congrArg ByteArray.mk h
theorem tear_list (N P : List UInt8) (m : Nat) (hP : P.length = 64) : ((⟨N.toArray⟩ : ByteArray).extract 0 m ++ (⟨P.toArray⟩ : ByteArray).extract m 64).toList = N.take m ++ P.drop m := by
  have h : ((⟨N.toArray⟩ : ByteArray).extract 0 m ++ (⟨P.toArray⟩ : ByteArray).extract m 64).data = (N.take m ++ P.drop m).toArray := by
    rw [ByteArray.data_append, ByteArray.data_extract, ByteArray.data_extract]
    simp
    rw [List.take_of_length_le (by rw [List.length_drop]; omega)]
  cases h' : ((⟨N.toArray⟩ : ByteArray).extract 0 m ++ (⟨P.toArray⟩ : ByteArray).extract m 64)
  rw [h'] at h
  simp only [] at h
  subst h
  simp [go_sem]

theorem write_take {w : World} {d kb sb : Nat} {v : Value} {D : Dk} (h : DiskAt w d kb sb v D) (i : Nat) (s : List UInt8) (k : Nat) (hk : k ≤ 64) (hi : i < D.kept.length) (hu : D.uns.length < 1000000000000) (ho : D.ops < 1000000000000000) :
    Calls Try.prog 19 #[.pointer (some ⟨d, 0, none⟩), .int .i64 i, .string ((⟨s.toArray⟩ : ByteArray).extract 0 k)] w fun e w' => ∃ s' : List UInt8, s'.length ≤ 64 ∧ DiskPost w d kb sb v (D.write i s') (.int .i64 0) e w' := by
  rw [extract_take]
  have hl : (s.take k).length ≤ 64 := by rw [List.length_take]; omega
  exact (write_any h i _ hi hl hu ho).mono fun e w' hh => ⟨_, hl, hh⟩

/-- A crash with one number, in a new list: the disk's answer. -/
theorem crash_one {w : World} {d kb sb : Nat} {v : Value} {D : Dk} (h : DiskAt w d kb sb v D) (n : Int) : True ∧ (D.uns.length = 1 →
    (allIn 0 64 [n] = true → Calls Try.prog 21 #[.pointer (some ⟨d, 0, none⟩), .slice (some ⟨w.heap.size, 0, none⟩) 1 1] (w.alloc (.cells #[.int .i64 n] 3)) (DiskPost (w.alloc (.cells #[.int .i64 n] 3)) d kb sb v (D.crash [n]) (.int .i64 0)))
    ∧ (allIn 0 64 [n] = false → Calls Try.prog 21 #[.pointer (some ⟨d, 0, none⟩), .slice (some ⟨w.heap.size, 0, none⟩) 1 1] (w.alloc (.cells #[.int .i64 n] 3)) fun e w' => e = .returned (.int .i64 2) ∧ Below (w.alloc (.cells #[.int .i64 n] 3)).heap.size (w.alloc (.cells #[.int .i64 n] 3)) w')) := by
  refine ⟨trivial, fun hu => ?_⟩
  have hD : DiskAt (w.alloc (.cells #[.int .i64 n] 3)) d kb sb v D := h.kept' ((Turned.refl (fun _ => False) w).alloc _) (fun _ => False.elim)
  have hz : Ints (w.alloc (.cells #[.int .i64 n] 3)) (some ⟨w.heap.size, 0, none⟩) [n] := fun _ => ⟨w.heap.size, 0, rfl, fun i hi => by
    have : i = 0 := by simp at hi; omega
    subst this; simp [go_sem]⟩
  have hap : Apart (w.alloc (.cells #[.int .i64 n] 3)) d kb sb v (some ⟨w.heap.size, 0, none⟩) := fun b off e => by
    simp only [Option.some.injEq, Addr.mk.injEq] at e
    obtain ⟨rfl, -⟩ := e
    exact ⟨by simp, fun hf => by have := h.flt hf; omega⟩
  exact ⟨fun ha => crash_any hD (some ⟨w.heap.size, 0, none⟩) [n] 1 (by simp; omega) hz hap ha, fun ha => crash_wrong hD (some ⟨w.heap.size, 0, none⟩) [n] 1 (by simp; omega) hz hap ha⟩

set_option maxHeartbeats 2000000 in
set_option maxRecDepth 100000 in
theorem tears_any (s t : List UInt8) (n : Int) (w : World) (hs : s.length ≤ 9223372036854775807) (ht : t.length ≤ 9223372036854775807) : Calls Try.prog 8 #[.string ⟨s.toArray⟩, .string ⟨t.toArray⟩, .int .i64 n] w fun e w' => e = .returned (.bool true) ∧ Below w.heap.size w w' := by
  go_enter Try.func8, Try.ntmps8
  go_wp2_with fail
  refine (shown_any w).mono ?_
  rintro e w0 ⟨rfl, hb0⟩
  go_wp2_with fail
  refine (new_any 1 (by omega) (by omega) w0).mono ?_
  rintro e w1 ⟨d, kb, sb, rfl, hD1, hb1, hd, hk, hsb⟩
  have f1 : From w.heap.size d kb sb (.slice none 0 0) := From.new (Nat.le_trans hb0.size hd) (Nat.le_trans hb0.size hk) (Nat.le_trans hb0.size hsb)
  have b1 : Below w.heap.size w w1 := hb0.trans (hb1.mono hb0.size)
  go_wp2_with fail
  all_goals
    refine (write_take hD1 0 s _ (by omega) (by simp [Dk.new]) (by simp [Dk.new]) (by simp [Dk.new])).mono ?_
    rintro e w2 ⟨s1, hs1, rfl, v2, hD2, hT2, hv2⟩
    have b2 := f1.below b1 (Nat.le_refl _) hT2
    have f2 := f1.next b1.size hv2
    go_wp2_with fail
    refine (read_any hD2 0 _ (T1_seen _)).mono ?_
    rintro e w3 ⟨rfl, hb3⟩
    have hD3 := hD2.kept' (F := fun _ => False) (Turned.new hb3) (fun _ => False.elim)
    have b3 := b2.trans (hb3.mono b2.size)
    go_wp2_with fail
    refine (sync_any hD3 (by simp [Dk.write, Dk.new])).mono ?_
    rintro e w4 ⟨rfl, v4, hD4, hT4, hv4⟩
    have b4 := f2.below b3 (Nat.le_refl _) hT4
    have f4 := f2.next b3.size hv4
    go_wp2_with fail
  all_goals
    refine (write_take hD4 0 t _ (by omega) (by simp [Dk.sync, length_keepAll, Dk.write, Dk.new]) (by simp [Dk.sync]) (by simp [Dk.sync, Dk.write, Dk.new])).mono ?_
    rintro e w5 ⟨t1, ht1, rfl, v5, hD5, hT5, hv5⟩
    have b5 := f4.below b4 (Nat.le_refl _) hT5
    have f5 := f4.next b4.size hv5
    go_wp2_with fail
    refine (read_any hD5 0 _ (T2_seen _ _)).mono ?_
    rintro e w6 ⟨rfl, hb6⟩
    have hD6 := hD5.kept' (F := fun _ => False) (Turned.new hb6) (fun _ => False.elim)
    have b6 := b5.trans (hb6.mono b5.size)
    clear b1 b2 b3 b4 b5 hD2 hD3 hD4 hD5 hT2 hT4 hT5 hv2 hv4 hv5 hb6 hb3 f1 f2 f4 hD1 hb1 hb0
    have HD6 := Lib.hid hD6
    have F5 := Lib.hid f5
    have B6 := Lib.hid b6
    clear hD6 f5 b6
    by_cases hn : n < 0 ∨ 64 < n
    · have hc := crash_one HD6.out n
      have hw : allIn 0 64 [n] = false := by simp [allIn]; omega
      have C := Lib.hid ((hc.2 rfl).2 hw)
      clear hc hw
      by_cases h0 : n < 0
      · go_wp2_with fail
        refine C.out.mono ?_
        rintro e w7 ⟨rfl, hb7⟩
        go_wp2_with fail
        go_ret
        exact ⟨rfl, (below_al B6.out _).trans (hb7.mono (below_al B6.out _).size)⟩
      · have h1 : 64 < n := by omega
        go_wp2_with fail
        refine C.out.mono ?_
        rintro e w7 ⟨rfl, hb7⟩
        go_wp2_with fail
        go_ret
        exact ⟨rfl, (below_al B6.out _).trans (hb7.mono (below_al B6.out _).size)⟩
    · obtain ⟨m, rfl⟩ : ∃ m : Nat, n = m := ⟨n.toNat, by omega⟩
      have hm : m ≤ 64 := by omega
      have hc := crash_one HD6.out m
      have hw : allIn 0 64 [(m : Int)] = true := by simp [allIn]; omega
      have C := Lib.hid ((hc.2 rfl).1 hw)
      clear hc hw hn
      go_wp2_with fail
      refine C.out.mono ?_
      rintro e w7 ⟨rfl, v7, hD7, hT7, hv7⟩
      have b7 := F5.out.below (below_al B6.out _) (Nat.le_refl _) hT7
      go_wp2_with fail
      refine (read_any hD7 0 _ (T3_seen _ _ (hs1) _)).mono ?_
      rintro e w8 ⟨rfl, hb8⟩
      have B8 := Lib.hid (b7.trans (hb8.mono b7.size))
      have hP : (pad s1).length = 64 := length_pad hs1
      have hN : (pad t1).length = 64 := length_pad ht1
      have hI : (List.take m (pad t1) ++ List.drop m (pad s1)).length = 64 := by rw [List.length_append, List.length_take, List.length_drop]; omega
      generalize hIe : List.take m (pad t1) ++ List.drop m (pad s1) = I at hI ⊢
      have HI := Lib.hid hIe
      clear hIe hb8 b7 hT7 hD7 hv7 C HD6 F5 B6
      revert hP hN HI
      generalize pad s1 = P
      generalize pad t1 = N
      intro hP hN HI
      go_wp2_with fail
      go_quiet (fail)
      go_wp2_with fail
      go_ret
      exact ⟨congrArg (fun x => Ending.returned (Value.bool x)) (beq_iff_eq.2 ((tear_list N P m hP).trans HI.out).symm), B8.out.trans (((Turned.refl (fun _ => False) w8).drewN nq).toBelow (Nat.le_refl _) (fun _ _ hk => hk.elim) |>.mono B8.out.size)⟩
end Go.Proofs.Ytlpgffoeohcegaa
