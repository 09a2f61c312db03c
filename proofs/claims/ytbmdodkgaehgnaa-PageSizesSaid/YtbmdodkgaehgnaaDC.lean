/- Write where it is refused; and the law's own example. -/
import Derived.Test.YtbmdodkgaehgnaaDB
namespace Go.Proofs.Ytbmdodkgaehgnaa
open Go.RowKit

set_option maxRecDepth 10000 in
set_option maxHeartbeats 400000 in
theorem write_sector {w : World} {d kb sb : Nat} {v : Value} {D : Dk} (h : DiskAt w d kb sb v D) (i : Int) (s : ByteArray) (hi : i < 0 ∨ D.kept.length ≤ i) :
    Calls Try.prog 43 #[.pointer (some ⟨d, 0, none⟩), .int .i64 i, .string s] w fun e w' => e = .returned (.int .i64 10) ∧ Below w.heap.size w w' := by
  have hm := h.ok.most
  have h0 := h.c0
  have e1 : (decide (0 ≤ (i : Int)) && decide ((i : Int) < (D.kept.length : Int))) = false := by simp; omega
  have E1 := Lib.hid e1
  clear hi e1
  go_enter Try.func43, Try.ntmps43
  go_wp2_with (go_at_call 54; refine (has_any d _ _ _ i w hm h0).mono ?c1)
  case c1 =>
    rintro e w1 ⟨rfl, hb⟩
    rw [E1.out]
    go_wp2
    go_ret
    exact ⟨rfl, hb⟩

set_option maxRecDepth 10000 in
set_option maxHeartbeats 400000 in
theorem write_long {w : World} {d kb sb : Nat} {v : Value} {D : Dk} (h : DiskAt w d kb sb v D) (i : Int) (s : ByteArray) (h0i : 0 ≤ i) (hi : i < D.kept.length) (hs : 64 < s.size) :
    Calls Try.prog 43 #[.pointer (some ⟨d, 0, none⟩), .int .i64 i, .string s] w fun e w' => e = .returned (.int .i64 2) ∧ Below w.heap.size w w' := by
  have hm := h.ok.most
  have h0 := h.c0
  have e1 : (decide (0 ≤ (i : Int)) && decide ((i : Int) < (D.kept.length : Int))) = true := by simp; omega
  have E1 := Lib.hid e1
  clear hi h0i e1
  go_enter Try.func43, Try.ntmps43
  go_wp2_with (go_at_call 54; refine (has_any d _ _ _ i w hm h0).mono ?c1)
  case c1 =>
    rintro e w1 ⟨rfl, hb⟩
    rw [E1.out]
    go_wp2
    go_ret
    exact ⟨rfl, hb⟩

/-- All blocks of the disk lie from B on. -/
def From (B d kb sb : Nat) (v : Value) : Prop := ∀ k, Foot d kb sb v k → B ≤ k
theorem From.next {B d kb sb : Nat} {v v' : Value} {w : World} (h : From B d kb sb v) (hB : B ≤ w.heap.size) (hv : v'.ownBlock = v.ownBlock ∨ ∀ k, v'.ownBlock = some k → w.heap.size ≤ k) : From B d kb sb v' := fun k hk => by
  rcases hk with rfl | rfl | rfl | hk
  · exact h _ (.inl rfl)
  · exact h _ (.inr (.inl rfl))
  · exact h _ (.inr (.inr (.inl rfl)))
  · rcases hv with hv | hv
    · exact h _ (.inr (.inr (.inr (by rw [← hv]; exact hk))))
    · exact Nat.le_trans hB (hv k hk)
theorem From.new {B d kb sb : Nat} (hd : B ≤ d) (hk : B ≤ kb) (hs : B ≤ sb) : From B d kb sb (.slice none 0 0) := fun k h => by
  rcases h with rfl | rfl | rfl | h
  · exact hd
  · exact hk
  · exact hs
  · simp [Value.ownBlock] at h
theorem From.below {B d kb sb : Nat} {v : Value} {w0 w w' : World} (h : From B d kb sb v) (hb : Below B w0 w) (hB : B ≤ w0.heap.size) (ht : Turned (Foot d kb sb v) w w') : Below B w0 w' :=
  hb.trans (ht.toBelow (Nat.le_trans hB hb.size) fun k _ hk => h k hk)

/-- The example's disk, step by step. -/
def exD : Dk := ((((Dk.new 2).write 0 [97, 98]).sync).write 0 [120, 121, 122]).crash [1]
theorem exD_seen : exD.seen[0]? = some (120 :: 98 :: List.replicate 62 0) := by decide +kernel

set_option maxRecDepth 10000 in
set_option maxHeartbeats 2000000 in
theorem shown_any (w : World) : Calls Try.prog 26 #[] w fun e w' => e = .returned (.bool true) ∧ Below w.heap.size w w' := by
  go_enter Try.func26, Try.ntmps26
  go_wp2_with fail
  refine (new_any 2 (by omega) (by omega) w).mono ?_
  rintro e w1 ⟨d, kb, sb, rfl, hD1, hb1, hd, hk, hs⟩
  go_wp2_with fail
  refine (write_any hD1 0 [97, 98] (by simp [Dk.new]) (by simp) (by simp [Dk.new]) (by simp [Dk.new])).mono ?_
  rintro e w2 ⟨rfl, v2, hD2, hT2, hv2⟩
  go_wp2_with fail
  refine (sync_any hD2 (by simp [Dk.write, Dk.new])).mono ?_
  rintro e w3 ⟨rfl, v3, hD3, hT3, hv3⟩
  go_wp2_with fail
  refine (write_any hD3 0 [120, 121, 122] (by simp [Dk.sync, length_keepAll, Dk.write, Dk.new]) (by simp) (by simp [Dk.sync]) (by simp [Dk.sync, Dk.write, Dk.new])).mono ?_
  rintro e w4 ⟨rfl, v4, hD4, hT4, hv4⟩
  go_wp2_with fail
  have hD4' : DiskAt (w4.alloc (.cells #[.int .i64 1] 3)) d kb sb v4 _ := hD4.kept' ((Turned.refl (fun _ => False) w4).alloc _) (fun _ => False.elim)
  have hz : Ints (w4.alloc (.cells #[.int .i64 1] 3)) (some ⟨w4.heap.size, 0, none⟩) [1] := fun _ => ⟨w4.heap.size, 0, rfl, fun i hi => by
    have : i = 0 := by simp at hi; omega
    subst this; simp [go_sem]⟩
  have hap : Apart (w4.alloc (.cells #[.int .i64 1] 3)) d kb sb v4 (some ⟨w4.heap.size, 0, none⟩) := fun b off e => by
    simp only [Option.some.injEq, Addr.mk.injEq] at e
    obtain ⟨rfl, -⟩ := e
    exact ⟨by simp, fun hf => by have := hD4.flt hf; omega⟩
  refine (crash_any hD4' (some ⟨w4.heap.size, 0, none⟩) [1] 1 (by simp [Dk.write]) hz hap (by decide)).mono ?_
  rintro e w5 ⟨rfl, v5, hD5, hT5, hv5⟩
  go_wp2_with fail
  refine (read_any hD5 0 _ exD_seen).mono ?_
  rintro e w6 ⟨rfl, hb6⟩
  go_wp2_with fail
  refine (new_bad 0 (by omega) w6).mono ?_
  rintro e w7 ⟨rfl, hb7⟩
  go_wp2_with fail
  go_ret
  have f1 : From w.heap.size d kb sb (.slice none 0 0) := From.new hd hk hs
  have b2 := f1.below hb1 (Nat.le_refl _) hT2
  have f2 := f1.next hb1.size hv2
  have b3 := f2.below b2 (Nat.le_refl _) hT3
  have f3 := f2.next b2.size hv3
  have b4 := f3.below b3 (Nat.le_refl _) hT4
  have f4 := f3.next b3.size hv4
  have b5 := f4.below (below_al b4 _) (Nat.le_refl _) hT5
  have e : ((⟨(120 :: 98 :: List.replicate 62 0 : List UInt8).toArray⟩ : ByteArray).extract 0 3).toList = [120, 98, 0] := by decide +kernel
  exact ⟨congrArg (fun x => Ending.returned (Value.bool x)) (by first | exact beq_iff_eq.2 e | decide +kernel), (b5.trans (hb6.mono b5.size)).trans (hb7.mono (b5.trans (hb6.mono b5.size)).size)⟩
end Go.Proofs.Ytbmdodkgaehgnaa
