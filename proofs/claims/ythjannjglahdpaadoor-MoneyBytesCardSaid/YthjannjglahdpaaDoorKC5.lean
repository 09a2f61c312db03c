/- The laws on amounts' bytes: MoneyBytes, MoneyBack. -/
import Derived.Test.YthjannjglahdpaaDoorKC3
import Derived.Test.YthjannjglahdpaaDoorKC9
import Derived.Test.YthjannjglahdpaaDoorKCZ
import Derived.Test.YthjannjglahdpaaDoorKZ3
namespace Go.Proofs.YthjannjglahdpaaDoor
open Go Go.RowKit Sm
attribute [local go_sem] Oper.semAt_some

abbrev BytesAt (f : FuncId) (p : Option Addr) (m c : Nat) (S : List UInt8) (e : Int) (B : Nat) (w0 : World) : Prop :=
  ∀ w, Below B w0 w → Calls Tryd.prog f #[.slice p m c] w fun x w' => x = .returned (.tuple #[.string ⟨S.toArray⟩, .int .i64 e]) ∧ Below w.heap.size w w'
abbrev ParseAt (f : FuncId) (S : List UInt8) (L : List Int) (e : Int) : Prop := ∀ w, Calls Tryd.prog f #[.string ⟨S.toArray⟩] w (LsPost w L e)
theorem Els.belowB {α : Type} {E : El α} {w w' : World} {p : Option Addr} {L : List α} (h : Els E w p L) (hb : Below w.heap.size w w') : Els E w' p L := h.below hb

set_option maxRecDepth 20000 in
set_option maxHeartbeats 2000000 in
theorem moneyBytes_any {w : World} {p : Option Addr} (l : List Int) (lc : Nat) (s : List UInt8) (hin : InL elL w p l lc) (hs : s.length ≤ 9223372036854775807) (hS : MSent w) :
    Calls Tryd.prog 4 #[.slice p l.length lc, .string ⟨s.toArray⟩] w fun e w' => e = .returned (.bool true) ∧ Below w.heap.size w w' := by
  have hmin1 : ∀ W, (Builtin.min_ #[3, 3] 3 #[.int .i64 (l.length : Int), .int .i64 30]).run Tryd.prog W = .ok (.int .i64 ((min l.length 30 : Nat) : Int)) W := min_two l.length 30
  have hmin2 : ∀ W, (Builtin.min_ #[3, 3] 3 #[.int .i64 (s.length : Int), .int .i64 200]).run Tryd.prog W = .ok (.int .i64 ((min s.length 200 : Nat) : Int)) W := min_two s.length 200
  have hX := take_extM s 200
  have HE : Veil _ := ⟨hin.els.take 30⟩
  have hcap := hin.cap
  have hle := hin.le
  have hm1 : (l.take 30).length = min l.length 30 := by rw [List.length_take, Nat.min_comm]
  have hm2 : min l.length 30 ≤ l.length := Nat.min_le_left _ _
  have hm3 : min l.length 30 ≤ 30 := Nat.min_le_right _ _
  have hk2 : min s.length 200 ≤ s.length := Nat.min_le_left _ _
  have ht : (s.take 200).length ≤ 200 := by rw [List.length_take]; omega
  have hform := hin.form
  generalize l.take 30 = L at HE hm1
  generalize s.take 200 = t at hX ht
  generalize min l.length 30 = m at hmin1 hm1 hm2 hm3
  generalize min s.length 200 = k at hmin2 hX hk2
  have P1 : Veil (BytesAt 21 p m lc (bytesR L).1 (bytesR L).2 w.heap.size w) := ⟨fun w' hb => by rw [← hm1]; exact mobytes_any L lc (HE.out.below hb) (by omega) (hS.below hb)⟩
  have R1 : Veil (BytesAt 22 p m lc (bytesR L).1 (bytesR L).2 w.heap.size w) := ⟨fun w' hb => by rw [← hm1]; exact refbytesM_any L lc (HE.out.below hb) (by omega)⟩
  have P2 : Veil (ParseAt 23 t (parseR t).1 (parseR t).2) := ⟨fun w' => moparse_any t (by omega) w'⟩
  have R2 : Veil (ParseAt 24 t (parseR t).1 (parseR t).2) := ⟨fun w' => refparseM_any t (by omega) w'⟩
  have hq : (parseR t).1.length ≤ 200 := Nat.le_trans (parse_len t) ht
  generalize bytesR L = x1 at P1 R1
  generalize parseR t = x2 at P2 R2 hq
  obtain ⟨S, c1⟩ := x1
  obtain ⟨Q, c2⟩ := x2
  dsimp only at P1 R1 P2 R2 hq
  have HQ : Veil _ := ⟨hq⟩
  have hm0 : l.length = 0 → m = 0 := fun h => by omega
  clear hin HE hq hm1
  rcases hform with ⟨rfl, rfl, rfl⟩ | ⟨b, o, rfl⟩
  · obtain rfl : m = 0 := hm0 rfl
    clear hm0
    go_enter Tryd.func4, Tryd.ntmps4
    go_wp2_with (first
      | (go_at_call 25; refine (refsameM_any Q Q _ _ (HE4.out.below hb5) HE5.out (by have := HQ.out; omega) (by have := HQ.out; omega)).mono ?_; rintro e w6 ⟨rfl, hb6⟩; have hB6 := bc_then hB5 hb6)
      | (go_at_call 24; refine (R2.out _).mono ?_; rintro e w5 ⟨p5, cp5, rfl, hE5, -, hb5⟩; have hB5 := bc_then hB4 hb5; have HE5 : Veil _ := ⟨hE5⟩; clear hE5)
      | (go_at_call 23; refine (P2.out _).mono ?_; rintro e w4 ⟨p4, cp4, rfl, hE4, -, hb4⟩; have hB4 := bc_then hB3 hb4; have HE4 : Veil _ := ⟨hE4⟩; clear hE4)
      | (go_at_call 22; (with_reducible refine (R1.out _ hB2).mono ?_); rintro e w3 ⟨rfl, hb3⟩; have hB3 := bc_then hB2 hb3)
      | (go_at_call 21; (with_reducible refine (P1.out _ hB1).mono ?_); rintro e w2 ⟨rfl, hb2⟩; have hB2 := bc_then hB1 hb2)
      | (go_at_call 10; refine (shown11_any _ hS).mono ?_; rintro e w1 ⟨rfl, hB1⟩))
    go_ret
    exact ⟨rfl, hB6⟩
  · clear hm0
    go_enter Tryd.func4, Tryd.ntmps4
    go_wp2_with (first
      | (go_at_call 25; refine (refsameM_any Q Q _ _ (HE4.out.below hb5) HE5.out (by have := HQ.out; omega) (by have := HQ.out; omega)).mono ?_; rintro e w6 ⟨rfl, hb6⟩; have hB6 := bc_then hB5 hb6)
      | (go_at_call 24; refine (R2.out _).mono ?_; rintro e w5 ⟨p5, cp5, rfl, hE5, -, hb5⟩; have hB5 := bc_then hB4 hb5; have HE5 : Veil _ := ⟨hE5⟩; clear hE5)
      | (go_at_call 23; refine (P2.out _).mono ?_; rintro e w4 ⟨p4, cp4, rfl, hE4, -, hb4⟩; have hB4 := bc_then hB3 hb4; have HE4 : Veil _ := ⟨hE4⟩; clear hE4)
      | (go_at_call 22; (with_reducible refine (R1.out _ hB2).mono ?_); rintro e w3 ⟨rfl, hb3⟩; have hB3 := bc_then hB2 hb3)
      | (go_at_call 21; (with_reducible refine (P1.out _ hB1).mono ?_); rintro e w2 ⟨rfl, hb2⟩; have hB2 := bc_then hB1 hb2)
      | (go_at_call 10; refine (shown11_any _ hS).mono ?_; rintro e w1 ⟨rfl, hB1⟩))
    go_ret
    exact ⟨rfl, hB6⟩

theorem bytesR_err (L : List Int) : (bytesR L).2 = 0 ∨ (bytesR L).2 = 110 := by
  unfold bytesR
  split <;> simp
theorem parseR_err (t : List UInt8) : (parseR t).2 = 0 ∨ (parseR t).2 = 110 := by
  unfold parseR
  split <;> simp

set_option maxRecDepth 20000 in
set_option maxHeartbeats 2000000 in
theorem moneyBack_any {w : World} {p : Option Addr} (l : List Int) (lc : Nat) (s : List UInt8) (hin : InL elL w p l lc) (hs : s.length ≤ 9223372036854775807) (hS : MSent w) :
    Calls Tryd.prog 6 #[.slice p l.length lc, .string ⟨s.toArray⟩] w fun e w' => e = .returned (.bool true) ∧ Below w.heap.size w w' := by
  have hmin1 : ∀ W, (Builtin.min_ #[3, 3] 3 #[.int .i64 (l.length : Int), .int .i64 30]).run Tryd.prog W = .ok (.int .i64 ((min l.length 30 : Nat) : Int)) W := min_two l.length 30
  have hmin2 : ∀ W, (Builtin.min_ #[3, 3] 3 #[.int .i64 (s.length : Int), .int .i64 200]).run Tryd.prog W = .ok (.int .i64 ((min s.length 200 : Nat) : Int)) W := min_two s.length 200
  have hX := take_extM s 200
  have HE : Veil _ := ⟨hin.els.take 30⟩
  have hcap := hin.cap
  have hle := hin.le
  have hm1 : (l.take 30).length = min l.length 30 := by rw [List.length_take, Nat.min_comm]
  have hm2 : min l.length 30 ≤ l.length := Nat.min_le_left _ _
  have hm3 : min l.length 30 ≤ 30 := Nat.min_le_right _ _
  have hk2 : min s.length 200 ≤ s.length := Nat.min_le_left _ _
  have ht : (s.take 200).length ≤ 200 := by rw [List.length_take]; omega
  have hform := hin.form
  generalize l.take 30 = L at HE hm1
  generalize s.take 200 = t at hX ht
  generalize min l.length 30 = m at hmin1 hm1 hm2 hm3
  generalize min s.length 200 = k at hmin2 hX hk2
  have P1 : Veil (BytesAt 21 p m lc (bytesR L).1 (bytesR L).2 w.heap.size w) := ⟨fun w' hb => by rw [← hm1]; exact mobytes_any L lc (HE.out.below hb) (by omega) (hS.below hb)⟩
  have hbl : (bytesR L).1.length ≤ 1000 := Nat.le_trans (bytesR_len L) (by omega)
  have P2 : Veil (ParseAt 23 (bytesR L).1 (parseR (bytesR L).1).1 (parseR (bytesR L).1).2) := ⟨fun w' => moparse_any _ hbl w'⟩
  have P3 : Veil (ParseAt 23 t (parseR t).1 (parseR t).2) := ⟨fun w' => moparse_any t (by omega) w'⟩
  have hq : (parseR t).1.length ≤ 200 := Nat.le_trans (parse_len t) ht
  have P4 : Veil (∀ (q : Option Addr) (cq : Nat) (w' : World), Below w.heap.size w w' → Els elL w' q (parseR t).1 → Calls Tryd.prog 21 #[.slice q (parseR t).1.length cq] w' fun x w'' => x = .returned (.tuple #[.string ⟨(bytesR (parseR t).1).1.toArray⟩, .int .i64 (bytesR (parseR t).1).2]) ∧ Below w'.heap.size w' w'') := ⟨fun q cq w' hb h => mobytes_any _ cq h (by omega) (hS.below hb)⟩
  have F1 : (bytesR L).2 = 0 ∧ (parseR (bytesR L).1).2 = 0 ∧ (parseR (bytesR L).1).1 = L ∨ (bytesR L).2 = 110 := by
    rcases bytesR_err L with h | h
    · refine .inl ⟨h, ?_⟩
      rw [(bytes_back L h).1]
      exact ⟨rfl, rfl⟩
    · exact .inr h
  have F2 : (parseR t).2 = 0 ∧ (bytesR (parseR t).1).2 = 0 ∧ (bytesR (parseR t).1).1 = t ∨ (parseR t).2 = 110 := by
    rcases parseR_err t with h | h
    · refine .inl ⟨h, ?_⟩
      rw [parse_back t h]
      exact ⟨rfl, rfl⟩
    · exact .inr h
  clear hbl
  generalize bytesR L = x1 at P1 P2 F1
  obtain ⟨A, e0⟩ := x1
  dsimp only at P1 P2 F1
  generalize parseR A = x2 at P2 F1
  obtain ⟨M, f0⟩ := x2
  generalize parseR t = x3 at P3 P4 F2 hq
  obtain ⟨K, g0⟩ := x3
  dsimp only at P3 P4 F2 hq
  generalize bytesR K = x4 at P4 F2
  obtain ⟨B, h0⟩ := x4
  dsimp only at P2 P4 F1 F2
  have HM : Veil _ := ⟨hm1⟩
  have hm0 : l.length = 0 → m = 0 := fun h => by omega
  have hm30 : m ≤ 30 := hm3
  clear hin hq hm1
  rcases hform with ⟨rfl, rfl, rfl⟩ | ⟨b, o, rfl⟩
  · obtain rfl : m = 0 := hm0 rfl
    clear hm0
    rcases F1 with ⟨rfl, rfl, rfl⟩ | rfl <;> rcases F2 with ⟨rfl, rfl, rfl⟩ | rfl
    all_goals
      go_enter Tryd.func6, Tryd.ntmps6
      go_wp2_with (first
        | (go_at_call 21; (with_reducible refine (P4.out _ _ _ hB HE4.out).mono ?_); rintro e w5 ⟨rfl, hb5⟩; have hB := bc_then hB hb5)
        | (go_at_call 23; (with_reducible refine (P3.out _).mono ?_); rintro e w4 ⟨p4, cp4, rfl, hE4, -, hb4⟩; have hB := bc_then hB hb4; have HE4 : Veil _ := ⟨hE4⟩; clear hE4)
        | (go_at_call 25; rw [← HM.out]; refine (refsameM_any _ _ _ _ (HE.out.below hB) HE2.out (by have := HM.out; omega) (by have := HM.out; omega)).mono ?_; rintro e w3 ⟨rfl, hb3⟩; have hB := bc_then hB hb3)
        | (go_at_call 23; (with_reducible refine (P2.out _).mono ?_); rintro e w2 ⟨p2, cp2, rfl, hE2, -, hb2⟩; have hB := bc_then hB hb2; have HE2 : Veil _ := ⟨hE2⟩; clear hE2)
        | (go_at_call 21; (with_reducible refine (P1.out _ hB).mono ?_); rintro e w1 ⟨rfl, hb1⟩; have hB := bc_then hB hb1)
        | (go_at_call 10; refine (shown11_any _ hS).mono ?_; rintro e w0 ⟨rfl, hB⟩))
      go_ret
      exact ⟨rfl, hB⟩
  · clear hm0
    rcases F1 with ⟨rfl, rfl, rfl⟩ | rfl <;> rcases F2 with ⟨rfl, rfl, rfl⟩ | rfl
    all_goals
      go_enter Tryd.func6, Tryd.ntmps6
      go_wp2_with (first
        | (go_at_call 21; (with_reducible refine (P4.out _ _ _ hB HE4.out).mono ?_); rintro e w5 ⟨rfl, hb5⟩; have hB := bc_then hB hb5)
        | (go_at_call 23; (with_reducible refine (P3.out _).mono ?_); rintro e w4 ⟨p4, cp4, rfl, hE4, -, hb4⟩; have hB := bc_then hB hb4; have HE4 : Veil _ := ⟨hE4⟩; clear hE4)
        | (go_at_call 25; rw [← HM.out]; refine (refsameM_any _ _ _ _ (HE.out.below hB) HE2.out (by have := HM.out; omega) (by have := HM.out; omega)).mono ?_; rintro e w3 ⟨rfl, hb3⟩; have hB := bc_then hB hb3)
        | (go_at_call 23; (with_reducible refine (P2.out _).mono ?_); rintro e w2 ⟨p2, cp2, rfl, hE2, -, hb2⟩; have hB := bc_then hB hb2; have HE2 : Veil _ := ⟨hE2⟩; clear hE2)
        | (go_at_call 21; (with_reducible refine (P1.out _ hB).mono ?_); rintro e w1 ⟨rfl, hb1⟩; have hB := bc_then hB hb1)
        | (go_at_call 10; refine (shown11_any _ hS).mono ?_; rintro e w0 ⟨rfl, hB⟩))
      go_ret
      exact ⟨rfl, hB⟩
end Go.Proofs.YthjannjglahdpaaDoor
