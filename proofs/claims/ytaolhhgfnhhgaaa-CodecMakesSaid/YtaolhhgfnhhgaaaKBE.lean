/- The laws CodecMakes, CodecSplits. -/
import Derived.Test.YtaolhhgfnhhgaaaKBD
import Derived.Test.YtaolhhgfnhhgaaaKB1
import Derived.Test.YtaolhhgfnhhgaaaKB7
import Derived.Test.YtaolhhgfnhhgaaaKB8
namespace Go.Proofs.Ytaolhhgfnhhgaaa
open Go Go.RowKit Sm
attribute [local go_sem] Oper.semAt_some

theorem kp {W W' : World} {k : Nat} {o : Obj} (h : W.heap[k]? = some o) (hb : Below W.heap.size W W') : W'.heap[k]? = some o := (hb.block _ (lt_of_heap h)).trans h
theorem kpa {W : World} {k : Nat} {o : Obj} (h : W.heap[k]? = some o) (o' : Obj) : (W.alloc o').heap[k]? = some o := (Below.heap_alloc _ _ _ (lt_of_heap h)).trans h

set_option maxRecDepth 20000 in
set_option maxHeartbeats 8000000 in
theorem codecMakes_any (c : Cm) (hc : c.Ok) (a : Aw) (ha : a.Ok) (s : List UInt8) (hs : s.length ≤ 9223372036854775807) (w : World) : Calls Try.prog 3 #[c.v, a.v, .string ⟨s.toArray⟩] w fun e w' => e = .returned (.bool true) ∧ Below w.heap.size w w' := by
  have HS : Veil _ := ⟨shown17_any⟩
  have HC : Veil _ := ⟨fun w => cut17_any s hs w⟩
  have ht : (s.take 60).length ≤ 60 := by rw [List.length_take]; omega
  generalize s.take 60 = t at HC ht
  have P1 : Veil _ := ⟨fun w => request_any c hc w⟩
  have R1 : Veil _ := ⟨fun w => refrequest_any c hc w⟩
  have P2 : Veil _ := ⟨fun w => pcmd_any t (by omega) w⟩
  have R2 : Veil _ := ⟨fun w => refpcmd_any t (by omega) w⟩
  have P3 : Veil _ := ⟨fun w => reply_any a w⟩
  have R3 : Veil _ := ⟨fun w => refreply_any a ha w⟩
  have P4 : Veil _ := ⟨fun w => paw_any t (by omega) w⟩
  have R4 : Veil _ := ⟨fun w => refpaw_any t (by omega) w⟩
  generalize reqR c = x1 at P1 R1
  generalize preqR t = x2 at P2 R2
  generalize repR a = x3 at P3 R3
  generalize prepR t = x4 at P4 R4
  obtain ⟨S1, e1⟩ := x1
  obtain ⟨⟨c0, c1, c2, c3, c4, c5⟩, e2⟩ := x2
  obtain ⟨S3, e3⟩ := x3
  obtain ⟨⟨a0, a1, a2⟩, e4⟩ := x4
  obtain ⟨d0, d1, d2, d3, d4, d5⟩ := c
  obtain ⟨b0, b1, b2⟩ := a
  clear hc ha hs ht
  unfold Cm.v at *
  unfold Aw.v at *
  dsimp only at *
  generalize (⟨S1.toArray⟩ : ByteArray) = T1 at P1 R1
  generalize (⟨S3.toArray⟩ : ByteArray) = T3 at P3 R3
  have hT : Below w.heap.size w ((w.alloc (.cells #[.int .i64 d0, .int .u32 d1, .int .u32 d2, .int .u16 d3, .int .i64 d4, .int .i64 d5] 25)).alloc (.cells #[.int .i64 b0, .int .i64 b1, .int .i64 b2] 28)) := below_al (below_al (Below.refl _ _) _) _
  have HA : Veil _ := ⟨heap_alloc2_old w (.cells #[.int .i64 d0, .int .u32 d1, .int .u32 d2, .int .u16 d3, .int .i64 d4, .int .i64 d5] 25) (.cells #[.int .i64 b0, .int .i64 b1, .int .i64 b2] 28)⟩
  have HB : Veil _ := ⟨heap_alloc2_new w (.cells #[.int .i64 d0, .int .u32 d1, .int .u32 d2, .int .u16 d3, .int .i64 d4, .int .i64 d5] 25) (.cells #[.int .i64 b0, .int .i64 b1, .int .i64 b2] 28)⟩
  go_enter Try.func3, Try.ntmps3
  go_wp2_with (first
    | (go_at_call 13; refine (HC.out _).mono ?_; rintro e wc ⟨rfl, rfl⟩)
    | (go_at_call 18; refine (R4.out _).mono ?_; rintro e w9 ⟨rfl, hb9⟩; have hT := bc_then (below_al hT _) hb9; have HX1 : Veil _ := ⟨kp (kpa HX1.out _) hb9⟩; have HX2 : Veil _ := ⟨kp (kpa HX2.out _) hb9⟩; have HX3 : Veil _ := ⟨kp (heap_alloc_new _ _) hb9⟩; obtain ⟨⟨m0, m1, m2, m3, m4, m5⟩, -⟩ := pkC6 HX1.out; obtain ⟨⟨n0, n1, n2, n3, n4, n5⟩, -⟩ := pkC6 HX2.out; obtain ⟨⟨o0, o1, o2⟩, -⟩ := pkC3 HX3.out; have z1 := lt_of_heap HX1.out; have z2 := lt_of_heap HX2.out; have z3 := lt_of_heap HX3.out; clear hb9)
    | (go_at_call 17; refine (P4.out _).mono ?_; rintro e w8 ⟨rfl, hb8⟩; have hT := bc_then hT hb8; have HX1 : Veil _ := ⟨kp HX1.out hb8⟩; have HX2 : Veil _ := ⟨kp HX2.out hb8⟩; clear hb8)
    | (go_at_call 16; refine (R3.out _).mono ?_; rintro e w7 ⟨rfl, hb7⟩; have hT := bc_then hT hb7; have HX1 : Veil _ := ⟨kp HX1.out hb7⟩; have HX2 : Veil _ := ⟨kp HX2.out hb7⟩; clear hb7)
    | (go_at_call 15; refine (P3.out _).mono ?_; rintro e w6 ⟨rfl, hb6⟩; have hT := bc_then (below_al hT _) hb6; have HB : Veil _ := ⟨kp (kpa HB.out _) hb6⟩; have HX1 : Veil _ := ⟨kp (kpa HX1.out _) hb6⟩; have HX2 : Veil _ := ⟨kp (heap_alloc_new _ _) hb6⟩; obtain ⟨⟨v0, v1, v2⟩, -⟩ := pkC3 HB.out; clear hb6)
    | (go_at_call 14; refine (R2.out _).mono ?_; rintro e w5 ⟨rfl, hb5⟩; have hT := bc_then (below_al hT _) hb5; have HB : Veil _ := ⟨kp (kpa HB.out _) hb5⟩; have HX1 : Veil _ := ⟨kp (heap_alloc_new _ _) hb5⟩; obtain ⟨⟨u0, u1, u2⟩, -⟩ := pkC3 HB.out; have zb := lt_of_heap HB.out; clear hb5)
    | (go_at_call 12; refine (P2.out _).mono ?_; rintro e w4 ⟨rfl, hb4⟩; have hT := bc_then hT hb4; have HB : Veil _ := ⟨kp HB.out hb4⟩; clear hb4)
    | (go_at_call 11; refine (R1.out _).mono ?_; rintro e w3 ⟨rfl, hb3⟩; have hT := bc_then hT hb3; have HB : Veil _ := ⟨kp HB.out hb3⟩; clear hb3)
    | (go_at_call 10; refine (P1.out _).mono ?_; rintro e w2 ⟨rfl, hb2⟩; have hT := bc_then hT hb2; have HA : Veil _ := ⟨kp HA.out hb2⟩; have HB : Veil _ := ⟨kp HB.out hb2⟩; obtain ⟨⟨y0, y1, y2, y3, y4, y5⟩, -⟩ := pkC6 HA.out; clear hb2)
    | (go_at_call 9; refine (HS.out _).mono ?_; rintro e w1 ⟨rfl, hb1⟩; have hT := bc_then hT hb1; have HA : Veil _ := ⟨kp HA.out hb1⟩; have HB : Veil _ := ⟨kp HB.out hb1⟩; obtain ⟨⟨x0, x1, x2, x3, x4, x5⟩, -⟩ := pkC6 HA.out; clear hb1))
  go_ret
  exact ⟨rfl, below_al hT _⟩

set_option maxRecDepth 20000 in
set_option maxHeartbeats 8000000 in
theorem codecSplits_any (s t : List UInt8) (hs : s.length ≤ 9223372036854775807) (ht : t.length ≤ 9223372036854775807) (w : World) : Calls Try.prog 4 #[.string ⟨s.toArray⟩, .string ⟨t.toArray⟩] w fun e w' => e = .returned (.bool true) ∧ Below w.heap.size w w' := by
  have HS : Veil _ := ⟨shown17_any⟩
  have hmin1 : ∀ W, (Builtin.min_ #[3, 3] 3 #[.int .i64 (s.length : Int), .int .i64 200]).run Try.prog W = .ok (.int .i64 ((min s.length 200 : Nat) : Int)) W := min_two s.length 200
  have hmin2 : ∀ W, (Builtin.min_ #[3, 3] 3 #[.int .i64 (t.length : Int), .int .i64 1000]).run Try.prog W = .ok (.int .i64 ((min t.length 1000 : Nat) : Int)) W := min_two t.length 1000
  have hX1 := take_extM s 200
  have hX2 := take_extM t 1000
  have hk1 : min s.length 200 ≤ s.length := Nat.min_le_left _ _
  have hk2 : min t.length 1000 ≤ t.length := Nat.min_le_left _ _
  have hl1 : (s.take 200).length ≤ 200 := by rw [List.length_take]; omega
  have hl2 : (t.take 1000).length ≤ 1000 := by rw [List.length_take]; omega
  generalize s.take 200 = s1 at hX1 hl1
  generalize t.take 1000 = t1 at hX2 hl2
  generalize min s.length 200 = k1 at hmin1 hX1 hk1
  generalize min t.length 1000 = k2 at hmin2 hX2 hk2
  have P1 : Veil _ := ⟨fun w => frame_any s1 (by omega) w⟩
  have R1 : Veil _ := ⟨fun w => refframe_any s1 (by omega) w⟩
  have P2 : Veil (∀ w, Calls _ _ _ w (SplPost t1 w)) := ⟨fun w => csplit_any t1 (by omega) w⟩
  have R2 : Veil (∀ w, Calls _ _ _ w (RSplPost t1 w)) := ⟨fun w => refsplit_any t1 (by omega) w⟩
  have hlen := splR_len t1
  unfold SplPost at P2
  unfold RSplPost at R2
  generalize frameR s1 = x1 at P1 R1
  generalize splR t1 = x2 at P2 R2 hlen
  obtain ⟨S1, e1⟩ := x1
  obtain ⟨L, Rr, e2⟩ := x2
  dsimp only at *
  have HLl : Veil (L.length ≤ 1000000) := ⟨by omega⟩
  have HTx : Veil _ := ⟨fun p q c d w h1 h2 => texts_same p q c d L w h1 h2 HLl.out⟩
  clear hl1 hl2 hlen
  generalize (⟨S1.toArray⟩ : ByteArray) = T1 at P1 R1
  generalize (⟨Rr.toArray⟩ : ByteArray) = T2 at P2 R2
  generalize (⟨s1.toArray⟩ : ByteArray) = A1 at P1 R1 hX1
  generalize (⟨t1.toArray⟩ : ByteArray) = A2 at P2 R2 hX2
  have hT := Below.refl w.heap.size w
  generalize L.length = n at *
  go_enter Try.func4, Try.ntmps4
  go_wp2_with (first
    | (go_at_call 23; refine (HTx.out _ _ _ _ _ HE1.out HE2.out).mono ?_; rintro e w6 ⟨rfl, hb6⟩; have hT := bc_then hT hb6)
    | (go_at_call 22; refine (R2.out _).mono ?_; rintro e w5 ⟨p5, c5, rfl, hel5, hb5⟩; have hT := bc_then hT hb5; have HE1 : Veil _ := ⟨HE1.out.below hb5⟩; have HE2 : Veil _ := ⟨hel5⟩; clear hb5 hel5)
    | (go_at_call 21; refine (P2.out _).mono ?_; rintro e w4 ⟨p4, c4, rfl, hel4, hb4⟩; have hT := bc_then hT hb4; have HE1 : Veil _ := ⟨hel4⟩; clear hb4 hel4)
    | (go_at_call 20; refine (R1.out _).mono ?_; rintro e w3 ⟨rfl, hb3⟩; have hT := bc_then hT hb3; clear hb3)
    | (go_at_call 19; refine (P1.out _).mono ?_; rintro e w2 ⟨rfl, hb2⟩; have hT := bc_then hT hb2; clear hb2)
    | (go_at_call 9; refine (HS.out _).mono ?_; rintro e w1 ⟨rfl, hb1⟩; have hT := bc_then hT hb1; clear hb1))
  go_ret
  exact ⟨rfl, hT⟩
end Go.Proofs.Ytaolhhgfnhhgaaa

/- The law CodecBack. -/
namespace Go.Proofs.Ytaolhhgfnhhgaaa
open Go Go.RowKit Sm
attribute [local go_sem] Oper.semAt_some

theorem req_cases (c : Cm) (hc : c.Ok) : (∃ S, reqR c = (S, 0) ∧ S.length = 27 ∧ preqR S = (c, 0)) ∨ (reqR c = ([], 170) ∧ preqR [] = (Cm.zero, 170)) := by
  by_cases h : opOk c.op = true
  · have e : reqR c = (encC c, 0) := by unfold reqR; rw [if_pos h]
    have hb := req_back c hc (by rw [e])
    rw [e] at hb
    exact .inl ⟨_, e, encC_len c, hb⟩
  · exact .inr ⟨by unfold reqR; rw [if_neg h], by unfold preqR; rw [if_neg (fun h => by have := h.1; simp at this)]⟩
theorem rep_cases (a : Aw) (ha : a.Ok) : (∃ S, repR a = (S, 0) ∧ S.length = 18 ∧ prepR S = (a, 0)) ∨ (repR a = ([], 170) ∧ prepR [] = (Aw.zero, 170)) := by
  by_cases h : erOk a.e = true
  · have e : repR a = (encA a, 0) := by unfold repR; rw [if_pos h]
    have hb := rep_back a ha (by rw [e])
    rw [e] at hb
    exact .inl ⟨_, e, encA_len a, hb⟩
  · exact .inr ⟨by unfold repR; rw [if_neg h], by unfold prepR; rw [if_neg (fun h => by have := h.1; simp at this)]⟩
theorem preq_cases (t : List UInt8) : (∃ k, preqR t = (k, 0) ∧ k.Ok ∧ reqR k = (t, 0)) ∨ (preqR t = (Cm.zero, 170) ∧ reqR Cm.zero = ([], 170)) := by
  by_cases h : t.length = 27 ∧ opOk (cmOf t).op = true
  · have e : preqR t = (cmOf t, 0) := by unfold preqR; rw [if_pos h]
    have hb := preq_back t (by rw [e])
    rw [e] at hb
    exact .inl ⟨_, e, cmOf_ok t, hb⟩
  · exact .inr ⟨by unfold preqR; rw [if_neg h], rfl⟩
theorem prep_cases (t : List UInt8) : (∃ k, prepR t = (k, 0) ∧ k.Ok ∧ repR k = (t, 0)) ∨ (prepR t = (Aw.zero, 170) ∧ ∃ S e, repR Aw.zero = (S, e)) := by
  by_cases h : t.length = 18 ∧ erOk (awOf t).e = true
  · have e : prepR t = (awOf t, 0) := by unfold prepR; rw [if_pos h]
    have hb := prep_back t (by rw [e])
    rw [e] at hb
    exact .inl ⟨_, e, awOf_ok t, hb⟩
  · exact .inr ⟨by unfold prepR; rw [if_neg h], _, _, rfl⟩
/-- What the law needs of a command and what comes of it: a text, its error, what is parsed of it, that error. -/
structure RqV (c : Cm) (S : List UInt8) (e : Int) (d : Cm) (f : Int) : Prop where
  r : ∀ w, Calls Try.prog 10 #[c.v] w fun x w' => x = .returned (.tuple #[.string ⟨S.toArray⟩, .int .i64 e]) ∧ Below w.heap.size w w'
  p : ∀ w, Calls Try.prog 12 #[.string ⟨S.toArray⟩] w fun x w' => x = .returned (.tuple #[d.v, .int .i64 f]) ∧ Below w.heap.size w w'
  h : (e = 0 ∧ f = 0 ∧ S.length = 27 ∧ c = d) ∨ e = 170
structure RpV (c : Aw) (S : List UInt8) (e : Int) (d : Aw) (f : Int) : Prop where
  r : ∀ w, Calls Try.prog 15 #[c.v] w fun x w' => x = .returned (.tuple #[.string ⟨S.toArray⟩, .int .i64 e]) ∧ Below w.heap.size w w'
  p : ∀ w, Calls Try.prog 17 #[.string ⟨S.toArray⟩] w fun x w' => x = .returned (.tuple #[d.v, .int .i64 f]) ∧ Below w.heap.size w w'
  h : (e = 0 ∧ f = 0 ∧ S.length = 18 ∧ c = d) ∨ e = 170
theorem rqV (c : Cm) (hc : c.Ok) : ∃ S e d f, RqV c S e d f := by
  rcases req_cases c hc with ⟨S, h1, h2, h3⟩ | ⟨h1, h2⟩
  · exact ⟨S, 0, c, 0, ⟨fun w => by have := request_any c hc w; rwa [h1] at this, fun w => by have := pcmd_any S (by omega) w; rwa [h3] at this, .inl ⟨rfl, rfl, h2, rfl⟩⟩⟩
  · exact ⟨[], 170, Cm.zero, 170, ⟨fun w => by have := request_any c hc w; rwa [h1] at this, fun w => by have := pcmd_any [] (by decide) w; rwa [h2] at this, .inr rfl⟩⟩
theorem rpV (c : Aw) (hc : c.Ok) : ∃ S e d f, RpV c S e d f := by
  rcases rep_cases c hc with ⟨S, h1, h2, h3⟩ | ⟨h1, h2⟩
  · exact ⟨S, 0, c, 0, ⟨fun w => by have := reply_any c w; rwa [h1] at this, fun w => by have := paw_any S (by omega) w; rwa [h3] at this, .inl ⟨rfl, rfl, h2, rfl⟩⟩⟩
  · exact ⟨[], 170, Aw.zero, 170, ⟨fun w => by have := reply_any c w; rwa [h1] at this, fun w => by have := paw_any [] (by decide) w; rwa [h2] at this, .inr rfl⟩⟩
/-- The same the other way round. -/
structure PqV (t : List UInt8) (k : Cm) (l : Int) (S : List UInt8) (n : Int) : Prop where
  p : ∀ w, Calls Try.prog 12 #[.string ⟨t.toArray⟩] w fun x w' => x = .returned (.tuple #[k.v, .int .i64 l]) ∧ Below w.heap.size w w'
  r : ∀ w, Calls Try.prog 10 #[k.v] w fun x w' => x = .returned (.tuple #[.string ⟨S.toArray⟩, .int .i64 n]) ∧ Below w.heap.size w w'
  h : (l = 0 ∧ n = 0 ∧ t = S) ∨ l = 170
structure PpV (t : List UInt8) (k : Aw) (l : Int) (S : List UInt8) (n : Int) : Prop where
  p : ∀ w, Calls Try.prog 17 #[.string ⟨t.toArray⟩] w fun x w' => x = .returned (.tuple #[k.v, .int .i64 l]) ∧ Below w.heap.size w w'
  r : ∀ w, Calls Try.prog 15 #[k.v] w fun x w' => x = .returned (.tuple #[.string ⟨S.toArray⟩, .int .i64 n]) ∧ Below w.heap.size w w'
  h : (l = 0 ∧ n = 0 ∧ t = S) ∨ l = 170
theorem pqV (t : List UInt8) (ht : t.length ≤ 60) : ∃ k l S n, PqV t k l S n := by
  rcases preq_cases t with ⟨k, h1, hk, h3⟩ | ⟨h1, h3⟩
  · exact ⟨k, 0, t, 0, ⟨fun w => by have := pcmd_any t (by omega) w; rwa [h1] at this, fun w => by have := request_any k hk w; rwa [h3] at this, .inl ⟨rfl, rfl, rfl⟩⟩⟩
  · exact ⟨Cm.zero, 170, [], 170, ⟨fun w => by have := pcmd_any t (by omega) w; rwa [h1] at this, fun w => by have := request_any Cm.zero Cm.zero_ok w; rwa [h3] at this, .inr rfl⟩⟩
theorem ppV (t : List UInt8) (ht : t.length ≤ 60) : ∃ k l S n, PpV t k l S n := by
  rcases prep_cases t with ⟨k, h1, hk, h3⟩ | ⟨h1, S, e, h3⟩
  · exact ⟨k, 0, t, 0, ⟨fun w => by have := paw_any t (by omega) w; rwa [h1] at this, fun w => by have := reply_any k w; rwa [h3] at this, .inl ⟨rfl, rfl, rfl⟩⟩⟩
  · exact ⟨Aw.zero, 170, S, e, ⟨fun w => by have := paw_any t (by omega) w; rwa [h1] at this, fun w => by have := reply_any Aw.zero w; rwa [h3] at this, .inr rfl⟩⟩

set_option maxRecDepth 20000 in
set_option maxHeartbeats 16000000 in
theorem codecBack_any (c : Cm) (hc : c.Ok) (a : Aw) (ha : a.Ok) (s : List UInt8) (hs : s.length ≤ 9223372036854775807) (w : World) : Calls Try.prog 5 #[c.v, a.v, .string ⟨s.toArray⟩] w fun e w' => e = .returned (.bool true) ∧ Below w.heap.size w w' := by
  have HS : Veil _ := ⟨shown17_any⟩
  have HC : Veil _ := ⟨fun w => cut17_any s hs w⟩
  have ht : (s.take 60).length ≤ 60 := by rw [List.length_take]; omega
  generalize s.take 60 = t at HC ht
  obtain ⟨S1, e1, c', f1, k1⟩ := rqV c hc
  obtain ⟨S3, e3, a', f3, k3⟩ := rpV a ha
  obtain ⟨k, l1, S5, n1, k5⟩ := pqV t ht
  obtain ⟨o, l2, S6, n2, k6⟩ := ppV t ht
  have P1 : Veil _ := ⟨k1.r⟩
  have Q1 : Veil _ := ⟨k1.p⟩
  have P3 : Veil _ := ⟨k3.r⟩
  have Q3 : Veil _ := ⟨k3.p⟩
  have Q5 : Veil _ := ⟨k5.p⟩
  have P5 : Veil _ := ⟨k5.r⟩
  have Q6 : Veil _ := ⟨k6.p⟩
  have P6 : Veil _ := ⟨k6.r⟩
  have g1 := k1.h
  have g3 := k3.h
  have g5 := k5.h
  have g6 := k6.h
  clear k1 k3 k5 k6 hc ha hs ht
  have hz1 : ∀ S : List UInt8, (⟨S.toArray⟩ : ByteArray).size = S.length := fun S => by simp [ByteArray.size]
  rcases g1 with ⟨rfl, rfl, hl1, rfl⟩ | rfl
  all_goals rcases g3 with ⟨rfl, rfl, hl3, rfl⟩ | rfl
  all_goals rcases g5 with ⟨rfl, rfl, rfl⟩ | rfl
  all_goals rcases g6 with ⟨rfl, rfl, rfl⟩ | rfl
  all_goals clear hz1
  all_goals
    obtain ⟨c0, c1, c2, c3, c4, c5⟩ := c
    obtain ⟨a0, a1, a2⟩ := a
    obtain ⟨k0, k1, k2, k3, k4, k5⟩ := k
    obtain ⟨o0, o1, o2⟩ := o
    try obtain ⟨d0, d1, d2, d3, d4, d5⟩ := c'
    try obtain ⟨b0, b1, b2⟩ := a'
    unfold Cm.v at *
    unfold Aw.v at *
    dsimp only at *
  all_goals
    have hT : Below w.heap.size w ((w.alloc (.cells #[.int .i64 c0, .int .u32 c1, .int .u32 c2, .int .u16 c3, .int .i64 c4, .int .i64 c5] 25)).alloc (.cells #[.int .i64 a0, .int .i64 a1, .int .i64 a2] 28)) := below_al (below_al (Below.refl _ _) _) _
    have HA : Veil _ := ⟨heap_alloc2_old w (.cells #[.int .i64 c0, .int .u32 c1, .int .u32 c2, .int .u16 c3, .int .i64 c4, .int .i64 c5] 25) (.cells #[.int .i64 a0, .int .i64 a1, .int .i64 a2] 28)⟩
    have HB : Veil _ := ⟨heap_alloc2_new w (.cells #[.int .i64 c0, .int .u32 c1, .int .u32 c2, .int .u16 c3, .int .i64 c4, .int .i64 c5] 25) (.cells #[.int .i64 a0, .int .i64 a1, .int .i64 a2] 28)⟩
    go_enter Try.func5, Try.ntmps5
    go_wp2_with (first
      | (go_at_call 13; refine (HC.out _).mono ?_; rintro e wc ⟨rfl, rfl⟩)
      | (go_at_call 15; have hg := HG8; refine (P6.out _).mono ?_; rintro e w9 ⟨rfl, hb9⟩; have hT := bc_then (below_al hT _) hb9; clear hb9)
      | (go_at_call 17; have hg := HG7; refine (Q6.out _).mono ?_; rintro e w8 ⟨rfl, hb8⟩; have hT := bc_then hT hb8; have HG8 : Veil True := ⟨trivial⟩; clear hb8)
      | (go_at_call 10; have hg := HG6; refine (P5.out _).mono ?_; rintro e w7 ⟨rfl, hb7⟩; have hT := bc_then (below_al hT _) hb7; have HG7 : Veil True := ⟨trivial⟩; clear hb7)
      | (go_at_call 12; have hg := HG5; refine (Q5.out _).mono ?_; rintro e w6 ⟨rfl, hb6⟩; have hT := bc_then (below_al hT _) hb6; have HG6 : Veil True := ⟨trivial⟩; clear hb6)
      | (go_at_call 17; have hg := HG4; refine (Q3.out _).mono ?_; rintro e w5 ⟨rfl, hb5⟩; have hT := bc_then hT hb5; have HA : Veil _ := ⟨kp HA.out hb5⟩; have HB : Veil _ := ⟨kp HB.out hb5⟩; have HX : Veil _ := ⟨kp HX.out hb5⟩; obtain ⟨⟨u0, u1, u2, u3, u4, u5⟩, -⟩ := pkC6 HA.out; obtain ⟨⟨v0, v1, v2⟩, -⟩ := pkC3 HB.out; obtain ⟨⟨x0, x1, x2, x3, x4, x5⟩, -⟩ := pkC6 HX.out; have z1 := lt_of_heap HA.out; have z2 := lt_of_heap HB.out; have z3 := lt_of_heap HX.out; have HG5 : Veil True := ⟨trivial⟩; clear hb5)
      | (go_at_call 15; have hg := HG3; refine (P3.out _).mono ?_; rintro e w4 ⟨rfl, hb4⟩; have hT := bc_then (below_al hT _) hb4; have HA : Veil _ := ⟨kp (kpa HA.out _) hb4⟩; have HB : Veil _ := ⟨kp (kpa HB.out _) hb4⟩; have HX : Veil _ := ⟨kp (heap_alloc_new _ _) hb4⟩; have HG4 : Veil True := ⟨trivial⟩; clear hb4)
      | (go_at_call 12; have hg := HG2; refine (Q1.out _).mono ?_; rintro e w3 ⟨rfl, hb3⟩; have hT := bc_then hT hb3; have HA : Veil _ := ⟨kp HA.out hb3⟩; have HB : Veil _ := ⟨kp HB.out hb3⟩; obtain ⟨⟨t0, t1, t2⟩, -⟩ := pkC3 HB.out; have zb := lt_of_heap HB.out; have HG3 : Veil True := ⟨trivial⟩; clear hb3)
      | (go_at_call 10; refine (P1.out _).mono ?_; rintro e w2 ⟨rfl, hb2⟩; have hT := bc_then hT hb2; have HA : Veil _ := ⟨kp HA.out hb2⟩; have HB : Veil _ := ⟨kp HB.out hb2⟩; have HG2 : Veil True := ⟨trivial⟩; clear hb2)
      | (go_at_call 9; refine (HS.out _).mono ?_; rintro e w1 ⟨rfl, hb1⟩; have hT := bc_then hT hb1; have HA : Veil _ := ⟨kp HA.out hb1⟩; have HB : Veil _ := ⟨kp HB.out hb1⟩; obtain ⟨⟨x0, x1, x2, x3, x4, x5⟩, -⟩ := pkC6 HA.out; clear hb1))
    go_ret
    exact ⟨rfl, hT⟩
end Go.Proofs.Ytaolhhgfnhhgaaa
