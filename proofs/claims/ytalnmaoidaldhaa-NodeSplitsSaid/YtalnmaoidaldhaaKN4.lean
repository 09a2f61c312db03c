/- The walk of bytes (the document's own). -/
import Derived.Test.YtalnmaoidaldhaaKN1
namespace Go.Proofs.Ytalnmaoidaldhaa
open Go Go.RowKit Sm
attribute [local go_sem] Oper.semAt_some

theorem nput_four (vl : Nat) (w : World) : Calls Try.prog 41 #[.int .u64 vl, .int .i64 4] w fun e w' => e = .returned (.string ⟨(putB vl 4).toArray⟩) ∧ Below w.heap.size w w' := put_any vl 4 (by decide) w
theorem nput_one (vl : Nat) (w : World) : Calls Try.prog 41 #[.int .u64 vl, .int .i64 1] w fun e w' => e = .returned (.string ⟨(putB vl 1).toArray⟩) ∧ Below w.heap.size w w' := put_any vl 1 (by decide) w
def pairB (p : Pr) : List UInt8 := putB p.k.length 1 ++ p.k ++ putB p.v.length 1 ++ p.v
def psB (L : List Pr) (k : Nat) : List UInt8 := putB L.length 1 ++ (L.take k).flatMap pairB
def kidB (n : Nd) (i : Nat) : List UInt8 := putB (n.ks.getD i []).length 1 ++ n.ks.getD i [] ++ putB (n.ds.getD (i + 1) 0) 4
def bsB (n : Nd) (k : Nat) : List UInt8 := putB n.ds.length 1 ++ putB (n.ds.getD 0 0) 4 ++ (List.range k).flatMap (kidB n)
def Nd.enc (n : Nd) : List UInt8 := if n.ds.length = 0 then psB n.ps n.ps.length else bsB n n.ks.length
theorem psB_succ (L : List Pr) (k : Nat) (h : k < L.length) : psB L (k + 1) = psB L k ++ putB (L.getD k Pr.zero).k.length 1 ++ (L.getD k Pr.zero).k ++ putB (L.getD k Pr.zero).v.length 1 ++ (L.getD k Pr.zero).v := by
  unfold psB
  have e : L.take (k + 1) = L.take k ++ [L.getD k Pr.zero] := by
    rw [List.take_add_one]; simp [List.getD, h]
  rw [e]
  simp [pairB]
theorem bsB_succ (n : Nd) (k : Nat) : bsB n (k + 1) = bsB n k ++ putB (n.ks.getD k []).length 1 ++ n.ks.getD k [] ++ putB (n.ds.getD (k + 1) 0) 4 := by
  unfold bsB
  rw [List.range_succ]
  simp [kidB]
theorem psB_len {L : List Pr} (h : ∀ p ∈ L, p.k.length ≤ 1000000 ∧ p.v.length ≤ 1000000) : ∀ k, k ≤ L.length → (psB L k).length ≤ 1 + k * 2000002
  | 0, _ => by simp [psB]
  | k + 1, hk => by
    have ih := psB_len h k (by omega)
    have := h _ (getD_mem (show k < L.length by omega) Pr.zero)
    rw [psB_succ L k (by omega)]
    simp only [List.length_append, putB_length]
    omega
theorem bsB_len {n : Nd} (h : ∀ s ∈ n.ks, s.length ≤ 1000000) : ∀ k, k ≤ n.ks.length → (bsB n k).length ≤ 5 + k * 1000005
  | 0, _ => by simp [bsB]
  | k + 1, hk => by
    have ih := bsB_len h k (by omega)
    have := h _ (getD_mem (show k < n.ks.length by omega) [])
    rw [bsB_succ n k]
    simp only [List.length_append, putB_length]
    omega

set_option maxRecDepth 20000 in
set_option maxHeartbeats 4000000 in
theorem bytes_leaf {w : World} {P : List Pr} {K : List (List UInt8)} {a : NdP} (h : NdAt w ⟨P, K, []⟩ a) (hok : Veil (Nd.mk P K []).Ok) : Calls Try.prog 24 #[(Nd.mk P K []).v a] w fun e w' => e = .returned (.string ⟨(psB P P.length).toArray⟩) ∧ Below w.heap.size w w' := by
  have HP1 : Veil _ := ⟨nput_one⟩
  have HH := Lib.hid h
  clear h
  obtain ⟨pp, cp, pk, ck, pd, cd⟩ := a
  have hP : P.length ≤ 100000 := hok.out.p
  have hK : K.length ≤ 100000 := hok.out.k
  unfold Nd.v
  dsimp only [List.length_nil] at *
  obtain ⟨W1, hW1⟩ : ∃ W1, w.alloc (.cells #[.slice pp P.length cp, .slice pk K.length ck, .slice pd 0 cd] 26) = W1 := ⟨_, rfl⟩
  have HB1 : Veil (W1.heap[w.heap.size]? = some (.cells #[.slice pp P.length cp, .slice pk K.length ck, .slice pd 0 cd] 26 (0, 0))) := ⟨by rw [← hW1]; exact heap_alloc_new _ _⟩
  have HX1 : Veil (Below w.heap.size w W1) := ⟨by rw [← hW1]; exact below_al (Below.refl _ _) _⟩
  have HS1 : Veil _ := ⟨HH.out.below HX1.out⟩
  have hz1 : w.heap.size < W1.heap.size := lt_of_heap HB1.out
  obtain ⟨⟨a0, a1, a2⟩, -⟩ := box3 HB1.out
  clear HH
  have wl : (P.length : Int) % 18446744073709551616 = P.length := by omega
  go_enter Try.func24, Try.ntmps24
  have HPB : Veil (∀ k, k < P.length → (psB P k).length ≤ 1 + k * 2000002 ∧ psB P (k + 1) = psB P k ++ putB (P.getD k Pr.zero).k.length 1 ++ (P.getD k Pr.zero).k ++ putB (P.getD k Pr.zero).v.length 1 ++ (P.getD k Pr.zero).v) := ⟨fun k hk => ⟨psB_len hok.out.pt k (Nat.le_of_lt hk), psB_succ P k hk⟩⟩
  have HP0 : Veil (psB P 0 = putB P.length 1) := ⟨by simp [psB]⟩
  revert HPB HP0
  generalize psB P = fP
  intro HPB HP0
  go_wp2_with (go_at_call 41; (with_reducible refine (HP1.out P.length _).mono ?_); rintro e w1 ⟨rfl, hb1⟩)
  have HBB : Veil _ := ⟨(hb1.block _ hz1).trans HB1.out⟩
  have HSS : Veil _ := ⟨HS1.out.below hb1⟩
  have HXX : Veil _ := ⟨bn_then HX1.out hb1⟩
  clear a0 a1 a2 hb1 hW1
  go_loopw [3, 4, 5] (fun s i _ wr => ∃ k : Nat, k ≤ P.length ∧ i = .int .i64 k ∧ s = .string ⟨(fP k).toArray⟩ ∧ Veil (Below w1.heap.size w1 wr)) (fun _ i _ _ => P.length - (intOf i).toNat)
  case atStart => exact ⟨0, Nat.zero_le _, rfl, by rw [HP0.out], ⟨Below.refl _ _⟩⟩
  case round =>
    obtain ⟨k, hk, rfl, rfl, hJ⟩ := hrel
    have HB2 : Veil _ := ⟨(hJ.out.block w.heap.size (lt_of_heap HBB.out)).trans HBB.out⟩
    obtain ⟨⟨a0, a1, a2⟩, -⟩ := box3 HB2.out
    by_cases hlt : k < P.length
    · have HS2 : Veil _ := ⟨HSS.out.below hJ.out⟩
      obtain ⟨b, o, hpe, hc⟩ := HS2.out.pair (by rintro he; dsimp only at he; simp [he] at hlt)
      dsimp only at hpe hc
      subst hpe
      obtain ⟨c1, c2⟩ := hc k hlt
      have hpt := hok.out.pt _ (getD_mem hlt Pr.zero)
      have hkI : (0 : Int) ≤ k := by omega
      have HL := HPB.out k hlt
      have HL2 : Veil _ := ⟨HL.2⟩
      have HL1 := HL.1
      clear HL hc
      revert c1 c2 hpt HL2 HL1
      generalize P.getD k Pr.zero = s
      obtain ⟨sk, sv⟩ := s
      dsimp only
      intro c1 c2 hpt HL2 HL1
      generalize hacc : fP k = acc at *
      obtain ⟨hp1, hp2⟩ := hpt
      have HLN : Veil (acc.length + (putB sk.length 1).length ≤ 9000000000000 ∧ acc.length + (putB sk.length 1).length + sk.length ≤ 9000000000000 ∧ acc.length + (putB sk.length 1).length + sk.length + (putB sv.length 1).length ≤ 9000000000000 ∧ acc.length + (putB sk.length 1).length + sk.length + (putB sv.length 1).length + sv.length ≤ 9000000000000) := ⟨by
        simp only [putB_length]; omega⟩
      have HWK : Veil ((sk.length : Int) % 18446744073709551616 = sk.length) := ⟨by omega⟩
      have HWV : Veil ((sv.length : Int) % 18446744073709551616 = sv.length) := ⟨by omega⟩
      obtain ⟨G, hG⟩ : ∃ G, wr.heap.size = G := ⟨_, rfl⟩
      obtain ⟨W2, hW2⟩ : ∃ W2, wr.alloc (.cells #[.string ⟨sk.toArray⟩, .string ⟨sv.toArray⟩] 39) = W2 := ⟨_, rfl⟩
      have HC2 : Veil (∀ W, Below W2.heap.size W2 W → W.cell? ⟨G, 0, none⟩ = some (.string ⟨sk.toArray⟩) ∧ W.cell? ⟨G, 1, none⟩ = some (.string ⟨sv.toArray⟩)) := ⟨fun W hb => by
        have e2 : W2.heap[G]? = some (.cells [.string ⟨sk.toArray⟩, .string ⟨sv.toArray⟩].toArray 39 (0, 0)) := by rw [← hW2, ← hG]; exact heap_alloc_new _ _
        have e3 := (hb.block G (lt_of_heap e2)).trans e2
        exact ⟨cell_whole e3 0, cell_whole e3 1⟩⟩
      have HX2 : Veil (Below w1.heap.size w1 W2) := ⟨bn_then hJ.out (by rw [← hW2]; exact below_al (Below.refl _ _) _)⟩
      clear hp1 hp2 HL1 hJ hacc
      go_wp2
      clear hG hW2 a0 a1 a2 c1 c2
      refine region_new [.is (.string ⟨acc.toArray⟩), .is (.pointer (some ⟨G, 0, none⟩)), .is (.string ⟨sk.toArray⟩), .is (.int .i64 sk.length), .is (.int .u64 sk.length), .is (.string ⟨(putB sk.length 1).toArray⟩), .is (.string ⟨(acc ++ putB sk.length 1).toArray⟩), .is (.pointer (some ⟨G, 0, none⟩)), .is (.string ⟨sk.toArray⟩), .is (.string ⟨(acc ++ putB sk.length 1 ++ sk).toArray⟩), .is (.pointer (some ⟨G, 1, none⟩)), .is (.string ⟨sv.toArray⟩), .is (.int .i64 sv.length), .is (.int .u64 sv.length), .is (.string ⟨(putB sv.length 1).toArray⟩), .is (.string ⟨(acc ++ putB sk.length 1 ++ sk ++ putB sv.length 1).toArray⟩), .is (.pointer (some ⟨G, 1, none⟩)), .is (.string ⟨sv.toArray⟩), .is (.string ⟨(acc ++ putB sk.length 1 ++ sk ++ putB sv.length 1 ++ sv).toArray⟩)]
        [[], [], [(1, 30)], [(2, 31)], [(3, 32)], [(4, 33)], [(0, 29), (5, 34)], [], [(7, 36)], [(6, 35), (8, 37)], [], [(10, 39)], [(11, 40)], [(12, 41)], [(13, 42)], [(9, 38), (14, 43)], [], [(16, 45)], [(15, 44), (17, 46)]]
        [[], [], [1], [2], [3], [4], [0, 5], [], [7], [6, 8], [], [10], [11], [12], [5, 13], [9, 14], [], [16], [15, 17]]
        [(0, 29), (1, 30), (2, 31), (3, 32), (4, 33), (5, 34), (6, 35), (7, 36), (8, 37), (9, 38), (10, 39), (11, 40), (12, 41), (13, 42), (14, 43), (15, 44), (16, 45), (17, 46), (18, 47)] rfl (by kernel_rfl) ⟨?_, ?_, ?_, ?_, ?_, ?_, ?_, ?_, ?_, ?_, ?_, ?_, ?_, ?_, ?_, ?_, ?_, ?_, ?_, trivial⟩ ?_
      · intro vals W hB _
        dsimp only [putsL, slotOf]
        go_wp2
        exact ⟨rfl, Below.refl _ _, rfl⟩
      · intro vals W hB _
        dsimp only [putsL, slotOf]
        go_wp2
        exact ⟨rfl, Below.refl _ _, rfl⟩
      · intro vals W hB ⟨h1, _⟩
        have h1 : vals 1 = _ := h1
        have c1 := (HC2.out W hB).1
        dsimp only [putsL, slotOf]
        rw [h1]
        go_wp2
        exact ⟨rfl, Below.refl _ _, rfl⟩
      · intro vals W hB ⟨h2, _⟩
        have h2 : vals 2 = _ := h2
        dsimp only [putsL, slotOf]
        rw [h2]
        go_wp2
        exact ⟨rfl, Below.refl _ _, rfl⟩
      · intro vals W hB ⟨h3, _⟩
        have h3 : vals 3 = _ := h3
        dsimp only [putsL, slotOf]
        rw [h3]
        go_wp2
        exact ⟨rfl, Below.refl _ _, congrArg (Value.int .u64) HWK.out⟩
      · intro vals W hB ⟨h4, _⟩
        have h4 : vals 4 = _ := h4
        dsimp only [putsL, slotOf]
        rw [h4]
        go_wp2_with ((go_at_call 41; (with_reducible refine (HP1.out sk.length _).mono ?_); rintro e w4 ⟨rfl, hb4⟩))
        exact ⟨rfl, hb4, rfl⟩
      · intro vals W hB ⟨h0, h5, _⟩
        have h0 : vals 0 = _ := h0
        have h5 : vals 5 = _ := h5
        have hlen : acc.length + (putB sk.length 1).length ≤ 9000000000000 := HLN.out.1
        dsimp only [putsL, slotOf]
        rw [h0, h5]
        go_wp2
        exact ⟨rfl, Below.refl _ _, congrArg Value.string (str_add _ _)⟩
      · intro vals W hB _
        dsimp only [putsL, slotOf]
        go_wp2
        exact ⟨rfl, Below.refl _ _, rfl⟩
      · intro vals W hB ⟨h7, _⟩
        have h7 : vals 7 = _ := h7
        have c1 := (HC2.out W hB).1
        dsimp only [putsL, slotOf]
        rw [h7]
        go_wp2
        exact ⟨rfl, Below.refl _ _, rfl⟩
      · intro vals W hB ⟨h6, h8, _⟩
        have h6 : vals 6 = _ := h6
        have h8 : vals 8 = _ := h8
        have hlen : acc.length + (putB sk.length 1).length + sk.length ≤ 9000000000000 := HLN.out.2.1
        dsimp only [putsL, slotOf]
        rw [h6, h8]
        go_wp2
        exact ⟨rfl, Below.refl _ _, congrArg Value.string (str_add _ _)⟩
      · intro vals W hB _
        dsimp only [putsL, slotOf]
        go_wp2
        exact ⟨rfl, Below.refl _ _, rfl⟩
      · intro vals W hB ⟨h10, _⟩
        have h10 : vals 10 = _ := h10
        have c1 := (HC2.out W hB).2
        dsimp only [putsL, slotOf]
        rw [h10]
        go_wp2
        exact ⟨rfl, Below.refl _ _, rfl⟩
      · intro vals W hB ⟨h11, _⟩
        have h11 : vals 11 = _ := h11
        dsimp only [putsL, slotOf]
        rw [h11]
        go_wp2
        exact ⟨rfl, Below.refl _ _, rfl⟩
      · intro vals W hB ⟨h12, _⟩
        have h12 : vals 12 = _ := h12
        dsimp only [putsL, slotOf]
        rw [h12]
        go_wp2
        exact ⟨rfl, Below.refl _ _, congrArg (Value.int .u64) HWV.out⟩
      · intro vals W hB ⟨h5, h13, _⟩
        have h13 : vals 13 = _ := h13
        dsimp only [putsL, slotOf]
        rw [h13]
        go_wp2_with ((go_at_call 41; (with_reducible refine (HP1.out sv.length _).mono ?_); rintro e w4 ⟨rfl, hb4⟩))
        exact ⟨rfl, hb4, rfl⟩
      · intro vals W hB ⟨h9, h14, _⟩
        have h9 : vals 9 = _ := h9
        have h14 : vals 14 = _ := h14
        have hlen : acc.length + (putB sk.length 1).length + sk.length + (putB sv.length 1).length ≤ 9000000000000 := HLN.out.2.2.1
        dsimp only [putsL, slotOf]
        rw [h9, h14]
        go_wp2
        exact ⟨rfl, Below.refl _ _, congrArg Value.string ((str_add _ _).trans (by simp only [List.append_assoc]))⟩
      · intro vals W hB _
        dsimp only [putsL, slotOf]
        go_wp2
        exact ⟨rfl, Below.refl _ _, rfl⟩
      · intro vals W hB ⟨h16, _⟩
        have h16 : vals 16 = _ := h16
        have c1 := (HC2.out W hB).2
        dsimp only [putsL, slotOf]
        rw [h16]
        go_wp2
        exact ⟨rfl, Below.refl _ _, rfl⟩
      · intro vals W hB ⟨h15, h17, _⟩
        have h15 : vals 15 = _ := h15
        have h17 : vals 17 = _ := h17
        have hlen : acc.length + (putB sk.length 1).length + sk.length + (putB sv.length 1).length + sv.length ≤ 9000000000000 := HLN.out.2.2.2
        dsimp only [putsL, slotOf]
        rw [h15, h17]
        go_wp2
        exact ⟨rfl, Below.refl _ _, congrArg Value.string ((str_add _ _).trans (by simp only [List.append_assoc]))⟩
      rintro vals W hB ⟨q0, q1, q2, q3, q4, q5, q6, q7, q8, q9, q10, q11, q12, q13, q14, q15, q16, q17, q18, -⟩
      have h0 : vals 0 = _ := q0
      have h1 : vals 1 = _ := q1
      have h2 : vals 2 = _ := q2
      have h3 : vals 3 = _ := q3
      have h4 : vals 4 = _ := q4
      have h5 : vals 5 = _ := q5
      have h6 : vals 6 = _ := q6
      have h7 : vals 7 = _ := q7
      have h8 : vals 8 = _ := q8
      have h9 : vals 9 = _ := q9
      have h10 : vals 10 = _ := q10
      have h11 : vals 11 = _ := q11
      have h12 : vals 12 = _ := q12
      have h13 : vals 13 = _ := q13
      have h14 : vals 14 = _ := q14
      have h15 : vals 15 = _ := q15
      have h16 : vals 16 = _ := q16
      have h17 : vals 17 = _ := q17
      have h18 : vals 18 = _ := q18
      dsimp only [putsL]
      rw [h0, h1, h2, h3, h4, h5, h6, h7, h8, h9, h10, h11, h12, h13, h14, h15, h16, h17, h18]
      clear h0 q0 h1 q1 h2 q2 h3 q3 h4 q4 h5 q5 h6 q6 h7 q7 h8 q8 h9 q9 h10 q10 h11 q11 h12 q12 h13 q13 h14 q14 h15 q15 h16 q16 h17 q17 h18 q18
      simp only [List.length_cons, List.length_nil, Nat.reduceAdd, List.drop_succ_cons, List.drop_zero, List.setIfInBounds_toArray, List.set_cons_succ, List.set_cons_zero]
      have HX3 : Veil _ := ⟨bn_then HX2.out hB⟩
      clear hB
      go_wp2
      refine ⟨⟨k + 1, by omega, by go_num, by rw [HL2.out], ⟨HX3.out⟩⟩, ?_⟩
      simp only [intOf]; omega
    · obtain rfl : k = P.length := by omega
      have HX2 : Veil (Below w.heap.size w wr) := ⟨bn_then HXX.out hJ.out⟩
      clear hJ
      go_wp2
      go_ret
      exact ⟨rfl, HX2.out⟩
end Go.Proofs.Ytalnmaoidaldhaa

/- The walk of bytes of a branch; of a node. -/
namespace Go.Proofs.Ytalnmaoidaldhaa
open Go Go.RowKit Sm
attribute [local go_sem] Oper.semAt_some

set_option maxRecDepth 20000 in
set_option maxHeartbeats 4000000 in
theorem bytes_branch {w : World} {n : Nd} {a : NdP} (h : NdAt w n a) (hok : Veil n.Ok) (hkd : n.ks.length + 1 = n.ds.length) : Calls Try.prog 24 #[n.v a] w fun e w' => e = .returned (.string ⟨(bsB n n.ks.length).toArray⟩) ∧ Below w.heap.size w w' := by
  have HP1 : Veil _ := ⟨nput_one⟩
  have HP4 : Veil _ := ⟨nput_four⟩
  have HH := Lib.hid h
  have HBL : Veil (∀ k, k < n.ks.length → (bsB n k).length ≤ 5 + k * 1000005 ∧ bsB n (k + 1) = bsB n k ++ putB (n.ks.getD k []).length 1 ++ n.ks.getD k [] ++ putB (n.ds.getD (k + 1) 0) 4) := ⟨fun k hk => ⟨bsB_len hok.out.kt k (Nat.le_of_lt hk), bsB_succ n k⟩⟩
  have HB0 : Veil (bsB n 0 = putB n.ds.length 1 ++ putB (n.ds.getD 0 0) 4) := ⟨by simp [bsB]⟩
  revert HBL HB0
  generalize bsB n = fB
  intro HBL HB0
  clear h
  obtain ⟨P, K, D⟩ := n
  obtain ⟨pp, cp, pk, ck, pd, cd⟩ := a
  have hK : K.length ≤ 100000 := hok.out.k
  have hD : D.length ≤ 100000 := hok.out.d
  have hdt := hok.out.dt
  have hkt := hok.out.kt
  unfold Nd.v
  dsimp only at *
  have hdpos : 0 < D.length := by omega
  obtain ⟨G, hG⟩ : ∃ G, w.heap.size = G := ⟨_, rfl⟩
  obtain ⟨bd, od, rfl, hcd⟩ := HH.out.kid (by rintro he; dsimp only at he; simp [he] at hdpos)
  dsimp only at hcd
  obtain ⟨W1, hW1⟩ : ∃ W1, w.alloc (.cells #[.slice pp P.length cp, .slice pk K.length ck, .slice (some ⟨bd, od, none⟩) D.length cd] 26) = W1 := ⟨_, rfl⟩
  have HB1 : Veil (W1.heap[G]? = some (.cells #[.slice pp P.length cp, .slice pk K.length ck, .slice (some ⟨bd, od, none⟩) D.length cd] 26 (0, 0))) := ⟨by rw [← hW1, ← hG]; exact heap_alloc_new _ _⟩
  have HX1 : Veil (Below w.heap.size w W1) := ⟨by rw [← hW1]; exact below_al (Below.refl _ _) _⟩
  have HS1 : Veil _ := ⟨HH.out.below HX1.out⟩
  have HBX : Veil (∀ W, Below W1.heap.size W1 W → W.cell? ⟨G, 1, none⟩ = some (.slice pk K.length ck) ∧ W.cell? ⟨G, 2, none⟩ = some (.slice (some ⟨bd, od, none⟩) D.length cd)) := ⟨fun W hb => (box3 ((hb.block _ (lt_of_heap HB1.out)).trans HB1.out)).1.2⟩
  have HCD : Veil (∀ W, Below W1.heap.size W1 W → ∀ i, i < D.length → W.cell? ⟨bd, od + i, none⟩ = some (.int .u32 (D.getD i 0))) := ⟨fun W hb i hi => by
    have h1 := hcd i hi
    have h2 := (HX1.out.cell (World.block_lt_of_cell? w _ h1)).trans h1
    exact (hb.cell (World.block_lt_of_cell? W1 _ h2)).trans h2⟩
  have HD0 : Veil (∀ W, Below W1.heap.size W1 W → W.cell? ⟨bd, od, none⟩ = some (.int .u32 (D.getD 0 0))) := ⟨fun W hb => HCD.out W hb 0 hdpos⟩
  have HWD : Veil ((D.length : Int) % 18446744073709551616 = D.length) := ⟨by omega⟩
  have HWE : Veil ((D.getD 0 0 : Int) % 18446744073709551616 = (D.getD 0 0 : Nat)) := ⟨by have := hdt _ (getD_mem hdpos 0); omega⟩
  have HLN : Veil ((putB D.length 1).length + (putB (D.getD 0 0) 4).length ≤ 9000000000000) := ⟨by simp only [putB_length]; omega⟩
  have hne : ((D.length : Int) == 0) = false := by rw [beq_eq_false_iff_ne]; omega
  obtain ⟨d0, hd0⟩ : ∃ d0, D.getD 0 0 = d0 := ⟨_, rfl⟩
  rw [hd0] at HD0 HWE HLN HB0
  clear hd0
  have hdI : (0 : Int) < D.length := by omega
  obtain ⟨a1, a2⟩ := HBX.out W1 (Below.refl _ _)
  clear HH hcd
  go_enter Try.func24, Try.ntmps24
  go_wp2
  clear a1 a2 hG hW1 hne
  refine region_new [.is (.pointer (some ⟨G, 2, none⟩)), .is (.slice (some ⟨bd, od, none⟩) D.length cd), .is (.int .i64 D.length), .is (.int .u64 D.length), .is (.string ⟨(putB D.length 1).toArray⟩), .is (.pointer (some ⟨G, 2, none⟩)), .is (.slice (some ⟨bd, od, none⟩) D.length cd), .is (.pointer (some ⟨bd, od, none⟩)), .is (.int .u32 d0), .is (.int .u64 d0), .is (.string ⟨(putB d0 4).toArray⟩), .is (.string ⟨(putB D.length 1 ++ putB d0 4).toArray⟩)]
    [[], [(0, 49)], [(1, 50)], [(2, 51)], [(3, 52)], [], [(5, 54)], [(6, 55)], [(7, 56)], [(8, 57)], [(9, 58)], [(4, 53), (10, 59)]]
    [[], [0], [1], [2], [3], [], [5], [6], [7], [8], [4, 9], [4, 10]]
    [(0, 49), (1, 50), (2, 51), (3, 52), (4, 53), (5, 54), (6, 55), (7, 56), (8, 57), (9, 58), (10, 59), (11, 60)] rfl (by kernel_rfl) ⟨?_, ?_, ?_, ?_, ?_, ?_, ?_, ?_, ?_, ?_, ?_, ?_, trivial⟩ ?_
  · intro vals W hB _
    dsimp only [putsL, slotOf]
    go_wp2
    exact ⟨rfl, Below.refl _ _, rfl⟩
  · intro vals W hB ⟨h0, _⟩
    have h0 : vals 0 = _ := h0
    have c1 := (HBX.out W hB).2
    dsimp only [putsL, slotOf]
    rw [h0]
    go_wp2
    exact ⟨rfl, Below.refl _ _, rfl⟩
  · intro vals W hB ⟨h1, _⟩
    have h1 : vals 1 = _ := h1
    dsimp only [putsL, slotOf]
    rw [h1]
    go_wp2
    exact ⟨rfl, Below.refl _ _, rfl⟩
  · intro vals W hB ⟨h2, _⟩
    have h2 : vals 2 = _ := h2
    dsimp only [putsL, slotOf]
    rw [h2]
    go_wp2
    exact ⟨rfl, Below.refl _ _, rfl⟩
  · intro vals W hB ⟨h3, _⟩
    have h3 : vals 3 = _ := h3
    dsimp only [putsL, slotOf]
    rw [h3]
    go_wp2_with ((go_at_call 41; (with_reducible refine (HP1.out D.length _).mono ?_); rintro e w4 ⟨rfl, hb4⟩))
    exact ⟨rfl, hb4, rfl⟩
  · intro vals W hB _
    dsimp only [putsL, slotOf]
    go_wp2
    exact ⟨rfl, Below.refl _ _, rfl⟩
  · intro vals W hB ⟨h5, _⟩
    have h5 : vals 5 = _ := h5
    have c1 := (HBX.out W hB).2
    dsimp only [putsL, slotOf]
    rw [h5]
    go_wp2
    exact ⟨rfl, Below.refl _ _, rfl⟩
  · intro vals W hB ⟨h6, _⟩
    have h6 : vals 6 = _ := h6
    dsimp only [putsL, slotOf]
    rw [h6]
    go_wp2
    exact ⟨rfl, Below.refl _ _, rfl⟩
  · intro vals W hB ⟨h7, _⟩
    have h7 : vals 7 = _ := h7
    have c1 := HD0.out W hB
    dsimp only [putsL, slotOf]
    rw [h7]
    go_wp2
    exact ⟨rfl, Below.refl _ _, rfl⟩
  · intro vals W hB ⟨h8, _⟩
    have h8 : vals 8 = _ := h8
    dsimp only [putsL, slotOf]
    rw [h8]
    go_wp2
    exact ⟨rfl, Below.refl _ _, congrArg (Value.int .u64) HWE.out⟩
  · intro vals W hB ⟨h4, h9, _⟩
    have h9 : vals 9 = _ := h9
    dsimp only [putsL, slotOf]
    rw [h9]
    go_wp2_with ((go_at_call 41; (with_reducible refine (HP4.out d0 _).mono ?_); rintro e w4 ⟨rfl, hb4⟩))
    exact ⟨rfl, hb4, rfl⟩
  · intro vals W hB ⟨h4, h10, _⟩
    have h4 : vals 4 = _ := h4
    have h10 : vals 10 = _ := h10
    have hlen : (putB D.length 1).length + (putB d0 4).length ≤ 9000000000000 := HLN.out
    dsimp only [putsL, slotOf]
    rw [h4, h10]
    go_wp2
    exact ⟨rfl, Below.refl _ _, congrArg Value.string (str_add _ _)⟩
  rintro vals W hB ⟨q0, q1, q2, q3, q4, q5, q6, q7, q8, q9, q10, q11, -⟩
  have h0 : vals 0 = _ := q0
  have h1 : vals 1 = _ := q1
  have h2 : vals 2 = _ := q2
  have h3 : vals 3 = _ := q3
  have h4 : vals 4 = _ := q4
  have h5 : vals 5 = _ := q5
  have h6 : vals 6 = _ := q6
  have h7 : vals 7 = _ := q7
  have h8 : vals 8 = _ := q8
  have h9 : vals 9 = _ := q9
  have h10 : vals 10 = _ := q10
  have h11 : vals 11 = _ := q11
  dsimp only [putsL]
  rw [h0, h1, h2, h3, h4, h5, h6, h7, h8, h9, h10, h11]
  clear h0 q0 h1 q1 h2 q2 h3 q3 h4 q4 h5 q5 h6 q6 h7 q7 h8 q8 h9 q9 h10 q10 h11 q11
  simp only [List.length_cons, List.length_nil, Nat.reduceAdd, List.drop_succ_cons, List.drop_zero, List.setIfInBounds_toArray, List.set_cons_succ, List.set_cons_zero]
  have HXX : Veil _ := ⟨hB⟩
  clear hB
  go_wp2
  go_loopw [6, 7] (fun s i wr => ∃ k : Nat, k ≤ K.length ∧ i = .int .i64 k ∧ s = .string ⟨(fB k).toArray⟩ ∧ Veil (Below W1.heap.size W1 wr)) (fun _ i _ => K.length - (intOf i).toNat)
  case atStart => exact ⟨0, Nat.zero_le _, rfl, by rw [HB0.out], HXX⟩
  case round =>
    obtain ⟨k, hk, rfl, rfl, hJ⟩ := hrel
    obtain ⟨a1, a2⟩ := HBX.out wr hJ.out
    by_cases hlt : k < K.length
    · have HS2 : Veil _ := ⟨HS1.out.below hJ.out⟩
      obtain ⟨bk, ok, hpe, hc⟩ := HS2.out.key (by rintro he; dsimp only at he; simp [he] at hlt)
      dsimp only at hpe hc
      subst hpe
      have c1 := hc k hlt
      have hpt := hkt _ (getD_mem hlt [])
      have hdd := hdt _ (getD_mem (show k + 1 < D.length by omega) 0)
      have c2 := HCD.out wr hJ.out (k + 1) (by omega)
      have hkI : (0 : Int) ≤ k := by omega
      have hkJ : (0 : Int) ≤ (k : Int) + 1 := by omega
      have hkL : (k : Int) + 1 < D.length := by omega
      have HL := HBL.out k hlt
      have HL2 : Veil _ := ⟨HL.2⟩
      have HL1 := HL.1
      clear HL hc
      revert c1 c2 hpt hdd HL2 HL1
      generalize K.getD k [] = s
      generalize D.getD (k + 1) 0 = dn
      intro c1 hpt hdd c2 HL2 HL1
      generalize hacc : fB k = acc at *
      have HLM : Veil (acc.length + (putB s.length 1).length ≤ 9000000000000 ∧ acc.length + (putB s.length 1).length + s.length ≤ 9000000000000 ∧ acc.length + (putB s.length 1).length + s.length + (putB dn 4).length ≤ 9000000000000) := ⟨by
        simp only [putB_length]; omega⟩
      have HWK : Veil ((s.length : Int) % 18446744073709551616 = s.length) := ⟨by omega⟩
      have HWN : Veil ((dn : Int) % 18446744073709551616 = dn) := ⟨by omega⟩
      have HBY : Veil (∀ W, Below wr.heap.size wr W → W.cell? ⟨G, 1, none⟩ = some (.slice (some ⟨bk, ok, none⟩) K.length ck) ∧ W.cell? ⟨G, 2, none⟩ = some (.slice (some ⟨bd, od, none⟩) D.length cd) ∧ W.cell? ⟨bk, ok + k, none⟩ = some (.string ⟨s.toArray⟩) ∧ W.cell? ⟨bd, od + (k + 1), none⟩ = some (.int .u32 dn)) := ⟨fun W hb => by
        have hh := HBX.out W (bn_then hJ.out hb)
        exact ⟨hh.1, hh.2, (hb.cell (World.block_lt_of_cell? wr _ c1)).trans c1, (hb.cell (World.block_lt_of_cell? wr _ c2)).trans c2⟩⟩
      clear hpt hdd HL1 hacc c1 c2
      go_wp2
      clear a1 a2
      refine region_new [.is (.string ⟨acc.toArray⟩), .is (.pointer (some ⟨G, 1, none⟩)), .is (.slice (some ⟨bk, ok, none⟩) K.length ck), .is (.int .i64 k), .is (.pointer (some ⟨bk, ok + k, none⟩)), .is (.string ⟨s.toArray⟩), .is (.int .i64 s.length), .is (.int .u64 s.length), .is (.string ⟨(putB s.length 1).toArray⟩), .is (.string ⟨(acc ++ putB s.length 1).toArray⟩), .is (.pointer (some ⟨G, 1, none⟩)), .is (.slice (some ⟨bk, ok, none⟩) K.length ck), .is (.int .i64 k), .is (.pointer (some ⟨bk, ok + k, none⟩)), .is (.string ⟨s.toArray⟩), .is (.string ⟨(acc ++ putB s.length 1 ++ s).toArray⟩), .is (.pointer (some ⟨G, 2, none⟩)), .is (.slice (some ⟨bd, od, none⟩) D.length cd), .is (.int .i64 k), .is (.int .i64 ((k : Int) + 1)), .is (.pointer (some ⟨bd, od + (k + 1), none⟩)), .is (.int .u32 dn), .is (.int .u64 dn), .is (.string ⟨(putB dn 4).toArray⟩), .is (.string ⟨(acc ++ putB s.length 1 ++ s ++ putB dn 4).toArray⟩)]
        [[], [], [(1, 69)], [], [(2, 70), (3, 71)], [(4, 72)], [(5, 73)], [(6, 74)], [(7, 75)], [(0, 68), (8, 76)], [], [(10, 78)], [], [(11, 79), (12, 80)], [(13, 81)], [(9, 77), (14, 82)], [], [(16, 84)], [], [(18, 86)], [(17, 85), (19, 87)], [(20, 88)], [(21, 89)], [(22, 90)], [(15, 83), (23, 91)]]
        [[], [], [1], [], [2, 3], [4], [5], [6], [7], [0, 8], [], [10], [], [11, 12], [13], [9, 14], [], [16], [], [18], [17, 19], [20], [21], [8, 22], [15, 23]]
        [(0, 68), (1, 69), (2, 70), (3, 71), (4, 72), (5, 73), (6, 74), (7, 75), (8, 76), (9, 77), (10, 78), (11, 79), (12, 80), (13, 81), (14, 82), (15, 83), (16, 84), (17, 85), (18, 86), (19, 87), (20, 88), (21, 89), (22, 90), (23, 91), (24, 92)] rfl (by kernel_rfl) ⟨?_, ?_, ?_, ?_, ?_, ?_, ?_, ?_, ?_, ?_, ?_, ?_, ?_, ?_, ?_, ?_, ?_, ?_, ?_, ?_, ?_, ?_, ?_, ?_, ?_, trivial⟩ ?_
      · intro vals W hB _
        dsimp only [putsL, slotOf]
        go_wp2
        exact ⟨rfl, Below.refl _ _, rfl⟩
      · intro vals W hB _
        dsimp only [putsL, slotOf]
        go_wp2
        exact ⟨rfl, Below.refl _ _, rfl⟩
      · intro vals W hB ⟨h1, _⟩
        have h1 : vals 1 = _ := h1
        have c1 := (HBY.out W hB).1
        dsimp only [putsL, slotOf]
        rw [h1]
        go_wp2
        exact ⟨rfl, Below.refl _ _, rfl⟩
      · intro vals W hB _
        dsimp only [putsL, slotOf]
        go_wp2
        exact ⟨rfl, Below.refl _ _, rfl⟩
      · intro vals W hB ⟨h2, h3, _⟩
        have h2 : vals 2 = _ := h2
        have h3 : vals 3 = _ := h3
        dsimp only [putsL, slotOf]
        rw [h2, h3]
        go_wp2
        exact ⟨rfl, Below.refl _ _, rfl⟩
      · intro vals W hB ⟨h4, _⟩
        have h4 : vals 4 = _ := h4
        have c1 := (HBY.out W hB).2.2.1
        dsimp only [putsL, slotOf]
        rw [h4]
        go_wp2
        exact ⟨rfl, Below.refl _ _, rfl⟩
      · intro vals W hB ⟨h5, _⟩
        have h5 : vals 5 = _ := h5
        dsimp only [putsL, slotOf]
        rw [h5]
        go_wp2
        exact ⟨rfl, Below.refl _ _, rfl⟩
      · intro vals W hB ⟨h6, _⟩
        have h6 : vals 6 = _ := h6
        dsimp only [putsL, slotOf]
        rw [h6]
        go_wp2
        exact ⟨rfl, Below.refl _ _, congrArg (Value.int .u64) HWK.out⟩
      · intro vals W hB ⟨h7, _⟩
        have h7 : vals 7 = _ := h7
        dsimp only [putsL, slotOf]
        rw [h7]
        go_wp2_with ((go_at_call 41; (with_reducible refine (HP1.out s.length _).mono ?_); rintro e w4 ⟨rfl, hb4⟩))
        exact ⟨rfl, hb4, rfl⟩
      · intro vals W hB ⟨h0, h8, _⟩
        have h0 : vals 0 = _ := h0
        have h8 : vals 8 = _ := h8
        have hlen : acc.length + (putB s.length 1).length ≤ 9000000000000 := HLM.out.1
        dsimp only [putsL, slotOf]
        rw [h0, h8]
        go_wp2
        exact ⟨rfl, Below.refl _ _, congrArg Value.string (str_add _ _)⟩
      · intro vals W hB _
        dsimp only [putsL, slotOf]
        go_wp2
        exact ⟨rfl, Below.refl _ _, rfl⟩
      · intro vals W hB ⟨h10, _⟩
        have h10 : vals 10 = _ := h10
        have c1 := (HBY.out W hB).1
        dsimp only [putsL, slotOf]
        rw [h10]
        go_wp2
        exact ⟨rfl, Below.refl _ _, rfl⟩
      · intro vals W hB _
        dsimp only [putsL, slotOf]
        go_wp2
        exact ⟨rfl, Below.refl _ _, rfl⟩
      · intro vals W hB ⟨h11, h12, _⟩
        have h11 : vals 11 = _ := h11
        have h12 : vals 12 = _ := h12
        dsimp only [putsL, slotOf]
        rw [h11, h12]
        go_wp2
        exact ⟨rfl, Below.refl _ _, rfl⟩
      · intro vals W hB ⟨h13, _⟩
        have h13 : vals 13 = _ := h13
        have c1 := (HBY.out W hB).2.2.1
        dsimp only [putsL, slotOf]
        rw [h13]
        go_wp2
        exact ⟨rfl, Below.refl _ _, rfl⟩
      · intro vals W hB ⟨h9, h14, _⟩
        have h9 : vals 9 = _ := h9
        have h14 : vals 14 = _ := h14
        have hlen : acc.length + (putB s.length 1).length + s.length ≤ 9000000000000 := HLM.out.2.1
        dsimp only [putsL, slotOf]
        rw [h9, h14]
        go_wp2
        exact ⟨rfl, Below.refl _ _, congrArg Value.string ((str_add _ _).trans (by simp only [List.append_assoc]))⟩
      · intro vals W hB _
        dsimp only [putsL, slotOf]
        go_wp2
        exact ⟨rfl, Below.refl _ _, rfl⟩
      · intro vals W hB ⟨h16, _⟩
        have h16 : vals 16 = _ := h16
        have c1 := (HBY.out W hB).2.1
        dsimp only [putsL, slotOf]
        rw [h16]
        go_wp2
        exact ⟨rfl, Below.refl _ _, rfl⟩
      · intro vals W hB _
        dsimp only [putsL, slotOf]
        go_wp2
        exact ⟨rfl, Below.refl _ _, rfl⟩
      · intro vals W hB ⟨h18, _⟩
        have h18 : vals 18 = _ := h18
        dsimp only [putsL, slotOf]
        rw [h18]
        go_wp2
        exact ⟨rfl, Below.refl _ _, rfl⟩
      · intro vals W hB ⟨h17, h19, _⟩
        have h17 : vals 17 = _ := h17
        have h19 : vals 19 = _ := h19
        dsimp only [putsL, slotOf]
        rw [h17, h19]
        go_wp2
        exact ⟨rfl, Below.refl _ _, rfl⟩
      · intro vals W hB ⟨h20, _⟩
        have h20 : vals 20 = _ := h20
        have c1 := (HBY.out W hB).2.2.2
        dsimp only [putsL, slotOf]
        rw [h20]
        go_wp2
        exact ⟨rfl, Below.refl _ _, rfl⟩
      · intro vals W hB ⟨h21, _⟩
        have h21 : vals 21 = _ := h21
        dsimp only [putsL, slotOf]
        rw [h21]
        go_wp2
        exact ⟨rfl, Below.refl _ _, congrArg (Value.int .u64) HWN.out⟩
      · intro vals W hB ⟨h8, h22, _⟩
        have h22 : vals 22 = _ := h22
        dsimp only [putsL, slotOf]
        rw [h22]
        go_wp2_with ((go_at_call 41; (with_reducible refine (HP4.out dn _).mono ?_); rintro e w4 ⟨rfl, hb4⟩))
        exact ⟨rfl, hb4, rfl⟩
      · intro vals W hB ⟨h15, h23, _⟩
        have h15 : vals 15 = _ := h15
        have h23 : vals 23 = _ := h23
        have hlen : acc.length + (putB s.length 1).length + s.length + (putB dn 4).length ≤ 9000000000000 := HLM.out.2.2
        dsimp only [putsL, slotOf]
        rw [h15, h23]
        go_wp2
        exact ⟨rfl, Below.refl _ _, congrArg Value.string ((str_add _ _).trans (by simp only [List.append_assoc]))⟩
      rintro vals W hB ⟨q0, q1, q2, q3, q4, q5, q6, q7, q8, q9, q10, q11, q12, q13, q14, q15, q16, q17, q18, q19, q20, q21, q22, q23, q24, -⟩
      have h0 : vals 0 = _ := q0
      have h1 : vals 1 = _ := q1
      have h2 : vals 2 = _ := q2
      have h3 : vals 3 = _ := q3
      have h4 : vals 4 = _ := q4
      have h5 : vals 5 = _ := q5
      have h6 : vals 6 = _ := q6
      have h7 : vals 7 = _ := q7
      have h8 : vals 8 = _ := q8
      have h9 : vals 9 = _ := q9
      have h10 : vals 10 = _ := q10
      have h11 : vals 11 = _ := q11
      have h12 : vals 12 = _ := q12
      have h13 : vals 13 = _ := q13
      have h14 : vals 14 = _ := q14
      have h15 : vals 15 = _ := q15
      have h16 : vals 16 = _ := q16
      have h17 : vals 17 = _ := q17
      have h18 : vals 18 = _ := q18
      have h19 : vals 19 = _ := q19
      have h20 : vals 20 = _ := q20
      have h21 : vals 21 = _ := q21
      have h22 : vals 22 = _ := q22
      have h23 : vals 23 = _ := q23
      have h24 : vals 24 = _ := q24
      dsimp only [putsL]
      rw [h0, h1, h2, h3, h4, h5, h6, h7, h8, h9, h10, h11, h12, h13, h14, h15, h16, h17, h18, h19, h20, h21, h22, h23, h24]
      clear h0 q0 h1 q1 h2 q2 h3 q3 h4 q4 h5 q5 h6 q6 h7 q7 h8 q8 h9 q9 h10 q10 h11 q11 h12 q12 h13 q13 h14 q14 h15 q15 h16 q16 h17 q17 h18 q18 h19 q19 h20 q20 h21 q21 h22 q22 h23 q23 h24 q24
      simp only [List.length_cons, List.length_nil, Nat.reduceAdd, List.drop_succ_cons, List.drop_zero, List.setIfInBounds_toArray, List.set_cons_succ, List.set_cons_zero]
      have HX3 : Veil _ := ⟨bn_then hJ.out hB⟩
      clear hB
      go_wp2
      refine ⟨⟨k + 1, by omega, by go_num, by rw [HL2.out], ⟨HX3.out⟩⟩, ?_⟩
      simp only [intOf]; omega
    · obtain rfl : k = K.length := by omega
      have HX2 : Veil (Below w.heap.size w wr) := ⟨bn_then HX1.out hJ.out⟩
      clear hJ
      go_wp2
      go_ret
      exact ⟨rfl, HX2.out⟩

theorem bytes_of {w : World} {n : Nd} {a : NdP} (h : NdAt w n a) (hok : Veil n.Ok) (hkd : n.ds.length = 0 ∨ n.ks.length + 1 = n.ds.length) : Calls Try.prog 24 #[n.v a] w fun e w' => e = .returned (.string ⟨n.enc.toArray⟩) ∧ Below w.heap.size w w' := by
  by_cases h0 : n.ds.length = 0
  · obtain ⟨P, K, D⟩ := n
    obtain rfl : D = [] := List.eq_nil_of_length_eq_zero h0
    exact bytes_leaf h hok
  · have e : n.enc = bsB n n.ks.length := if_neg h0
    rw [e]
    exact bytes_branch h hok (by omega)
end Go.Proofs.Ytalnmaoidaldhaa
