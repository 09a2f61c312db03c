/- The walk of Same (the document's own), of two that are the same. -/
import Derived.Test.YtalnmaoidaldhaaKN6
namespace Go.Proofs.Ytalnmaoidaldhaa
open Go Go.RowKit Sm
attribute [local go_sem] Oper.semAt_some

set_option maxRecDepth 20000 in
set_option maxHeartbeats 4000000 in
theorem refsame_of {w : World} {n : Nd} {a c : NdP} (h : NdAt w n a) (hh : NdAt w n c) (hok : Veil n.Ok) : Calls Try.prog 11 #[n.v a, n.v c] w fun e w' => e = .returned (.bool true) ∧ Below w.heap.size w w' := by
  have HB := Lib.hid (NdBox.new h)
  obtain ⟨W1, hW1⟩ : ∃ W1, w.alloc (.cells #[.slice a.pp n.ps.length a.cp, .slice a.pk n.ks.length a.ck, .slice a.pd n.ds.length a.cd] 26) = W1 := ⟨_, rfl⟩
  rw [hW1] at HB
  have HC := Lib.hid (NdBox.new (hh.below HB.out.x))
  have hs1 : w.heap.size < W1.heap.size := lt_of_heap HB.out.b
  obtain ⟨W2, hW2⟩ : ∃ W2, W1.alloc (.cells #[.slice c.pp n.ps.length c.cp, .slice c.pk n.ks.length c.ck, .slice c.pd n.ds.length c.cd] 26) = W2 := ⟨_, rfl⟩
  rw [hW2] at HC
  have HB2 := Lib.hid (HB.out.below HC.out.x)
  have hz : w.heap.size + 1 = W1.heap.size := by rw [← hW1]; simp
  obtain ⟨a0, a1, a2⟩ := HB2.out.cells
  obtain ⟨c0, c1, c2⟩ := HC.out.cells
  have HX : Veil (Below w.heap.size w W2) := ⟨HB2.out.x⟩
  clear h hh HB
  unfold Nd.v at *
  obtain ⟨P, K, D⟩ := n
  obtain ⟨pp, cp, pk, ck, pd, cd⟩ := a
  obtain ⟨qp, ep, qk, ek, qd, ed⟩ := c
  dsimp only at *
  have hP : P.length ≤ 100000 := hok.out.p
  have hK : K.length ≤ 100000 := hok.out.k
  have hD : D.length ≤ 100000 := hok.out.d
  obtain ⟨G, hG⟩ : ∃ G, W1.heap.size = G := ⟨_, rfl⟩
  rw [hG] at c0 c1 c2
  go_enter Try.func11, Try.ntmps11
  go_wp2
  clear a0 a1 a2 c0 c1 c2 hW1 hW2 hz hs1
  go_loopw [5] (fun i wr => ∃ k : Nat, k ≤ P.length ∧ i = .int .i64 k ∧ Veil (Below W2.heap.size W2 wr)) (fun i _ => P.length - (intOf i).toNat)
  case atStart => exact ⟨0, Nat.zero_le _, rfl, ⟨Below.refl _ _⟩⟩
  case round =>
    obtain ⟨k, hk, rfl, hJ⟩ := hrel
    have HB3 : Veil _ := ⟨HB2.out.below hJ.out⟩
    have HC3 : Veil _ := ⟨HC.out.below hJ.out⟩
    obtain ⟨a0, a1, a2⟩ := HB3.out.cells
    obtain ⟨c0, c1, c2⟩ := HC3.out.cells
    rw [hG] at c0 c1 c2
    dsimp only at a0 a1 a2 c0 c1 c2
    by_cases hlt : k < P.length
    · obtain ⟨b, o, hpe, hc⟩ := HB3.out.s.pair (by rintro he; dsimp only at he; simp [he] at hlt)
      obtain ⟨bb, oo, hqe, hcc⟩ := HC3.out.s.pair (by rintro he; dsimp only at he; simp [he] at hlt)
      dsimp only at hpe hc hqe hcc
      subst hpe
      subst hqe
      obtain ⟨d1, d2⟩ := hc k hlt
      obtain ⟨f1, f2⟩ := hcc k hlt
      revert d1 d2 f1 f2
      generalize P.getD k Pr.zero = s
      obtain ⟨sk, sv⟩ := s
      dsimp only
      intro d1 d2 f1 f2
      have hkI : (0 : Int) ≤ k := by omega
      clear hc hcc
      go_wp2
      go_quiet (fail)
      go_wp2
      refine ⟨⟨k + 1, by omega, by go_num, ⟨bn_drewN nq hJ.out⟩⟩, ?_⟩
      simp only [intOf]; omega
    · obtain rfl : k = P.length := by omega
      clear hk hlt
      go_wp2
      generalize hW5 : wr = W5 at *
      clear hW5 a0 a1 a2 c0 c1 c2 HB3 HC3
      go_loopw [6] (fun i wr => ∃ k : Nat, k ≤ K.length ∧ i = .int .i64 k ∧ Veil (Below W2.heap.size W2 wr)) (fun i _ => K.length - (intOf i).toNat)
      case atStart => exact ⟨0, Nat.zero_le _, rfl, hJ⟩
      case round =>
        obtain ⟨k, hk, rfl, hJ⟩ := hrel
        have HB3 : Veil _ := ⟨HB2.out.below hJ.out⟩
        have HC3 : Veil _ := ⟨HC.out.below hJ.out⟩
        obtain ⟨a0, a1, a2⟩ := HB3.out.cells
        obtain ⟨c0, c1, c2⟩ := HC3.out.cells
        rw [hG] at c0 c1 c2
        dsimp only at a0 a1 a2 c0 c1 c2
        by_cases hlt : k < K.length
        · obtain ⟨b, o, hpe, hc⟩ := HB3.out.s.key (by rintro he; dsimp only at he; simp [he] at hlt)
          obtain ⟨bb, oo, hqe, hcc⟩ := HC3.out.s.key (by rintro he; dsimp only at he; simp [he] at hlt)
          dsimp only at hpe hc hqe hcc
          subst hpe
          subst hqe
          have d1 := hc k hlt
          have f1 := hcc k hlt
          revert d1 f1
          generalize K.getD k [] = s
          intro d1 f1
          have hkI : (0 : Int) ≤ k := by omega
          clear hc hcc
          go_wp2
          go_quiet (fail)
          go_wp2
          refine ⟨⟨k + 1, by omega, by go_num, ⟨bn_drewN nq hJ.out⟩⟩, ?_⟩
          simp only [intOf]; omega
        · obtain rfl : k = K.length := by omega
          clear hk hlt
          go_wp2
          generalize hW5 : wr = W5 at *
          clear hW5 a0 a1 a2 c0 c1 c2 HB3 HC3
          go_loopw [7] (fun i wr => ∃ k : Nat, k ≤ D.length ∧ i = .int .i64 k ∧ Veil (Below W2.heap.size W2 wr)) (fun i _ => D.length - (intOf i).toNat)
          case atStart => exact ⟨0, Nat.zero_le _, rfl, hJ⟩
          case round =>
            obtain ⟨k, hk, rfl, hJ⟩ := hrel
            have HB3 : Veil _ := ⟨HB2.out.below hJ.out⟩
            have HC3 : Veil _ := ⟨HC.out.below hJ.out⟩
            obtain ⟨a0, a1, a2⟩ := HB3.out.cells
            obtain ⟨c0, c1, c2⟩ := HC3.out.cells
            rw [hG] at c0 c1 c2
            dsimp only at a0 a1 a2 c0 c1 c2
            by_cases hlt : k < D.length
            · obtain ⟨b, o, hpe, hc⟩ := HB3.out.s.kid (by rintro he; dsimp only at he; simp [he] at hlt)
              obtain ⟨bb, oo, hqe, hcc⟩ := HC3.out.s.kid (by rintro he; dsimp only at he; simp [he] at hlt)
              dsimp only at hpe hc hqe hcc
              subst hpe
              subst hqe
              have d1 := hc k hlt
              have f1 := hcc k hlt
              revert d1 f1
              generalize D.getD k 0 = s
              intro d1 f1
              have hkI : (0 : Int) ≤ k := by omega
              clear hc hcc
              go_wp2
              go_quiet (fail)
              go_wp2
              refine ⟨⟨k + 1, by omega, by go_num, ⟨bn_drewN nq hJ.out⟩⟩, ?_⟩
              simp only [intOf]; omega
            · obtain rfl : k = D.length := by omega
              clear hk hlt
              go_wp2
              go_ret
              exact ⟨rfl, bn_then HX.out hJ.out⟩
end Go.Proofs.Ytalnmaoidaldhaa
