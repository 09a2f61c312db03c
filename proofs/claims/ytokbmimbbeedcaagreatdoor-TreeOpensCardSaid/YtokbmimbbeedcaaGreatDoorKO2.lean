/- The walks of leafShaped, branchShaped, kindOf, Right. -/
import Derived.Test.YtokbmimbbeedcaaGreatDoorKN1
namespace Go.Proofs.YtokbmimbbeedcaaGreatDoor
open Go Go.RowKit Sm
attribute [local go_sem] Oper.semAt_some

def shortV (P : List Pr) (i : Nat) : Bool := decide ((P.getD i Pr.zero).v.length ≤ 60)
def Nd.leafS (n : Nd) : Bool := decide (n.ps.length ≤ 255 ∧ n.ks.length = 0 ∧ n.ds.length = 0) && allTo (shortV n.ps) n.ps.length
def Nd.branchS (n : Nd) : Bool := decide (n.ps.length = 0 ∧ n.ds.length ≤ 255 ∧ n.ds.length = n.ks.length + 1) && allTo (goodD n.ds) n.ds.length
theorem Nd.leafS_iff (n : Nd) : n.leafS = true ↔ (n.ps.length ≤ 255 ∧ n.ks.length = 0 ∧ n.ds.length = 0) ∧ ∀ i, i < n.ps.length → shortV n.ps i = true := by simp [Nd.leafS, allTo_iff]
theorem Nd.branchS_iff (n : Nd) : n.branchS = true ↔ (n.ps.length = 0 ∧ n.ds.length ≤ 255 ∧ n.ds.length = n.ks.length + 1) ∧ ∀ i, i < n.ds.length → goodD n.ds i = true := by simp [Nd.branchS, allTo_iff]
/-- The kind of a node, 0 of one that is not right. -/
def Nd.kindO (n : Nd) : Nat := if n.leafS && riseL n.keys then 1 else if n.branchS && riseL n.keys then 2 else 0

set_option maxRecDepth 20000 in
set_option maxHeartbeats 2000000 in
theorem leafsh_of {w : World} {n : Nd} {a : NdP} (h : NdAt w n a) (hok : Veil n.Ok) : Calls Tryz.prog 84 #[n.v a] w fun e w' => e = .returned (.bool n.leafS) ∧ Below w.heap.size w w' := by
  have HRI : Veil _ := ⟨n.leafS_iff⟩
  obtain ⟨r, hr⟩ : ∃ r, n.leafS = r := ⟨_, rfl⟩
  rw [hr] at HRI ⊢
  clear hr
  have HH := Lib.hid h
  clear h
  obtain ⟨P, K, D⟩ := n
  obtain ⟨pp, cp, pk, ck, pd, cd⟩ := a
  have hP : P.length ≤ 100000 := hok.out.p
  have hK : K.length ≤ 100000 := hok.out.k
  have hD : D.length ≤ 100000 := hok.out.d
  unfold Nd.v
  dsimp only at *
  by_cases h3 : 255 < P.length
  · obtain rfl : r = false := by cases r with | false => rfl | true => have := (HRI.out.1 rfl).1; omega
    go_enter Tryz.func84, Tryz.ntmps84
    go_wp2
    go_ret
    exact ⟨rfl, below_al (Below.refl _ _) _⟩
  by_cases h1 : 0 < K.length
  · obtain rfl : r = false := by cases r with | false => rfl | true => have := (HRI.out.1 rfl).1; omega
    go_enter Tryz.func84, Tryz.ntmps84
    go_wp2
    go_ret
    exact ⟨rfl, below_al (Below.refl _ _) _⟩
  by_cases h2 : 0 < D.length
  · obtain rfl : r = false := by cases r with | false => rfl | true => have := (HRI.out.1 rfl).1; omega
    go_enter Tryz.func84, Tryz.ntmps84
    go_wp2
    go_ret
    exact ⟨rfl, below_al (Below.refl _ _) _⟩
  have HS : Veil (P.length ≤ 255 ∧ K.length = 0 ∧ D.length = 0) := ⟨by omega⟩
  go_enter Tryz.func84, Tryz.ntmps84
  go_wp2
  clear h1 h2 h3
  obtain ⟨W1, hW1⟩ : ∃ W1, w.alloc (.cells #[.slice pp P.length cp, .slice pk K.length ck, .slice pd D.length cd] 92) = W1 := ⟨_, rfl⟩
  have HB1 : Veil (W1.heap[w.heap.size]? = some (.cells #[.slice pp P.length cp, .slice pk K.length ck, .slice pd D.length cd] 92 (0, 0))) := ⟨by rw [← hW1]; exact heap_alloc_new _ _⟩
  have HX1 : Veil (Below w.heap.size w W1) := ⟨by rw [← hW1]; exact below_al (Below.refl _ _) _⟩
  have HS1 : Veil _ := ⟨HH.out.below HX1.out⟩
  rw [hW1]
  clear hW1 HH
  go_loopw [24] (fun i wr => ∃ k : Nat, k ≤ P.length ∧ i = .int .i64 k ∧ Veil (Below W1.heap.size W1 wr ∧ ∀ i, i < k → shortV P i = true)) (fun i _ => P.length - (intOf i).toNat)
  case atStart => exact ⟨0, Nat.zero_le _, rfl, ⟨Below.refl _ _, fun i hi => absurd hi (by omega)⟩⟩
  case round =>
    obtain ⟨k, hk, rfl, hJ⟩ := hrel
    have HB2 : Veil _ := ⟨(hJ.out.1.block w.heap.size (lt_of_heap HB1.out)).trans HB1.out⟩
    obtain ⟨⟨a0, a1, a2⟩, -⟩ := box3 HB2.out
    by_cases hlt : k < P.length
    · have HS2 : Veil _ := ⟨HS1.out.below hJ.out.1⟩
      obtain ⟨b, o, hpe, hc⟩ := HS2.out.pair (by rintro he; dsimp only at he; simp [he] at hlt)
      dsimp only at hpe hc
      subst hpe
      obtain ⟨c1, c2⟩ := hc k hlt
      have HJ : Veil _ := ⟨hJ.out⟩
      have stop : Veil (shortV P k = false → r = false) := ⟨fun hf => by
        cases r with
        | false => rfl
        | true => have := (HRI.out.1 rfl).2 k hlt; rw [hf] at this; cases this⟩
      have HG : Veil (shortV P k = decide ((P.getD k Pr.zero).v.length ≤ 60)) := ⟨rfl⟩
      have HGN : Veil (shortV P k = true → ∀ i, i < k + 1 → shortV P i = true) := ⟨fun ht i hi => by
        rcases Nat.lt_or_eq_of_le (Nat.le_of_lt_succ hi) with h | h
        · exact HJ.out.2 i h
        · rw [h]; exact ht⟩
      have hsv := (hok.out.pt _ (getD_mem hlt Pr.zero)).2
      clear hc hJ a0 a1 a2
      revert c1 c2 HG hsv
      generalize P.getD k Pr.zero = s
      obtain ⟨sk, sv⟩ := s
      dsimp only
      intro c1 c2 HG hsv
      by_cases h60 : 60 < sv.length
      · obtain rfl : r = false := stop.out (by rw [HG.out]; simp; omega)
        have HX2 : Veil (Below w.heap.size w (wr.alloc (.cells #[.string ⟨sk.toArray⟩, .string ⟨sv.toArray⟩] 37))) := ⟨bn_then (bn_then HX1.out HJ.out.1) (below_al (Below.refl _ _) _)⟩
        clear HJ HG HGN stop
        go_wp2
        go_ret
        exact ⟨rfl, HX2.out⟩
      · have HGG : Veil _ := ⟨HGN.out (by rw [HG.out]; simp; omega)⟩
        have HX2 : Veil (Below W1.heap.size W1 (wr.alloc (.cells #[.string ⟨sk.toArray⟩, .string ⟨sv.toArray⟩] 37))) := ⟨bn_then HJ.out.1 (below_al (Below.refl _ _) _)⟩
        clear HJ HG HGN stop
        go_wp2
        refine ⟨⟨k + 1, by omega, by go_num, ⟨HX2.out, HGG.out⟩⟩, ?_⟩
        simp only [intOf]; omega
    · obtain rfl : k = P.length := by omega
      obtain rfl : r = true := HRI.out.2 ⟨HS.out, hJ.out.2⟩
      have HX2 : Veil (Below w.heap.size w wr) := ⟨bn_then HX1.out hJ.out.1⟩
      clear hJ
      go_wp2
      go_ret
      exact ⟨rfl, HX2.out⟩

set_option maxRecDepth 20000 in
set_option maxHeartbeats 2000000 in
theorem branchsh_of {w : World} {n : Nd} {a : NdP} (h : NdAt w n a) (hok : Veil n.Ok) : Calls Tryz.prog 86 #[n.v a] w fun e w' => e = .returned (.bool n.branchS) ∧ Below w.heap.size w w' := by
  have HRI : Veil _ := ⟨n.branchS_iff⟩
  obtain ⟨r, hr⟩ : ∃ r, n.branchS = r := ⟨_, rfl⟩
  rw [hr] at HRI ⊢
  clear hr
  have HH := Lib.hid h
  clear h
  obtain ⟨P, K, D⟩ := n
  obtain ⟨pp, cp, pk, ck, pd, cd⟩ := a
  have hP : P.length ≤ 100000 := hok.out.p
  have hK : K.length ≤ 100000 := hok.out.k
  have hD : D.length ≤ 100000 := hok.out.d
  have hdt := hok.out.dt
  unfold Nd.v
  dsimp only at *
  by_cases h1 : 0 < P.length
  · obtain rfl : r = false := by cases r with | false => rfl | true => have := (HRI.out.1 rfl).1; omega
    go_enter Tryz.func86, Tryz.ntmps86
    go_wp2
    go_ret
    exact ⟨rfl, below_al (Below.refl _ _) _⟩
  by_cases h2 : 255 < D.length
  · obtain rfl : r = false := by cases r with | false => rfl | true => have := (HRI.out.1 rfl).1; omega
    go_enter Tryz.func86, Tryz.ntmps86
    go_wp2
    go_ret
    exact ⟨rfl, below_al (Below.refl _ _) _⟩
  by_cases h3 : ¬ D.length = K.length + 1
  · obtain rfl : r = false := by cases r with | false => rfl | true => have := (HRI.out.1 rfl).1; omega
    have h3b : ((D.length : Int) != (K.length : Int) + 1) = true := by rw [bne_iff_ne]; omega
    clear h3
    go_enter Tryz.func86, Tryz.ntmps86
    go_wp2
    go_ret
    exact ⟨rfl, below_al (Below.refl _ _) _⟩
  have h3b : ((D.length : Int) != (K.length : Int) + 1) = false := by rw [bne_eq_false_iff_eq]; omega
  have HS : Veil (P.length = 0 ∧ D.length ≤ 255 ∧ D.length = K.length + 1) := ⟨by omega⟩
  clear h3
  go_enter Tryz.func86, Tryz.ntmps86
  go_wp2
  clear h1 h2 h3b
  obtain ⟨W1, hW1⟩ : ∃ W1, w.alloc (.cells #[.slice pp P.length cp, .slice pk K.length ck, .slice pd D.length cd] 92) = W1 := ⟨_, rfl⟩
  have HB1 : Veil (W1.heap[w.heap.size]? = some (.cells #[.slice pp P.length cp, .slice pk K.length ck, .slice pd D.length cd] 92 (0, 0))) := ⟨by rw [← hW1]; exact heap_alloc_new _ _⟩
  have HX1 : Veil (Below w.heap.size w W1) := ⟨by rw [← hW1]; exact below_al (Below.refl _ _) _⟩
  have HS1 : Veil _ := ⟨HH.out.below HX1.out⟩
  rw [hW1]
  clear hW1 HH
  go_loopw [28] (fun i wr => ∃ k : Nat, k ≤ D.length ∧ i = .int .i64 k ∧ Veil (Below W1.heap.size W1 wr ∧ ∀ i, i < k → goodD D i = true)) (fun i _ => D.length - (intOf i).toNat)
  case atStart => exact ⟨0, Nat.zero_le _, rfl, ⟨Below.refl _ _, fun i hi => absurd hi (by omega)⟩⟩
  case round =>
    obtain ⟨k, hk, rfl, hJ⟩ := hrel
    have HB2 : Veil _ := ⟨(hJ.out.1.block w.heap.size (lt_of_heap HB1.out)).trans HB1.out⟩
    by_cases hlt : k < D.length
    · have HS2 : Veil _ := ⟨HS1.out.below hJ.out.1⟩
      obtain ⟨b, o, hpe, hc⟩ := HS2.out.kid (by rintro he; dsimp only at he; simp [he] at hlt)
      dsimp only at hpe hc
      subst hpe
      have c1 := hc k hlt
      have HJ : Veil _ := ⟨hJ.out⟩
      have stop : Veil (goodD D k = false → r = false) := ⟨fun hf => by
        cases r with
        | false => rfl
        | true => have := (HRI.out.1 rfl).2 k hlt; rw [hf] at this; cases this⟩
      have HG : Veil (goodD D k = decide (2 ≤ D.getD k 0 ∧ D.getD k 0 < 16384)) := ⟨rfl⟩
      have HGN : Veil (goodD D k = true → ∀ i, i < k + 1 → goodD D i = true) := ⟨fun ht i hi => by
        rcases Nat.lt_or_eq_of_le (Nat.le_of_lt_succ hi) with h | h
        · exact HJ.out.2 i h
        · rw [h]; exact ht⟩
      have hdk := hdt _ (getD_mem hlt 0)
      clear hc hJ
      revert c1 HG hdk
      generalize D.getD k 0 = s
      intro c1 HG hdk
      have HX2 : Veil (Below w.heap.size w wr) := ⟨bn_then HX1.out HJ.out.1⟩
      by_cases g1 : s < 2
      · obtain rfl : r = false := stop.out (by rw [HG.out]; simp; omega)
        clear HJ HG HGN stop
        go_wp2
        go_ret
        exact ⟨rfl, HX2.out⟩
      · by_cases g2 : s < 16384
        · have HGG : Veil _ := ⟨HGN.out (by rw [HG.out]; simp; omega)⟩
          have HX3 : Veil _ := ⟨HJ.out.1⟩
          have g2b : decide ((16384 : Int) ≤ s) = false := by rw [decide_eq_false_iff_not]; omega
          clear HJ HG HGN stop g2
          go_wp2
          refine ⟨⟨k + 1, by omega, by go_num, ⟨HX3.out, HGG.out⟩⟩, ?_⟩
          simp only [intOf]; omega
        · obtain rfl : r = false := stop.out (by rw [HG.out]; simp; omega)
          have g2b : decide ((16384 : Int) ≤ s) = true := by rw [decide_eq_true_iff]; omega
          clear HJ HG HGN stop g2
          go_wp2
          go_ret
          exact ⟨rfl, HX2.out⟩
    · obtain rfl : k = D.length := by omega
      obtain rfl : r = true := HRI.out.2 ⟨HS.out, hJ.out.2⟩
      have HX2 : Veil (Below w.heap.size w wr) := ⟨bn_then HX1.out hJ.out.1⟩
      clear hJ
      go_wp2
      go_ret
      exact ⟨rfl, HX2.out⟩
end Go.Proofs.YtokbmimbbeedcaaGreatDoor

/- The walks of kindOf, Right. -/
namespace Go.Proofs.YtokbmimbbeedcaaGreatDoor
open Go Go.RowKit Sm
attribute [local go_sem] Oper.semAt_some

theorem keysN_of {w : World} {n : Nd} {a : NdP} (h : NdAt w n a) : Calls Tryz.prog 72 #[n.v a] w fun e w' => ∃ Bx, e = .returned (.func (.func 104) #[] #[.pointer (some ⟨Bx, 0, none⟩)]) ∧ ReadsN Bx n a w' ∧ Below w.heap.size w w' :=
  (keys_any n a w).mono fun e w' ⟨h1, h2⟩ => ⟨w.heap.size, h1, by rw [← h2]; exact ⟨heap_alloc_new _ _, h.below (below_al (Below.refl _ _) _)⟩, by rw [← h2]; exact below_al (Below.refl _ _) _⟩

set_option maxRecDepth 20000 in
set_option maxHeartbeats 2000000 in
theorem kindO_of {w : World} {n : Nd} {a : NdP} (h : NdAt w n a) (hok : Veil n.Ok) : Calls Tryz.prog 61 #[n.v a] w fun e w' => e = .returned (.int .i64 n.kindO) ∧ Below w.heap.size w w' := by
  have HLs : Veil (∀ w, NdAt w n a → Calls Tryz.prog 84 #[n.v a] w fun e w' => e = .returned (.bool n.leafS) ∧ Below w.heap.size w w') := ⟨fun w h => leafsh_of h hok⟩
  have HBs : Veil (∀ w, NdAt w n a → Calls Tryz.prog 86 #[n.v a] w fun e w' => e = .returned (.bool n.branchS) ∧ Below w.heap.size w w') := ⟨fun w h => branchsh_of h hok⟩
  have HKy : Veil (∀ w, NdAt w n a → Calls Tryz.prog 72 #[n.v a] w fun e w' => ∃ Bx, e = .returned (.func (.func 104) #[] #[.pointer (some ⟨Bx, 0, none⟩)]) ∧ ReadsN Bx n a w' ∧ Below w.heap.size w w') := ⟨fun w h => keysN_of h⟩
  have HRs : Veil (∀ w Bx, ReadsN Bx n a w → Calls Tryz.prog 85 #[.func (.func 104) #[] #[.pointer (some ⟨Bx, 0, none⟩)]] w fun e w' => e = .returned (.bool (riseL n.keys)) ∧ Below w.heap.size w w') := ⟨fun w Bx h => rising_of h hok⟩
  unfold Nd.kindO
  clear hok
  revert HLs HBs HRs
  generalize n.leafS = l
  generalize n.branchS = b
  generalize riseL n.keys = r
  intro HLs HBs HRs
  have HB : Veil _ := ⟨NdBox.new h⟩
  obtain ⟨W1, hW1⟩ : ∃ W1, w.alloc (.cells #[.slice a.pp n.ps.length a.cp, .slice a.pk n.ks.length a.ck, .slice a.pd n.ds.length a.cd] 92) = W1 := ⟨_, rfl⟩
  rw [hW1] at HB
  obtain ⟨a0, a1, a2⟩ := HB.out.cells
  clear h
  unfold Nd.v at *
  cases l <;> cases b <;> cases r
  all_goals
    simp only [Bool.and_true, Bool.and_false, Bool.false_eq_true, if_true, if_false]
    go_enter Tryz.func61, Tryz.ntmps61
    go_wp2_with (first
      | (go_at_call 85; refine (HRs.out _ _ HRD.out).mono ?_; rintro e w2 ⟨rfl, hb⟩; replace HB : Veil _ := ⟨HB.out.below hb⟩; clear hb a0 a1 a2; obtain ⟨a0, a1, a2⟩ := HB.out.cells)
      | (go_at_call 72; refine (HKy.out _ HB.out.s).mono ?_; rintro e w2 ⟨Bx, rfl, hrd, hb⟩; have HRD : Veil _ := ⟨hrd⟩; replace HB : Veil _ := ⟨HB.out.below hb⟩; clear hrd hb a0 a1 a2; obtain ⟨a0, a1, a2⟩ := HB.out.cells)
      | (go_at_call 86; refine (HBs.out _ HB.out.s).mono ?_; rintro e w2 ⟨rfl, hb⟩; replace HB : Veil _ := ⟨HB.out.below hb⟩; clear hb a0 a1 a2; obtain ⟨a0, a1, a2⟩ := HB.out.cells)
      | (go_at_call 84; refine (HLs.out _ HB.out.s).mono ?_; rintro e w2 ⟨rfl, hb⟩; replace HB : Veil _ := ⟨HB.out.below hb⟩; clear hb a0 a1 a2; obtain ⟨a0, a1, a2⟩ := HB.out.cells))
    go_ret
    exact ⟨rfl, HB.out.x⟩

theorem less_nil (s : List UInt8) : lessB [] s = decide (1 ≤ s.length) := by cases s <;> simp [lessB]
theorem lessB_pos {a b : List UInt8} (h : lessB a b = true) : 1 ≤ b.length := by
  cases b with
  | nil => cases a <;> simp [lessB] at h
  | cons => simp
/-- The same as the document's. -/
theorem Nd.leaf_eq (n : Nd) : n.leaf = (n.leafS && riseL n.keys) := by
  rw [Bool.eq_iff_iff, Bool.and_eq_true, n.leaf_iff, n.leafS_iff, riseL_iff]
  constructor
  · rintro ⟨⟨h1, h2, h3⟩, h4⟩
    have hk : n.keys.length = n.ps.length := by rw [keys_len]; omega
    refine ⟨⟨⟨h3, h1, h2⟩, fun i hi => ?_⟩, fun i hi => ?_⟩
    · have := h4 i hi
      simp only [goodP, Bool.and_eq_true, rightP_iff] at this
      simp only [shortV, decide_eq_true_eq]
      exact this.1.2.2
    · rw [hk] at hi
      have := h4 i hi
      simp only [goodP, Bool.and_eq_true, rightP_iff, Bool.or_eq_true, decide_eq_true_eq] at this
      obtain ⟨⟨e1, e2, e3⟩, e4⟩ := this
      simp only [goodAt, Bool.and_eq_true, decide_eq_true_eq, keys_getP hi]
      refine ⟨?_, e2⟩
      cases i with
      | zero => rw [prevK, if_pos rfl, less_nil]; simpa using e1
      | succ j =>
        have e5 : lessB (n.ps.getD j Pr.zero).k (n.ps.getD (j + 1) Pr.zero).k = true := by
          rcases e4 with e4 | e4
          · omega
          · simpa using e4
        rw [prevK, if_neg (by omega), Nat.add_sub_cancel, keys_getP (by omega)]
        exact e5
  · rintro ⟨⟨⟨h3, h1, h2⟩, h4⟩, h5⟩
    have hk : n.keys.length = n.ps.length := by rw [keys_len]; omega
    refine ⟨⟨h1, h2, h3⟩, fun i hi => ?_⟩
    have e1 := h4 i hi
    have e2 := h5 i (by rw [hk]; exact hi)
    simp only [goodAt, Bool.and_eq_true, decide_eq_true_eq, keys_getP hi] at e2
    simp only [shortV, decide_eq_true_eq] at e1
    simp only [goodP, Bool.and_eq_true, rightP_iff, Bool.or_eq_true, decide_eq_true_eq]
    refine ⟨⟨lessB_pos e2.1, e2.2, e1⟩, ?_⟩
    cases i with
    | zero => exact .inl rfl
    | succ j =>
      right
      have := e2.1
      rw [prevK, if_neg (by omega), Nat.add_sub_cancel, keys_getP (by omega)] at this
      simpa using this
theorem Nd.branch_eq (n : Nd) : n.branch = (n.branchS && riseL n.keys) := by
  rw [Bool.eq_iff_iff, Bool.and_eq_true, n.branch_iff, n.branchS_iff, riseL_iff]
  constructor
  · rintro ⟨⟨h1, h2, h3, h4⟩, h5, h6⟩
    have hk : n.keys = n.ks := by
      rw [Nd.keys, List.eq_nil_of_length_eq_zero h1]; rfl
    refine ⟨⟨⟨h1, h3, by omega⟩, h5⟩, fun i hi => ?_⟩
    rw [hk] at hi ⊢
    have := h6 i hi
    simp only [goodK, Bool.and_eq_true, Bool.or_eq_true, decide_eq_true_eq] at this
    obtain ⟨⟨e1, e2⟩, e4⟩ := this
    simp only [goodAt, Bool.and_eq_true, decide_eq_true_eq]
    refine ⟨?_, e2⟩
    cases i with
    | zero => rw [prevK, if_pos rfl, less_nil]; simpa using e1
    | succ j =>
      rcases e4 with e4 | e4
      · omega
      · rw [prevK, if_neg (by omega)]; exact e4
  · rintro ⟨⟨⟨h1, h3, h4⟩, h5⟩, h6⟩
    have hk : n.keys = n.ks := by
      rw [Nd.keys, List.eq_nil_of_length_eq_zero h1]; rfl
    rw [hk] at h6
    refine ⟨⟨h1, by omega, h3, by omega⟩, h5, fun i hi => ?_⟩
    have e2 := h6 i hi
    simp only [goodAt, Bool.and_eq_true, decide_eq_true_eq] at e2
    simp only [goodK, Bool.and_eq_true, Bool.or_eq_true, decide_eq_true_eq]
    refine ⟨⟨lessB_pos e2.1, e2.2⟩, ?_⟩
    cases i with
    | zero => exact .inl rfl
    | succ j =>
      right
      have := e2.1
      rwa [prevK, if_neg (by omega)] at this
theorem Nd.kindO_eq (n : Nd) : n.kindO = if n.right then n.kind else 0 := by
  unfold Nd.kindO Nd.right
  rw [← n.leaf_eq, ← n.branch_eq]
  cases h1 : n.leaf with
  | true =>
    have := (n.leaf_iff.1 h1).1.2.1
    simp [Nd.kind, this]
  | false =>
    cases h2 : n.branch with
    | true =>
      have := (n.branch_iff.1 h2).1.2.1
      have hk : n.kind = 2 := by rw [Nd.kind, if_neg (by omega)]
      simp [hk]
    | false => simp
theorem Nd.kind_pos (n : Nd) : 1 ≤ n.kind ∧ n.kind ≤ 2 := by unfold Nd.kind; split <;> omega

theorem kindOf_of {w : World} {n : Nd} {a : NdP} (h : NdAt w n a) (hok : Veil n.Ok) : Calls Tryz.prog 61 #[n.v a] w fun e w' => e = .returned (.int .i64 ((if n.right then n.kind else 0 : Nat) : Int)) ∧ Below w.heap.size w w' := by
  rw [← n.kindO_eq]; exact kindO_of h hok

set_option maxRecDepth 20000 in
set_option maxHeartbeats 2000000 in
theorem nright_of {w : World} {n : Nd} {a : NdP} (h : NdAt w n a) (hok : Veil n.Ok) : Calls Tryz.prog 64 #[n.v a] w fun e w' => e = .returned (.bool n.right) ∧ Below w.heap.size w w' := by
  have HKd : Veil (∀ w, NdAt w n a → Calls Tryz.prog 61 #[n.v a] w fun e w' => e = .returned (.int .i64 ((if n.right then n.kind else 0 : Nat) : Int)) ∧ Below w.heap.size w w') := ⟨fun w h => kindOf_of h hok⟩
  obtain ⟨h1, h2⟩ := n.kind_pos
  revert HKd h1 h2
  generalize n.right = r
  generalize n.kind = k
  intro HKd h1 h2
  have HB : Veil _ := ⟨NdBox.new h⟩
  obtain ⟨W1, hW1⟩ : ∃ W1, w.alloc (.cells #[.slice a.pp n.ps.length a.cp, .slice a.pk n.ks.length a.ck, .slice a.pd n.ds.length a.cd] 92) = W1 := ⟨_, rfl⟩
  rw [hW1] at HB
  obtain ⟨a0, a1, a2⟩ := HB.out.cells
  clear h
  unfold Nd.v at *
  have hk0 : ((k : Int) != 0) = true := by rw [bne_iff_ne]; omega
  cases r
  all_goals
    simp only [if_true, Bool.false_eq_true, if_false] at HKd
    go_enter Tryz.func64, Tryz.ntmps64
    go_wp2_with (go_at_call 61; refine (HKd.out _ HB.out.s).mono ?_; rintro e w2 ⟨rfl, hb⟩; replace HB : Veil _ := ⟨HB.out.below hb⟩; clear hb a0 a1 a2; obtain ⟨a0, a1, a2⟩ := HB.out.cells)
    go_ret
    exact ⟨by first | rfl | rw [hk0], HB.out.x⟩
end Go.Proofs.YtokbmimbbeedcaaGreatDoor

/- The walks of textSize, cut, ahead. -/
namespace Go.Proofs.YtokbmimbbeedcaaGreatDoor
open Go Go.RowKit Sm
attribute [local go_sem] Oper.semAt_some

/-- Where a list that was cut lies. -/
def cutE {α : Type} (E : El α) (p : Option Addr) (f n : Nat) : Option Addr := if n = 0 then p else dropP E p f
theorem Els.cut {α : Type} {E : El α} {w : World} {p : Option Addr} {L : List α} (h : Els E w p L) (f n : Nat) : Els E w (cutE E p f n) ((L.drop f).take n) := by
  by_cases hn : n = 0
  · subst hn; simp only [List.take_zero]; exact Els.nil _ _
  · rw [cutE, if_neg hn]; exact (h.drop f).take n
set_option maxRecDepth 20000 in
theorem ncutK_any {p : Option Addr} {len cap : Nat} (h : SlOk p len cap) (f n : Nat) (hfn : f + n ≤ len) (w : World) :
    Calls Tryz.prog 125 #[.slice p len cap, .int .i64 f, .int .i64 ((f + n : Nat) : Int)] w fun e w' => e = .returned (.slice (cutE elK p f n) n n) ∧ w = w' := by
  have hlc := h.le
  have hcap := h.few
  by_cases hn : n = 0
  · subst hn
    have e : cutE elK p f 0 = p := rfl
    rw [e, Nat.add_zero]
    rw [Nat.add_zero] at hfn
    cases p with
    | none =>
      obtain rfl : cap = 0 := h.none rfl
      obtain rfl : len = 0 := by omega
      obtain rfl : f = 0 := by omega
      clear hfn hlc h
      go_enter Tryz.func125, Tryz.ntmps125
      go_wp2
      go_ret
      exact ⟨rfl, rfl⟩
    | some a =>
      have hl0 : f ≤ cap := by omega
      clear hfn e h
      go_enter Tryz.func125, Tryz.ntmps125
      go_wp2
      go_ret
      exact ⟨by simp, rfl⟩
  · cases p with
    | none =>
      have := h.none rfl
      omega
    | some a =>
      obtain ⟨b, o, sp⟩ := a
      obtain rfl : sp = none := h.spot _ rfl
      have e : cutE elK (some ⟨b, o, none⟩) f n = some ⟨b, o + f, none⟩ := by simp [cutE, dropP, hn, elK]
      rw [e]
      obtain ⟨t, ht⟩ : ∃ t, f + n = t := ⟨_, rfl⟩
      rw [ht]
      have hnt : t - f = n := by omega
      have HNT : Veil _ := ⟨hnt⟩
      have hlt : f < t := by omega
      have htc : t ≤ cap := by omega
      clear hnt ht hfn hn e h
      go_enter Tryz.func125, Tryz.ntmps125
      go_wp2
      go_ret
      refine ⟨?_, rfl⟩
      rw [← HNT.out]
      first | rfl | simp

set_option maxRecDepth 20000 in
theorem ncutP_any {p : Option Addr} {len cap : Nat} (h : SlOk p len cap) (f n : Nat) (hfn : f + n ≤ len) (w : World) :
    Calls Tryz.prog 88 #[.slice p len cap, .int .i64 f, .int .i64 ((f + n : Nat) : Int)] w fun e w' => e = .returned (.slice (cutE elP p f n) n n) ∧ w = w' := by
  have hlc := h.le
  have hcap := h.few
  by_cases hn : n = 0
  · subst hn
    have e : cutE elP p f 0 = p := rfl
    rw [e, Nat.add_zero]
    rw [Nat.add_zero] at hfn
    cases p with
    | none =>
      obtain rfl : cap = 0 := h.none rfl
      obtain rfl : len = 0 := by omega
      obtain rfl : f = 0 := by omega
      clear hfn hlc h
      go_enter Tryz.func88, Tryz.ntmps88
      go_wp2
      go_ret
      exact ⟨rfl, rfl⟩
    | some a =>
      have hl0 : f ≤ cap := by omega
      clear hfn e h
      go_enter Tryz.func88, Tryz.ntmps88
      go_wp2
      go_ret
      exact ⟨by simp, rfl⟩
  · cases p with
    | none =>
      have := h.none rfl
      omega
    | some a =>
      obtain ⟨b, o, sp⟩ := a
      obtain rfl : sp = none := h.spot _ rfl
      have e : cutE elP (some ⟨b, o, none⟩) f n = some ⟨b, o + f * 2, none⟩ := by simp [cutE, dropP, hn, elP]
      rw [e]
      obtain ⟨t, ht⟩ : ∃ t, f + n = t := ⟨_, rfl⟩
      rw [ht]
      have hnt : t - f = n := by omega
      have HNT : Veil _ := ⟨hnt⟩
      have hlt : f < t := by omega
      have htc : t ≤ cap := by omega
      clear hnt ht hfn hn e h
      go_enter Tryz.func88, Tryz.ntmps88
      go_wp2
      go_ret
      refine ⟨?_, rfl⟩
      rw [← HNT.out]
      first | rfl | simp

set_option maxRecDepth 20000 in
theorem ncutD_any {p : Option Addr} {len cap : Nat} (h : SlOk p len cap) (f n : Nat) (hfn : f + n ≤ len) (w : World) :
    Calls Tryz.prog 126 #[.slice p len cap, .int .i64 f, .int .i64 ((f + n : Nat) : Int)] w fun e w' => e = .returned (.slice (cutE elD p f n) n n) ∧ w = w' := by
  have hlc := h.le
  have hcap := h.few
  by_cases hn : n = 0
  · subst hn
    have e : cutE elD p f 0 = p := rfl
    rw [e, Nat.add_zero]
    rw [Nat.add_zero] at hfn
    cases p with
    | none =>
      obtain rfl : cap = 0 := h.none rfl
      obtain rfl : len = 0 := by omega
      obtain rfl : f = 0 := by omega
      clear hfn hlc h
      go_enter Tryz.func126, Tryz.ntmps126
      go_wp2
      go_ret
      exact ⟨rfl, rfl⟩
    | some a =>
      have hl0 : f ≤ cap := by omega
      clear hfn e h
      go_enter Tryz.func126, Tryz.ntmps126
      go_wp2
      go_ret
      exact ⟨by simp, rfl⟩
  · cases p with
    | none =>
      have := h.none rfl
      omega
    | some a =>
      obtain ⟨b, o, sp⟩ := a
      obtain rfl : sp = none := h.spot _ rfl
      have e : cutE elD (some ⟨b, o, none⟩) f n = some ⟨b, o + f, none⟩ := by simp [cutE, dropP, hn, elD]
      rw [e]
      obtain ⟨t, ht⟩ : ∃ t, f + n = t := ⟨_, rfl⟩
      rw [ht]
      have hnt : t - f = n := by omega
      have HNT : Veil _ := ⟨hnt⟩
      have hlt : f < t := by omega
      have htc : t ≤ cap := by omega
      clear hnt ht hfn hn e h
      go_enter Tryz.func126, Tryz.ntmps126
      go_wp2
      go_ret
      refine ⟨?_, rfl⟩
      rw [← HNT.out]
      first | rfl | simp

def tsz (T : List (List UInt8)) : Nat := (T.map fun s => s.length + 1).sum
theorem tsz_take (T : List (List UInt8)) (k : Nat) (h : k < T.length) : tsz (T.take (k + 1)) = tsz (T.take k) + ((T.getD k []).length + 1) := by
  have e : T.take (k + 1) = T.take k ++ [T.getD k []] := by
    rw [List.take_add_one]; simp [List.getD, h]
  rw [e]; simp [tsz]
theorem tsz_le : ∀ (T : List (List UInt8)), (∀ s ∈ T, s.length ≤ 1000000) → tsz T ≤ T.length * 1000001
  | [], _ => by simp [tsz]
  | s :: r, h => by
    have h1 := tsz_le r fun x hx => h x (List.mem_cons_of_mem _ hx)
    have h2 := h s List.mem_cons_self
    simp only [tsz, List.map_cons, List.sum_cons, List.length_cons] at h1 ⊢
    omega
theorem Els.text {w : World} {p : Option Addr} {L : List (List UInt8)} (h : Els elK w p L) (hne : L ≠ []) : ∃ b o, p = some ⟨b, o, none⟩ ∧ ∀ i, i < L.length → w.cell? ⟨b, o + i, none⟩ = some (.string ⟨(L.getD i []).toArray⟩) := by
  obtain ⟨b, o, hp, hc⟩ := h hne
  exact ⟨b, o, hp, fun i hi => by have := hc i 0 hi (by decide); rwa [show o + i * elK.z + 0 = o + i from by show o + i * 1 + 0 = o + i; omega] at this⟩

set_option maxRecDepth 20000 in
set_option maxHeartbeats 1000000 in
theorem textsize_of {w : World} {p : Option Addr} {T : List (List UInt8)} (h : Els elK w p T) (cap : Nat) (hT : ∀ s ∈ T, s.length ≤ 1000000) (hl : T.length ≤ 10) :
    Calls Tryz.prog 140 #[.slice p T.length cap] w fun e w' => e = .returned (.int .i64 (tsz T)) ∧ ∃ n, w' = w.drewN n := by
  have HT : Veil _ := ⟨hT⟩
  have HH : Veil _ := ⟨h⟩
  clear hT h
  go_enter Tryz.func140, Tryz.ntmps140
  go_wp2
  go_loopw [3, 8] (fun s i wr => ∃ k : Nat, k ≤ T.length ∧ i = .int .i64 k ∧ s = .int .i64 (tsz (T.take k)) ∧ w = wr) (fun _ i _ => T.length - (intOf i).toNat)
  case atStart => exact ⟨0, Nat.zero_le _, rfl, by simp [tsz], rfl⟩
  case round =>
    obtain ⟨k, hk, rfl, rfl, rfl⟩ := hrel
    by_cases hlt : k < T.length
    · obtain ⟨b, o, rfl, hc⟩ := HH.out.text (by rintro rfl; simp at hlt)
      have c1 := hc k hlt
      have hs := HT.out _ (getD_mem hlt [])
      have HTK : Veil _ := ⟨tsz_take T k hlt⟩
      have hb : tsz (T.take k) ≤ 10 * 1000001 := Nat.le_trans (tsz_le _ fun s hs => HT.out s (List.mem_of_mem_take hs)) (Nat.mul_le_mul_right _ (by simp; omega))
      clear hc
      revert c1 hs HTK hb
      generalize T.getD k [] = s
      generalize tsz (T.take k) = m
      intro c1 hs HTK hb
      go_wp2
      refine ⟨⟨k + 1, by omega, by go_num, by rw [HTK.out]; first | rfl | go_num, by first | rfl | trivial⟩, ?_⟩
      simp only [intOf]; omega
    · obtain rfl : k = T.length := by omega
      have e : tsz (T.take T.length) = tsz T := by rw [List.take_length]
      rw [e]
      clear e
      go_wp2
      go_ret
      exact ⟨rfl, 0, World.drewN_zero _⟩

theorem NdAt.pkLt {w : World} {n : Nd} {a : NdP} (h : NdAt w n a) (hne : n.ks ≠ []) : ∀ y, a.pk = some y → y.block < w.heap.size := fun y hy => by
  obtain ⟨b, o, hb, hc⟩ := h.k.text hne
  rw [hb] at hy
  cases hy
  exact World.block_lt_of_cell? w _ (hc 0 (List.length_pos_iff.2 hne))
def Nd.ahead (n : Nd) (at' : Nat) : List (List UInt8) := if at' = 0 ∨ n.ks.length = 0 then [] else [n.ks.getD (at' - 1) []]
theorem Nd.ahead_len (n : Nd) (i : Nat) : (n.ahead i).length ≤ 1 := by unfold Nd.ahead; split <;> simp
theorem Nd.ahead_mem {n : Nd} {i : Nat} (hi : n.ks.length = 0 ∨ i ≤ n.ks.length) (h : ∀ s ∈ n.ks, s.length ≤ 1000000) : ∀ s ∈ n.ahead i, s.length ≤ 1000000 := fun s hs => by
  unfold Nd.ahead at hs
  split at hs
  · simp at hs
  · rw [List.mem_singleton] at hs; subst hs; exact h _ (getD_mem (by omega) [])

set_option maxRecDepth 20000 in
set_option maxHeartbeats 1000000 in
theorem ahead_of {w : World} {n : Nd} {a : NdP} (h : NdAt w n a) (hf : SlOk a.pk n.ks.length a.ck) (hk : n.ks.length ≤ 100000) (i : Nat) (hi : n.ks.length = 0 ∨ i ≤ n.ks.length) (hi2 : i ≤ 100000) :
    Calls Tryz.prog 128 #[n.v a, .int .i64 i] w fun e w' => ∃ p c, e = .returned (.slice p (n.ahead i).length c) ∧ Els elK w' p (n.ahead i) ∧ (∀ x, p = some x → n.ks ≠ [] ∧ ∃ y, a.pk = some y ∧ y.block = x.block) ∧ Below w.heap.size w w' := by
  have HB : Veil _ := ⟨NdBox.new h⟩
  obtain ⟨W1, hW1⟩ : ∃ W1, w.alloc (.cells #[.slice a.pp n.ps.length a.cp, .slice a.pk n.ks.length a.ck, .slice a.pd n.ds.length a.cd] 92) = W1 := ⟨_, rfl⟩
  rw [hW1] at HB
  obtain ⟨a0, a1, a2⟩ := HB.out.cells
  have HFT : Veil _ := ⟨hf⟩
  have HH : Veil _ := ⟨h⟩
  clear h hf
  unfold Nd.v Nd.ahead
  by_cases h0 : i = 0
  · subst h0
    simp only [true_or, if_true, List.length_nil]
    go_enter Tryz.func128, Tryz.ntmps128
    go_wp2
    go_ret
    exact ⟨none, 0, rfl, Els.nil _ _, fun _ hx => (by cases hx), HB.out.x⟩
  · have h0b : ((i : Int) == 0) = false := by rw [beq_eq_false_iff_ne]; omega
    by_cases hk0 : n.ks.length = 0
    · rw [if_pos (Or.inr hk0)]
      have hkb : ((n.ks.length : Int) == 0) = true := by rw [beq_iff_eq]; omega
      clear h0 hk0
      go_enter Tryz.func128, Tryz.ntmps128
      go_wp2
      go_ret
      exact ⟨none, 0, rfl, Els.nil _ _, fun _ hx => (by cases hx), HB.out.x⟩
    · rw [if_neg (by omega)]
      have hkb : ((n.ks.length : Int) == 0) = false := by rw [beq_eq_false_iff_ne]; omega
      obtain ⟨j, rfl⟩ : ∃ j, i = j + 1 := ⟨i - 1, by omega⟩
      have ej : ((j + 1 : Nat) : Int) - 1 = (j : Int) := by omega
      have HC : Veil (∀ w, Calls Tryz.prog 125 #[.slice a.pk n.ks.length a.ck, .int .i64 j, .int .i64 ((j + 1 : Nat) : Int)] w fun e w' => e = .returned (.slice (cutE elK a.pk j 1) (1 : Nat) (1 : Nat)) ∧ w = w') := ⟨fun w => ncutK_any HFT.out j 1 (by omega) w⟩
      have HJL : Veil (j < n.ks.length) := ⟨by omega⟩
      clear h0 hk0
      go_enter Tryz.func128, Tryz.ntmps128
      go_wp2_with (go_at_call 125; refine (HC.out _).mono ?_; rintro e w2 ⟨rfl, rfl⟩)
      go_ret
      refine ⟨_, 1, rfl, ?_, fun x hx => ?_, HB.out.x⟩
      rotate_left
      · obtain ⟨b, o, hb, hc⟩ := HH.out.k.text (by intro e; have := HJL.out; simp [e] at this)
        rw [hb] at hx
        simp only [cutE, dropP, Nat.one_ne_zero, if_false, Option.map_some, Option.some.injEq] at hx
        subst hx
        exact ⟨fun e => (by have := HJL.out; simp [e] at this), _, hb, rfl⟩
      have := HB.out.s.k.cut j 1
      have e1 : (n.ks.drop j).take 1 = [n.ks.getD (j + 1 - 1) []] := by
        have e2 : n.ks.drop j = n.ks.getD j [] :: n.ks.drop (j + 1) := by rw [List.drop_eq_getElem_cons HJL.out, List.getD, List.getElem?_eq_getElem HJL.out]; rfl
        rw [Nat.add_sub_cancel, e2]; rfl
      rwa [e1] at this
end Go.Proofs.YtokbmimbbeedcaaGreatDoor

/- The iterator over a node's parts; the walk of Size. -/
namespace Go.Proofs.YtokbmimbbeedcaaGreatDoor
open Go Go.RowKit Sm
attribute [local go_sem] Oper.semAt_some

theorem calls_wide6 {P : Program} {f : FuncId} {args : Array Value} {w : World} {R : Ending → World → Prop} {n : Nat} (h : Calls P f args w R) : Fence.wide.fn f ∧ CallsIn Fence.wide n P f args w R :=
  ⟨trivial, (callsIn_wide (n := n)).2 h⟩
theorem below_drewN6 {w w' : World} (h : ∃ n, w' = w.drewN n) : Below w.heap.size w w' := by obtain ⟨n, rfl⟩ := h; exact bn_drewN n (Below.refl _ _)
def Nd.part (n : Nd) (k : Nat) : Nat := if k < n.ps.length then tsz [(n.ps.getD k Pr.zero).k, (n.ps.getD k Pr.zero).v] else tsz (n.ahead k) + 4
def handsQ (n : Nd) (k : Nat) : Array Value := #[.int .i64 k, .int .i64 (n.part k)]
theorem parts_any (n : Nd) (a : NdP) (w : World) : Calls Tryz.prog 109 #[n.v a] w fun e w' => e = .returned (.func (.func 139) #[] #[.pointer (some ⟨w.heap.size, 0, none⟩)]) ∧ w.alloc (.cells #[.slice a.pp n.ps.length a.cp, .slice a.pk n.ks.length a.ck, .slice a.pd n.ds.length a.cd] 92) = w' := by
  unfold Nd.v
  go_enter Tryz.func109, Tryz.ntmps109
  go_wp2
  go_ret
  exact ⟨rfl, rfl⟩
theorem partsN_of {w : World} {n : Nd} {a : NdP} (h : NdAt w n a) : Calls Tryz.prog 109 #[n.v a] w fun e w' => ∃ Bx, e = .returned (.func (.func 139) #[] #[.pointer (some ⟨Bx, 0, none⟩)]) ∧ ReadsN Bx n a w' ∧ Below w.heap.size w w' :=
  (parts_any n a w).mono fun e w' ⟨h1, h2⟩ => ⟨w.heap.size, h1, by rw [← h2]; exact ⟨heap_alloc_new _ _, h.below (below_al (Below.refl _ _) _)⟩, by rw [← h2]; exact below_al (Below.refl _ _) _⟩

set_option maxRecDepth 20000 in
set_option maxHeartbeats 2000000 in
theorem parts_seq (Bx : Nat) (n : Nd) (a : NdP) (hok : Veil n.Ok) (hf : SlOk a.pk n.ks.length a.ck) (hx : n.ps.length = 0 ∨ n.ds.length = 0) (hkd : n.ds.length = 0 ∨ n.ks.length + 1 = n.ds.length) :
    Seq Tryz.prog 139 #[.pointer (some ⟨Bx, 0, none⟩)] (handsQ n) (n.ps.length + n.ds.length) (ReadsN Bx n a) := by
  intro l m J Jx W hJ hJx hF hY h0
  obtain ⟨a0, a1, a2⟩ := (hF 0 W h0).cells
  have HPP : Veil (∀ k, k < n.ps.length → n.part k = tsz [(n.ps.getD k Pr.zero).k, (n.ps.getD k Pr.zero).v]) := ⟨fun k hk => by rw [Nd.part, if_pos hk]⟩
  have HPD : Veil (∀ k, k < n.ds.length → n.part (n.ps.length + k) = tsz (n.ahead k) + 4 ∧ n.ps.length + k = k) := ⟨fun k hk => by
    have : n.ps.length + k = k := by omega
    rw [this, Nd.part, if_neg (by omega)]
    exact ⟨rfl, rfl⟩⟩
  have HF : Veil _ := ⟨hF⟩
  have HY : Veil _ := ⟨hY⟩
  have HJ : Veil _ := ⟨hJ⟩
  have hP : n.ps.length ≤ 100000 := hok.out.p
  have hD : n.ds.length ≤ 100000 := hok.out.d
  have hK : n.ks.length ≤ 100000 := hok.out.k
  have HAh : Veil (∀ k, k < n.ds.length → ∀ W, NdAt W n a → Calls Tryz.prog 128 #[n.v a, .int .i64 k] W fun e w' => ∃ p c, e = .returned (.slice p (n.ahead k).length c) ∧ Els elK w' p (n.ahead k) ∧ (∀ x, p = some x → n.ks ≠ [] ∧ ∃ y, a.pk = some y ∧ y.block = x.block) ∧ Below W.heap.size W w') := ⟨fun k hk W h => ahead_of h hf hK k (by omega) (by omega)⟩
  have HTs : Veil (∀ k, k < n.ds.length → (∀ s ∈ n.ahead k, s.length ≤ 1000000) ∧ (n.ahead k).length ≤ 1) := ⟨fun k hk => ⟨Nd.ahead_mem (by omega) hok.out.kt, n.ahead_len k⟩⟩
  clear hF hY hJ hJx
  unfold handsQ at HY
  revert HPP HPD HY
  generalize hpe : n.part = part
  intro HPP HPD HY
  clear hpe
  have HPT : Veil _ := ⟨hok.out.pt⟩
  clear hf hx hkd hok
  refine callsIn_of_wp Tryz.func139 rfl trivial ?_
  simp only [Tryz.ntmps139, List.size_toArray, List.length_cons, List.length_nil, Nat.reduceAdd, Nat.reduceSub, Array.replicate_succ, Array.replicate_zero, List.push_toArray, List.append_toArray, List.nil_append, List.cons_append]
  gi_wp2
  clear a0 a1 a2
  gi_loopw [9] (fun i wr => ∃ k : Nat, k ≤ n.ps.length ∧ i = .int .i64 k ∧ J k wr) (fun i _ => n.ps.length - (intOf i).toNat)
  case atStart => exact ⟨0, Nat.zero_le _, rfl, h0⟩
  case round =>
    obtain ⟨k, hk, rfl, hj⟩ := hrel
    have HRN : Veil _ := ⟨HF.out k wr hj⟩
    have HJ1 : Veil _ := ⟨hj⟩
    clear hj
    by_cases hlt : k < n.ps.length
    · obtain ⟨b, o, hpe, hc⟩ := HRN.out.s.pair (by rintro he; simp [he] at hlt)
      rw [hpe]
      clear hpe
      obtain ⟨c1, c2⟩ := hc k hlt
      have hYk : Veil (∀ A, J k A → YieldAt Fence.wide m Tryz.prog l #[.int .i64 k, .int .i64 (part k)] A fun e A' => (e = .returned (.bool true) ∧ J (k + 1) A') ∨ (e = .returned (.bool false) ∧ Jx k A')) := ⟨fun A hA => HY.out k A (by omega) hA⟩
      rw [HPP.out k hlt] at hYk
      obtain ⟨hp1, hp2⟩ := HPT.out _ (getD_mem hlt Pr.zero)
      clear hc
      revert c1 c2 hYk hp1 hp2
      generalize n.ps.getD k Pr.zero = s
      obtain ⟨sk, sv⟩ := s
      dsimp only
      intro c1 c2 hYk hp1 hp2
      obtain ⟨W4, hW4⟩ : ∃ W4, wr.alloc (.cells #[.string ⟨sk.toArray⟩, .string ⟨sv.toArray⟩] 37) = W4 := ⟨_, rfl⟩
      obtain ⟨W5, hW5⟩ : ∃ W5, W4.alloc (.cells #[.string ⟨sk.toArray⟩, .string ⟨sv.toArray⟩] 9) = W5 := ⟨_, rfl⟩
      have HB4 : Veil (Below wr.heap.size wr W4) := ⟨by rw [← hW4]; exact below_al (Below.refl _ _) _⟩
      have HB5 : Veil (Below W4.heap.size W4 W5) := ⟨by rw [← hW5]; exact below_al (Below.refl _ _) _⟩
      have HE : Veil (Els elK W5 (some ⟨W4.heap.size, 0, none⟩) [sk, sv]) := ⟨els_of_block (cur := #[.string ⟨sk.toArray⟩, .string ⟨sv.toArray⟩]) (t := 9) (fr := (0, 0)) (by rw [← hW5]; exact heap_alloc_new _ _) (by rfl)⟩
      have HTx : Veil (Calls Tryz.prog 140 #[.slice (some ⟨W4.heap.size, 0, none⟩) (2 : Nat) (2 : Nat)] W5 fun e w' => e = .returned (.int .i64 (tsz [sk, sv])) ∧ ∃ n, w' = W5.drewN n) := ⟨textsize_of HE.out 2 (by intro s hs; simp at hs; rcases hs with rfl | rfl <;> assumption) (by simp)⟩
      have h4 : W4.heap[wr.heap.size]? = some (.cells [.string ⟨sk.toArray⟩, .string ⟨sv.toArray⟩].toArray 37 (0, 0)) := by rw [← hW4]; exact heap_alloc_new _ _
      have d1 : W4.cell? ⟨wr.heap.size, 0, none⟩ = some (.string ⟨sk.toArray⟩) := cell_whole h4 0
      have d2 : W4.cell? ⟨wr.heap.size, 1, none⟩ = some (.string ⟨sv.toArray⟩) := cell_whole h4 1
      clear h4
      generalize tsz [sk, sv] = ts at *
      gi_wp2_with (refine calls_wide6 ?_; refine HTx.out.mono ?_; rintro e w3 ⟨rfl, hd3⟩; obtain ⟨fn, tmps, assign, body, hy, hR⟩ := hYk.out w3 (HJ.out k wr w3 HJ1.out (bn_then (bn_then HB4.out HB5.out) (below_drewN6 hd3))))
      refine hR.mono ?_
      rintro e W3 (⟨rfl, hj'⟩ | ⟨rfl, hjx⟩)
      · gi_wp2
        go_roundw
        case rel => exact ⟨k + 1, by omega, by go_num, hj'⟩
        case measure => simp [intOf]; omega
      · gi_wp2
        refine bodyPost_ret (results_none rfl _ _ _) rfl ?_
        exact ⟨⟨_, rfl⟩, .inr ⟨k, by omega, hjx⟩⟩
    · obtain rfl : k = n.ps.length := by omega
      obtain ⟨a0, a1, a2⟩ := HRN.out.cells
      clear HRN hk hlt
      gi_wp2
      clear a0 a1 a2
      gi_loopw [28] (fun i wr => ∃ k : Nat, k ≤ n.ds.length ∧ i = .int .i64 k ∧ J (n.ps.length + k) wr) (fun i _ => n.ds.length - (intOf i).toNat)
      case atStart => exact ⟨0, Nat.zero_le _, rfl, HJ1.out⟩
      case round =>
        obtain ⟨k, hk, rfl, hj⟩ := hrel
        have HRN : Veil _ := ⟨HF.out _ wr hj⟩
        have HJ2 : Veil _ := ⟨hj⟩
        clear hj
        by_cases hlt : k < n.ds.length
        · obtain ⟨a0, a1, a2⟩ := HRN.out.cells
          obtain ⟨e1, e2⟩ := HPD.out k hlt
          have hYk : Veil (∀ A, J (n.ps.length + k) A → YieldAt Fence.wide m Tryz.prog l #[.int .i64 ((n.ps.length + k : Nat) : Int), .int .i64 (part (n.ps.length + k))] A fun e A' => (e = .returned (.bool true) ∧ J (n.ps.length + k + 1) A') ∨ (e = .returned (.bool false) ∧ Jx (n.ps.length + k) A')) := ⟨fun A hA => HY.out _ A (by omega) hA⟩
          have e3 : ((tsz (n.ahead k) + 4 : Nat) : Int) = (tsz (n.ahead k) : Int) + 4 := by omega
          rw [e1, e2, e3] at hYk
          have HE2 : Veil _ := ⟨e2⟩
          clear e1 e2 e3
          obtain ⟨ht1, ht2⟩ := HTs.out k hlt
          have hb : tsz (n.ahead k) ≤ 1 * 1000001 := Nat.le_trans (tsz_le _ ht1) (Nat.mul_le_mul_right _ ht2)
          have HA : Veil (∀ W, NdAt W n a → Calls Tryz.prog 128 #[n.v a, .int .i64 k] W fun e w' => ∃ p c, e = .returned (.slice p (n.ahead k).length c) ∧ Els elK w' p (n.ahead k) ∧ (∀ x, p = some x → n.ks ≠ [] ∧ ∃ y, a.pk = some y ∧ y.block = x.block) ∧ Below W.heap.size W w') := ⟨HAh.out k hlt⟩
          have HTx : Veil (∀ W p c, Els elK W p (n.ahead k) → Calls Tryz.prog 140 #[.slice p (n.ahead k).length c] W fun e w' => e = .returned (.int .i64 (tsz (n.ahead k))) ∧ ∃ n, w' = W.drewN n) := ⟨fun W p c h => textsize_of h c ht1 (by omega)⟩
          clear ht1 ht2
          unfold Nd.v at HA
          revert HA HTx hb hYk
          generalize n.ahead k = T
          generalize tsz T = ts
          intro hYk hb HA HTx
          gi_wp2_with (first
            | (refine calls_wide6 ?_; refine (HTx.out _ _ _ HEL.out).mono ?_; rintro e w3 ⟨rfl, hd3⟩; obtain ⟨fn, tmps, assign, body, hy, hR⟩ := hYk.out w3 (HJ.out _ wr w3 (HE2.out ▸ HJ2.out) (bn_then HB2.out (below_drewN6 hd3))))
            | (refine calls_wide6 ?_; refine (HA.out _ HRN.out.s).mono ?_; rintro e w2 ⟨pq, cq, rfl, hel, -, hb2⟩; have HEL : Veil _ := ⟨hel⟩; have HB2 : Veil _ := ⟨hb2⟩; clear hel hb2))
          refine hR.mono ?_
          rintro e W3 (⟨rfl, hj'⟩ | ⟨rfl, hjx⟩)
          · gi_wp2
            go_roundw
            case rel => exact ⟨k + 1, by omega, by go_num, by rw [← Nat.add_assoc, HE2.out]; exact hj'⟩
            case measure => simp [intOf]; omega
          · gi_wp2
            refine bodyPost_ret (results_none rfl _ _ _) rfl ?_
            exact ⟨⟨_, rfl⟩, .inr ⟨k, by omega, hjx⟩⟩
        · obtain rfl : k = n.ds.length := by omega
          gi_wp2
          go_end0
          exact ⟨⟨_, rfl⟩, .inl HJ2.out⟩
end Go.Proofs.YtokbmimbbeedcaaGreatDoor

/- The walk of Place. -/
namespace Go.Proofs.YtokbmimbbeedcaaGreatDoor
open Go Go.RowKit Sm
attribute [local go_sem] Oper.semAt_some

theorem results_int6a {fn : Func} {p : Tmp} {tmps : Array Value} {w : World} {x : Value} (h : fn.results = #[.tmp p]) (hp : tmps.getD p undef = x) : (results fn tmps).run Tryz.prog w = .ok x w := by
  rw [results_tmp h]
  simpa using hp
theorem ReadsN.aside {Bx : Nat} {n : Nd} {a : NdP} {w W W' : World} (h : ReadsN Bx n a W) (hn : NdAt w n a) {F : Nat → Prop} (ht : Turned F W W') (hF : ∀ k, F k → w.heap.size ≤ k) (hB : ¬ F Bx) : ReadsN Bx n a W' :=
  ⟨ht.heap h.b hB, h.s.turned ht hF hn⟩
/-- A key that stands ahead of the place. -/
def passK (KS : List (List UInt8)) (key : List UInt8) (b : Bool) (i : Nat) : Bool := lessB (KS.getD i []) key || (KS.getD i [] == key && b)
/-- So many hold, and the next one does not. -/
def IsLead (f : Nat → Bool) (N L : Nat) : Prop := L ≤ N ∧ (∀ i, i < L → f i = true) ∧ (L < N → f L = false)
theorem cnt_lead {f : Nat → Bool} {L : Nat} (h1 : ∀ i, i < L → f i = true) : ∀ N, L ≤ N → (∀ i, L ≤ i → i < N → f i = false) → cnt f N = L
  | 0, hN, _ => by simp only [cnt]; omega
  | N + 1, hN, h2 => by
    by_cases h : L = N + 1
    · subst h
      have : ∀ k, k ≤ N + 1 → cnt f k = k := by
        intro k
        induction k with
        | zero => intro _; rfl
        | succ k ih =>
          intro hk
          rw [cnt, ih (by omega), if_pos (h1 k (by omega))]
      exact this _ (Nat.le_refl _)
    · rw [cnt, cnt_lead h1 N (by omega) (fun i hi hl => h2 i hi (by omega)), if_neg (by rw [h2 N (by omega) (by omega)]; simp)]
      rfl
theorem rise_lt {KS : List (List UInt8)} (h : riseL KS = true) : ∀ (j i : Nat), i < j → j < KS.length → lessB (KS.getD i []) (KS.getD j []) = true := by
  intro j
  induction j with
  | zero => intro i hi; omega
  | succ j ih =>
    intro i hi hj
    have h1 := (riseL_iff KS).1 h (j + 1) hj
    simp only [goodAt, Bool.and_eq_true, decide_eq_true_eq] at h1
    have h2 := h1.1
    rw [prevK, if_neg (by omega), Nat.add_sub_cancel] at h2
    rcases Nat.lt_or_eq_of_le (Nat.le_of_lt_succ hi) with h3 | h3
    · exact lessB_trans _ _ _ (ih i h3 (by omega)) h2
    · rw [h3]; exact h2
theorem Nd.right_rise {n : Nd} (h : n.right = true) : riseL n.keys = true := by
  rcases Bool.or_eq_true_iff.1 h with h | h
  · rw [n.leaf_eq, Bool.and_eq_true] at h; exact h.2
  · rw [n.branch_eq, Bool.and_eq_true] at h; exact h.2
theorem less_le {a b : List UInt8} (h : lessB a b = false) : a = b ∨ lessB b a = true := by
  by_cases e : a = b
  · exact .inl e
  · exact .inr (lessB_total a b h e)
theorem place_lead {n : Nd} {key : List UInt8} {L : Nat} (hr : n.right = true) (h : IsLead (passK n.keys key (decide (n.kind = 2))) (n.ps.length + n.ks.length) L) : n.place key = L := by
  obtain ⟨h1, h2, h3⟩ := h
  have hrise := Nd.right_rise hr
  rw [Nd.place, if_pos hr]
  rcases Bool.or_eq_true_iff.1 hr with hl | hb
  · have hs := (n.leaf_iff.1 hl).1
    have hk : n.kind = 1 := by rw [Nd.kind, if_pos hs.2.1]
    rw [hs.1, Nat.add_zero] at h1 h3
    rw [hs.1, cnt, Nat.add_zero]
    rw [hk] at h2 h3
    have e : ∀ i, i < n.ps.length → lessP n key i = passK n.keys key false i := fun i hi => by
      rw [lessP, passK, keys_getP hi]; simp
    refine cnt_lead (fun i hi => by rw [e i (by omega)]; exact h2 i hi) _ h1 (fun i hi hlt => ?_)
    have h4 := h3 (by omega)
    simp only [passK, Bool.or_eq_false_iff] at h4
    rw [lessP, ← keys_getP hlt]
    rcases Nat.lt_or_eq_of_le hi with h5 | h5
    · have h6 := rise_lt hrise i L h5 (by rw [keys_len]; omega)
      rcases less_le h4.1 with h7 | h7
      · rw [h7] at h6; exact lessB_asymm h6
      · exact lessB_asymm (lessB_trans _ _ _ h7 h6)
    · rw [← h5]; exact h4.1
  · have hs := (n.branch_iff.1 hb).1
    have hk : n.kind = 2 := by rw [Nd.kind, if_neg (by omega)]
    have hps : n.ps = [] := List.eq_nil_of_length_eq_zero hs.1
    rw [hs.1, Nat.zero_add] at h1 h3
    rw [hs.1, cnt, Nat.zero_add]
    rw [hk] at h2 h3
    have hkeys : n.keys = n.ks := by rw [Nd.keys, hps]; rfl
    rw [hkeys] at h2 h3 hrise
    have e : ∀ i, mostK n key i = passK n.ks key true i := fun i => by
      rw [mostK, passK, Bool.and_true]
      cases h8 : lessB key (n.ks.getD i []) with
      | true => rw [lessB_asymm h8, Bool.false_or, Bool.not_true, eq_comm, beq_eq_false_iff_ne]; intro e; rw [e, lessB_irrefl] at h8; cases h8
      | false =>
        rcases less_le h8 with h9 | h9
        · rw [← h9]; simp
        · rw [h9]; rfl
    refine cnt_lead (fun i hi => by rw [e i]; exact h2 i hi) _ h1 (fun i hi hlt => ?_)
    have h4 := h3 (by omega)
    have h5 : passK n.ks key true L = false := h4
    rw [← e L] at h5
    simp only [mostK, Bool.not_eq_false'] at h5
    simp only [mostK, Bool.not_eq_false']
    rcases Nat.lt_or_eq_of_le hi with h6 | h6
    · exact lessB_trans _ _ _ h5 (rise_lt hrise i L h6 hlt)
    · rw [← h6]; exact h5

/-- Two boxes of numbers, made one behind the other, then filled. -/
theorem two_int (w3 : World) (x y : Value) : ∃ w4 w5 w6 w7, w3.alloc (.cells #[.int .i64 0] 3) = w4 ∧ w4.alloc (.cells #[.int .i64 0] 3) = w5 ∧ w5.setCell ⟨w3.heap.size, 0, none⟩ x = w6 ∧ w6.setCell ⟨w4.heap.size, 0, none⟩ y = w7 ∧
    (w5.cell? ⟨w3.heap.size, 0, none⟩ = some (.int .i64 0) ∧ w5.frozen? ⟨w3.heap.size, 0, none⟩ = false) ∧ (w6.cell? ⟨w4.heap.size, 0, none⟩ = some (.int .i64 0) ∧ w6.frozen? ⟨w4.heap.size, 0, none⟩ = false) ∧
    Veil (w7.heap[w3.heap.size]? = some (.cells #[x] 3 (0, 0)) ∧ w7.heap[w4.heap.size]? = some (.cells #[y] 3 (0, 0)) ∧ Below w3.heap.size w3 w7 ∧ w4.heap.size = w3.heap.size + 1) := by
  refine ⟨_, _, _, _, rfl, rfl, rfl, rfl, ?_⟩
  obtain ⟨w4, h4⟩ : ∃ w4, w3.alloc (.cells #[.int .i64 0] 3) = w4 := ⟨_, rfl⟩
  rw [h4]
  obtain ⟨w5, h5⟩ : ∃ w5, w4.alloc (.cells #[.int .i64 0] 3) = w5 := ⟨_, rfl⟩
  rw [h5]
  have b4 : w4.heap[w3.heap.size]? = some (.cells #[.int .i64 0] 3 (0, 0)) := by rw [← h4]; exact heap_alloc_new _ _
  have hb5 : Below w4.heap.size w4 w5 := by rw [← h5]; exact below_al (Below.refl _ _) _
  have hb4 : Below w3.heap.size w3 w4 := by rw [← h4]; exact below_al (Below.refl _ _) _
  have hz : w4.heap.size = w3.heap.size + 1 := by rw [← h4]; simp
  have b5 : w5.heap[w3.heap.size]? = some (.cells #[.int .i64 0] 3 (0, 0)) := (hb5.block _ (lt_of_heap b4)).trans b4
  have d5 : w5.heap[w4.heap.size]? = some (.cells #[.int .i64 0] 3 (0, 0)) := by rw [← h5]; exact heap_alloc_new _ _
  have t6 : Turned (fun k => k = w3.heap.size) w5 (w5.setCell ⟨w3.heap.size, 0, none⟩ x) := (Turned.refl (fun k => k = w3.heap.size) w5).setCell (p := ⟨w3.heap.size, 0, none⟩) rfl x
  have b6 : (w5.setCell ⟨w3.heap.size, 0, none⟩ x).heap[w3.heap.size]? = some (.cells #[x] 3 (0, 0)) := heap_setCell_at b5 0 x
  have d6 := t6.heap d5 (by omega)
  have t7 : Turned (fun k => k = w4.heap.size) (w5.setCell ⟨w3.heap.size, 0, none⟩ x) ((w5.setCell ⟨w3.heap.size, 0, none⟩ x).setCell ⟨w4.heap.size, 0, none⟩ y) := (Turned.refl (fun k => k = w4.heap.size) _).setCell (p := ⟨w4.heap.size, 0, none⟩) rfl y
  have b35 : Below w3.heap.size w3 w5 := hb4.trans (hb5.mono (by omega))
  refine ⟨⟨cell_row6 b5, frozen_whole b5 _⟩, ⟨cell_row6 d6, frozen_whole d6 _⟩, ⟨t7.heap b6 (by omega), heap_setCell_at d6 0 y, ?_, hz⟩⟩
  exact (b35.trans (t6.toBelow b35.size (fun k _ e => by omega))).trans (t7.toBelow (Nat.le_trans b35.size t6.size) (fun k _ e => by omega))

/-- Between two rounds: the key's box, the place's, the kind's, the iterator's. -/
structure PlcI (w : World) (B1 B2 B3 Bx : Nat) (n : Nd) (a : NdP) (key : List UInt8) (kd at' : Nat) (A : World) : Prop where
  kb : A.heap[B1]? = some (.cells #[.string ⟨key.toArray⟩] 9 (0, 0))
  p : A.heap[B2]? = some (.cells #[.int .i64 at'] 3 (0, 0))
  kd : A.heap[B3]? = some (.cells #[.int .i64 kd] 3 (0, 0))
  x : ReadsN Bx n a A
  t : Turned (fun _ => False) w A
theorem PlcI.booked {w : World} {B1 B2 B3 Bx : Nat} {n : Nd} {a : NdP} {key : List UInt8} {kd at' : Nat} {A A' : World} {C : Nat} (h : PlcI w B1 B2 B3 Bx n a key kd at' A) (hb : Booked C A A') (hC : w.heap.size ≤ C) : PlcI w B1 B2 B3 Bx n a key kd at' A' :=
  ⟨hb.heap h.kb, hb.heap h.p, hb.heap h.kd, h.x.booked hb, hb.turned h.t hC⟩

set_option maxRecDepth 20000 in
set_option maxHeartbeats 4000000 in
theorem nplace_of {w : World} {n : Nd} {a : NdP} (h : NdAt w n a) (hok : Veil n.Ok) (key : List UInt8) (_hkey : key.length ≤ 1000000) :
    Calls Tryz.prog 49 #[n.v a, .string ⟨key.toArray⟩] w fun e w' => e = .returned (.int .i64 (n.place key)) ∧ Below w.heap.size w w' := by
  refine calls_of_wp_marks Tryz.func49 rfl ?_
  simp only [Tryz.ntmps49, List.size_toArray, List.length_cons, List.length_nil, Nat.reduceAdd, Nat.reduceSub, Array.replicate_succ, Array.replicate_zero, List.push_toArray, List.append_toArray, List.nil_append, List.cons_append]
  have HKd : Veil (∀ w, NdAt w n a → Calls Tryz.prog 61 #[n.v a] w fun e w' => e = .returned (.int .i64 ((if n.right then n.kind else 0 : Nat) : Int)) ∧ Below w.heap.size w w') := ⟨fun w h => kindOf_of h hok⟩
  have HKy : Veil (∀ w, NdAt w n a → Calls Tryz.prog 72 #[n.v a] w fun e w' => ∃ Bx, e = .returned (.func (.func 104) #[] #[.pointer (some ⟨Bx, 0, none⟩)]) ∧ ReadsN Bx n a w' ∧ Below w.heap.size w w') := ⟨fun w h => keysN_of h⟩
  have HSq : Veil (∀ Bx, Seq Tryz.prog 104 #[.pointer (some ⟨Bx, 0, none⟩)] (handsK n) (n.ps.length + n.ks.length) (ReadsN Bx n a)) := ⟨fun Bx => keys_seq Bx n a (Nat.le_trans hok.out.p (by omega)) (Nat.le_trans hok.out.k (by omega))⟩
  have HPL : Veil (∀ L, n.right = true → IsLead (passK n.keys key (decide (n.kind = 2))) (n.ps.length + n.ks.length) L → n.place key = L) := ⟨fun L hr h => place_lead hr h⟩
  have HP0 : Veil (n.right = false → n.place key = 0) := ⟨fun hr => by rw [Nd.place, if_neg (by simp [hr])]⟩
  have hN : n.ps.length + n.ks.length ≤ 200000 := by have := hok.out.p; have := hok.out.k; omega
  obtain ⟨hk1, hk2⟩ := n.kind_pos
  have HH : Veil _ := ⟨h⟩
  clear hok
  unfold handsK at HSq
  revert HKd HSq HPL HP0 hN hk1 hk2
  generalize n.right = r
  generalize n.kind = kd
  generalize n.keys = KS
  generalize n.place key = pl
  generalize n.ps.length + n.ks.length = N
  intro HKd HSq HPL HP0 hN hk1 hk2
  obtain ⟨W1, hW1⟩ : ∃ W1, w.alloc (.cells #[.slice a.pp n.ps.length a.cp, .slice a.pk n.ks.length a.ck, .slice a.pd n.ds.length a.cd] 92) = W1 := ⟨_, rfl⟩
  obtain ⟨W2, hW2⟩ : ∃ W2, W1.alloc (.cells #[.string ⟨key.toArray⟩] 9) = W2 := ⟨_, rfl⟩
  have hb2 : Below W1.heap.size W1 W2 := by rw [← hW2]; exact below_al (Below.refl _ _) _
  have hz1 : W1.heap.size = w.heap.size + 1 := by rw [← hW1]; simp
  have HB : Veil (NdBox w n a W2) := ⟨by have := NdBox.new h; rw [hW1] at this; exact this.below hb2⟩
  have HK2 : Veil (W2.heap[w.heap.size + 1]? = some (.cells #[.string ⟨key.toArray⟩] 9 (0, 0))) := ⟨by rw [← hz1, ← hW2]; exact heap_alloc_new _ _⟩
  obtain ⟨a0, a1, a2⟩ := HB.out.cells
  clear h hb2
  unfold Nd.v at *
  cases r
  · obtain rfl : pl = 0 := HP0.out rfl
    clear HPL HP0
    simp only [Bool.false_eq_true, if_false] at HKd
    go_wp2
    go_step3
    go_wp2_with (go_at_call 61; refine (HKd.out _ HB.out.s).mono ?_; rintro e w3 ⟨rfl, hb⟩; replace HB : Veil _ := ⟨HB.out.below hb⟩; have HK3 : Veil (w3.heap[w.heap.size + 1]? = some (.cells #[.string ⟨key.toArray⟩] 9 (0, 0))) := ⟨(hb.block _ (lt_of_heap HK2.out)).trans HK2.out⟩; obtain ⟨w4, w5, w6, w7, hw4, hw5, hw6, hw7, ⟨c5, f5⟩, ⟨c6, f6⟩, HTI⟩ := two_int w3 (.int .i64 0) (.int .i64 0); replace HB : Veil _ := ⟨HB.out.below HTI.out.2.2.1⟩; have c7 := cell_row6 HTI.out.2.1; clear hb a0 a1 a2; obtain ⟨a0, a1, a2⟩ := HB.out.cells)
    try rw [Exit.noGoto_ret]
    exact leaves_none (results_int6a rfl rfl) ⟨rfl, HB.out.x⟩
  · simp only [if_true] at HKd
    have hk0 : ((kd : Int) == 0) = false := by rw [beq_eq_false_iff_ne]; omega
    clear HP0
    go_wp2
    go_step3
    go_wp2_with (go_at_call 61; refine (HKd.out _ HB.out.s).mono ?_; rintro e w3 ⟨rfl, hb⟩; replace HB : Veil _ := ⟨HB.out.below hb⟩; have HK3 : Veil (w3.heap[w.heap.size + 1]? = some (.cells #[.string ⟨key.toArray⟩] 9 (0, 0))) := ⟨(hb.block _ (lt_of_heap HK2.out)).trans HK2.out⟩; obtain ⟨w4, w5, w6, w7, hw4, hw5, hw6, hw7, ⟨c5, f5⟩, ⟨c6, f6⟩, HTI⟩ := two_int w3 (.int .i64 0) (.int .i64 kd); replace HB : Veil _ := ⟨HB.out.below HTI.out.2.2.1⟩; have c7 := cell_row6 HTI.out.2.1; clear hb a0 a1 a2; obtain ⟨a0, a1, a2⟩ := HB.out.cells)
    obtain ⟨B1, e1⟩ : ∃ B1, w.heap.size + 1 = B1 := ⟨_, rfl⟩
    obtain ⟨B2, e2⟩ : ∃ B2, w3.heap.size = B2 := ⟨_, rfl⟩
    obtain ⟨B3, e3⟩ : ∃ B3, w4.heap.size = B3 := ⟨_, rfl⟩
    have hT := HTI.out
    rw [e2, e3] at hT
    have hk7 : w7.heap[B1]? = some (.cells #[.string ⟨key.toArray⟩] 9 (0, 0)) := by
      rw [← e1]; exact (HTI.out.2.2.1.block _ (lt_of_heap HK3.out)).trans HK3.out
    have hz3 : B1 < B2 := by have := lt_of_heap HK3.out; omega
    rw [e1, e2, e3]
    have HW : Veil (w.heap.size < B1 ∧ B1 < B2 ∧ B2 < B3) := ⟨by omega⟩
    have HT7 : Veil _ := ⟨hT⟩
    have HK7 : Veil _ := ⟨hk7⟩
    clear e1 e2 e3 hT hk7 hz3 hw4 hw5 hw6 hw7 c5 f5 c6 f6 c7 HTI HK3 HK2 hz1 hW2 hW1
    go_step3
    go_wp2_with (go_at_call 72; refine (HKy.out _ HB.out.s).mono ?_; rintro e w8 ⟨Bx, rfl, hrd, hb8⟩)
    have hI : PlcI w B1 B2 B3 Bx n a key kd 0 w8 := ⟨(hb8.block _ (lt_of_heap HK7.out)).trans HK7.out, (hb8.block _ (lt_of_heap HT7.out.1)).trans HT7.out.1, (hb8.block _ (lt_of_heap HT7.out.2.1)).trans HT7.out.2.1, hrd, Turned.new (bn_then HB.out.x hb8)⟩
    have HZ : Veil (B3 < w8.heap.size) := ⟨lt_of_heap hI.kd⟩
    have HBx : Veil (Bx ≠ B2) := ⟨fun e => by
      have h1 := hI.x.b
      rw [e, hI.p] at h1
      simp at h1⟩
    clear hrd hb8 a0 a1 a2 HB HT7 HK7 HKd HKy
    refine wp_range_break (gf := 104) (lb := #[.pointer (some ⟨Bx, 0, none⟩)]) rfl (enters_of Tryz.func104 (by kernel_rfl) rfl)
      (HSq.out Bx) (fun k => rfl)
      (fun k A => k ≤ N ∧ PlcI w B1 B2 B3 Bx n a key kd k A ∧ ∀ i, i < k → passK KS key (decide (kd = 2)) i = true)
      (fun A => ∃ L, IsLead (passK KS key (decide (kd = 2))) N L ∧ PlcI w B1 B2 B3 Bx n a key kd L A) ?hI ?hE ?hF ?h0 ?hN ?hround ?hend
    case hI => rintro k A A' ⟨h0, h1, h3⟩ hb; exact ⟨h0, h1.booked hb (by have := HW.out; have := HZ.out; omega), h3⟩
    case hE => rintro A A' ⟨L, h0, h1⟩ hb; exact ⟨L, h0, h1.booked hb (by have := HW.out; have := HZ.out; omega)⟩
    case hF => rintro k A ⟨_, h, _⟩; exact h.x
    case h0 => exact ⟨Nat.zero_le _, hI, fun i hi => absurd hi (by omega)⟩
    case hN => rintro A ⟨_, h1, h3⟩; exact ⟨N, ⟨Nat.le_refl _, h3, fun h => absurd h (by omega)⟩, h1⟩
    case hround =>
      rintro l m k A hl2 hlt ⟨hk0', hi, hr⟩
      simp only [List.zip_cons_cons, List.zip_nil_right, List.foldl_cons, List.foldl_nil, List.setIfInBounds_toArray, List.set_cons_succ, List.set_cons_zero]
      have HR : Veil _ := ⟨hr⟩
      have HI1 : Veil _ := ⟨hi⟩
      have HG : Veil (passK KS key (decide (kd = 2)) k = (lessB (KS.getD k []) key || (KS.getD k [] == key && decide (kd = 2)))) := ⟨rfl⟩
      have HGN : Veil (passK KS key (decide (kd = 2)) k = true → ∀ i, i < k + 1 → passK KS key (decide (kd = 2)) i = true) := ⟨fun ht i hi => by
        rcases Nat.lt_or_eq_of_le (Nat.le_of_lt_succ hi) with h | h
        · exact HR.out i h
        · rw [h]; exact ht⟩
      have HGF : Veil (passK KS key (decide (kd = 2)) k = false → IsLead (passK KS key (decide (kd = 2))) N k) := ⟨fun hf => ⟨hk0', HR.out, fun _ => hf⟩⟩
      clear hI hr hi
      revert HG
      generalize KS.getD k [] = s
      intro HG
      gi_wp2
      refine ⟨KeepsFrom.refl _ _, fun A2 hbk hsz => ?_⟩
      have HI2 : Veil _ := ⟨HI1.out.booked hbk (by have := HW.out; have := HZ.out; omega)⟩
      clear hbk hsz HI1
      have q1 := cell_row6 HI2.out.kb
      have q2 := cell_row6 HI2.out.p
      have f2 : A2.frozen? ⟨B2, 0, none⟩ = false := frozen_whole HI2.out.p _
      have q3 := cell_row6 HI2.out.kd
      have HMO : Veil (passK KS key (decide (kd = 2)) k = true → KeepsFrom w8.heap.size A2 (A2.setCell ⟨B2, 0, none⟩ (.int .i64 ((k + 1 : Nat) : Int))) ∧ k + 1 ≤ N ∧ PlcI w B1 B2 B3 Bx n a key kd (k + 1) (A2.setCell ⟨B2, 0, none⟩ (.int .i64 ((k + 1 : Nat) : Int))) ∧ ∀ i, i < k + 1 → passK KS key (decide (kd = 2)) i = true) := ⟨fun ht => by
        have hT := (Turned.refl (· = B2) A2).setCell (p := ⟨B2, 0, none⟩) rfl (.int .i64 ((k + 1 : Nat) : Int))
        have hW := HW.out
        exact ⟨keepsFrom_turned6 hT (fun j hj => .inl (by have := HZ.out; omega)), by omega, ⟨hT.heap HI2.out.kb (by omega), heap_setCell_at HI2.out.p 0 _, hT.heap HI2.out.kd (by omega), HI2.out.x.aside HH.out hT (fun k hk => by omega) (fun e => HBx.out e), HI2.out.t.then hT (fun k hk e => by omega)⟩, HGN.out ht⟩⟩
      have e : ((k + 1 : Nat) : Int) = (k : Int) + 1 := by omega
      have hkN : k ≤ 200000 := by omega
      cases hs : lessB s key
      · have k1 : Op.bytesLess s key = false := by rw [bytesLess_lessB]; exact hs
        by_cases he : s = key
        · have k2 : (s == key) = true := by rw [beq_iff_eq]; exact he
          clear he
          by_cases hkd : kd = 2
          · have k3 : ((kd : Int) == 2) = true := by rw [beq_iff_eq]; omega
            have hmo := HMO.out (by rw [HG.out, hs, k2]; simp [hkd])
            rw [e] at hmo
            have HM : Veil _ := ⟨hmo⟩
            clear hmo hkd hs HMO HG HGN HGF
            gi_wp2
            exact HM.out
          · have k3 : ((kd : Int) == 2) = false := by rw [beq_eq_false_iff_ne]; omega
            have hst := HGF.out (by rw [HG.out, hs, k2]; simp [hkd])
            have HS : Veil _ := ⟨hst⟩
            clear hst hkd hs HMO HG HGN HGF
            gi_wp2
            exact ⟨KeepsFrom.refl _ _, rfl, k, HS.out, HI2.out⟩
        · have k2 : (s == key) = false := by rw [beq_eq_false_iff_ne]; exact he
          have hst := HGF.out (by rw [HG.out, hs, k2]; rfl)
          have HS : Veil _ := ⟨hst⟩
          clear hst hs he HMO HG HGN HGF
          gi_wp2
          exact ⟨KeepsFrom.refl _ _, rfl, k, HS.out, HI2.out⟩
      · have k1 : Op.bytesLess s key = true := by rw [bytesLess_lessB]; exact hs
        have hmo := HMO.out (by rw [HG.out, hs]; rfl)
        rw [e] at hmo
        have HM : Veil _ := ⟨hmo⟩
        clear hmo hs HMO HG HGN HGF
        gi_wp2
        exact HM.out
    case hend =>
      rintro Dd A hDd ⟨L, hL, h1⟩ hdd
      have HI : Veil _ := ⟨h1⟩
      have HD : Veil _ := ⟨hdd⟩
      obtain rfl : pl = L := HPL.out L trivial hL
      have c1 := cell_row6 h1.p
      clear h1 hdd hI
      go_wp2
      try rw [Exit.noGoto_ret]
      refine leaves_mark (D := Dd) (B := w.heap.size) HD.out (by have := HW.out; have := HZ.out; omega) ?_
      intro w' hb _
      refine leaves_none (results_int6a rfl rfl) ⟨rfl, ?_⟩
      exact (hb.turned HI.out.t (Nat.le_refl _)).toBelow (Nat.le_refl _) (fun _ _ h => h.elim)
end Go.Proofs.YtokbmimbbeedcaaGreatDoor
