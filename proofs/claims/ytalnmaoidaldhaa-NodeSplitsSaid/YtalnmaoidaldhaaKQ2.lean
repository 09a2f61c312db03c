/- Reckoning: every cut of a right node. -/
import Derived.Test.YtalnmaoidaldhaaKOU
import Derived.Test.YtalnmaoidaldhaaKQ1
namespace Go.Proofs.Ytalnmaoidaldhaa
open Go Go.RowKit Sm

def Nd.lo (n : Nd) (c : Nat) : Nd := if n.ds.length = 0 then ⟨n.ps.take c, [], []⟩ else ⟨[], n.ks.take (c - 1), n.ds.take c⟩
def Nd.hi (n : Nd) (c : Nat) : Nd := if n.ds.length = 0 then ⟨n.ps.drop c, [], []⟩ else ⟨[], n.ks.drop c, n.ds.drop c⟩
def Nd.ky (n : Nd) (c : Nat) : List UInt8 := if n.ds.length = 0 then (n.ps.getD c Pr.zero).k else n.ks.getD (c - 1) []
theorem halves_at {n : Nd} {c : Nat} (hr : n.right = true) (h1 : n.least ≤ c) (h2 : c + n.least ≤ n.ps.length + n.ds.length) : ((n.lo c).right = true ∧ (n.lo c).size = n.lft c) ∧ ((n.hi c).right = true ∧ (n.hi c).size = n.rgt c) := by
  have he := size_lft hr
  unfold Nd.rgt
  unfold Nd.lo Nd.hi
  unfold Nd.least at h1 h2
  by_cases hd : n.ds.length = 0
  · simp only [if_pos hd] at h1 h2 ⊢
    have hlf : n.leaf = true := by
      rcases Bool.or_eq_true_iff.1 hr with h | h
      · exact h
      · have := (n.branch_iff.1 h).1; omega
    obtain ⟨hl1, hl2, hl3⟩ := (leaf_pw n).1 hlf
    have ra : (⟨n.ps.take c, [], []⟩ : Nd).right = true := by
      rw [Nd.right, Bool.or_eq_true_iff]
      exact .inl ((leaf_pw _).2 ⟨⟨rfl, rfl, by simp only [List.length_take]; omega⟩, fun p hp => hl2 p (List.mem_of_mem_take hp), hl3.sublist (List.take_sublist _ _)⟩)
    have rb : (⟨n.ps.drop c, [], []⟩ : Nd).right = true := by
      rw [Nd.right, Bool.or_eq_true_iff]
      exact .inl ((leaf_pw _).2 ⟨⟨rfl, rfl, by simp only [List.length_drop]; omega⟩, fun p hp => hl2 p (List.mem_of_mem_drop hp), hl3.sublist (List.drop_sublist _ _)⟩)
    have pa : ∀ k, k ≤ c → (⟨n.ps.take c, [], []⟩ : Nd).lft k = n.lft k := by
      intro k
      induction k with
      | zero => intro _; rw [lft_zero, lft_zero]
      | succ k ih =>
        intro hk
        rw [lft_succ, lft_succ, ih (by omega)]
        congr 1
        unfold Nd.part
        simp only [List.length_take]
        rw [if_pos (by omega), if_pos (by omega), getD_take' _ (by omega)]
    have pb : ∀ k, c + k ≤ n.ps.length → (⟨n.ps.drop c, [], []⟩ : Nd).lft k + n.lft c = 1 + n.lft (c + k) := by
      intro k
      induction k with
      | zero => intro _; rw [lft_zero]; rfl
      | succ k ih =>
        intro hk
        have e := ih (by omega)
        have e2 : (⟨n.ps.drop c, [], []⟩ : Nd).part k = n.part (c + k) := by
          unfold Nd.part
          simp only [List.length_drop]
          rw [if_pos (by omega), if_pos (by omega), getD_drop']
        rw [lft_succ, ← Nat.add_assoc, lft_succ, e2]
        omega
    refine ⟨⟨ra, ?_⟩, ⟨rb, ?_⟩⟩
    · rw [size_lft ra]
      simp only [List.length_take, List.length_nil, Nat.add_zero]
      rw [show min c n.ps.length = c by omega]
      exact pa c (Nat.le_refl _)
    · rw [size_lft rb]
      simp only [List.length_drop, List.length_nil, Nat.add_zero]
      have e := pb (n.ps.length - c) (by omega)
      rw [show c + (n.ps.length - c) = n.ps.length + n.ds.length by omega, ← he] at e
      have ha : n.ahead c = [] := by unfold Nd.ahead; rw [if_pos (.inr hl1.1)]
      rw [ha]
      simp only [tsz, List.map_nil, List.sum_nil]
      omega
  · simp only [if_neg hd] at h1 h2 ⊢
    have hbr : n.branch = true := by
      rcases Bool.or_eq_true_iff.1 hr with h | h
      · have := ((leaf_pw n).1 h).1; omega
      · exact h
    obtain ⟨hb1, hb2, hb3⟩ := n.branch_iff.1 hbr
    have ra : (⟨[], n.ks.take (c - 1), n.ds.take c⟩ : Nd).right = true := by
      rw [Nd.right, Bool.or_eq_true_iff]
      refine .inr ((Nd.branch_iff _).2 ⟨⟨rfl, ?_, ?_, ?_⟩, fun i hi => ?_, fun i hi => ?_⟩)
      · simp only [List.length_take]; omega
      · simp only [List.length_take]; omega
      · simp only [List.length_take]; omega
      · simp only [List.length_take] at hi
        have := hb2 i (by omega)
        unfold goodD at this ⊢
        rwa [getD_take' _ (by omega)]
      · simp only [List.length_take] at hi
        have := hb3 i (by omega)
        unfold goodK at this ⊢
        rwa [getD_take' _ (by omega), getD_take' _ (by omega)]
    have rb : (⟨[], n.ks.drop c, n.ds.drop c⟩ : Nd).right = true := by
      rw [Nd.right, Bool.or_eq_true_iff]
      refine .inr ((Nd.branch_iff _).2 ⟨⟨rfl, ?_, ?_, ?_⟩, fun i hi => ?_, fun i hi => ?_⟩)
      · simp only [List.length_drop]; omega
      · simp only [List.length_drop]; omega
      · simp only [List.length_drop]; omega
      · simp only [List.length_drop] at hi
        have := hb2 (c + i) (by omega)
        unfold goodD at this ⊢
        rwa [getD_drop']
      · simp only [List.length_drop] at hi
        have := hb3 (c + i) (by omega)
        unfold goodK at this ⊢
        rw [getD_drop', getD_drop']
        by_cases h0 : i = 0
        · subst h0
          simp only [Bool.and_eq_true] at this
          simp
          simpa using this.1
        · rw [show c + (i - 1) = c + i - 1 by omega]
          simp only [h0, show c + i ≠ 0 by omega, decide_false, Bool.false_or] at this ⊢
          exact this
    have aa : ∀ k, k < c → (⟨[], n.ks.take (c - 1), n.ds.take c⟩ : Nd).ahead k = n.ahead k := by
      intro k hk
      unfold Nd.ahead
      simp only [List.length_take]
      by_cases h0 : k = 0
      · rw [if_pos (.inl h0), if_pos (.inl h0)]
      · rw [if_neg (by omega), if_neg (by omega), getD_take' _ (by omega)]
    have pa : ∀ k, k ≤ c → (⟨[], n.ks.take (c - 1), n.ds.take c⟩ : Nd).lft k = n.lft k := by
      intro k
      induction k with
      | zero => intro _; rw [lft_zero, lft_zero]
      | succ k ih =>
        intro hk
        rw [lft_succ, lft_succ, ih (by omega)]
        congr 1
        unfold Nd.part
        simp only [List.length_nil]
        rw [if_neg (by omega), if_neg (by omega), aa k (by omega)]
    have ab : ∀ k, 0 < k → c + k < n.ds.length → (⟨[], n.ks.drop c, n.ds.drop c⟩ : Nd).ahead k = n.ahead (c + k) := by
      intro k hk hk2
      unfold Nd.ahead
      simp only [List.length_drop]
      rw [if_neg (by omega), if_neg (by omega), getD_drop', show c + (k - 1) = c + k - 1 by omega]
    have pb : ∀ k, c + (k + 1) ≤ n.ds.length → (⟨[], n.ks.drop c, n.ds.drop c⟩ : Nd).lft (k + 1) + n.lft c + tsz (n.ahead c) = 1 + n.lft (c + (k + 1)) := by
      intro k
      induction k with
      | zero =>
        intro hk
        have e1 : (⟨[], n.ks.drop c, n.ds.drop c⟩ : Nd).part 0 = 4 := by
          unfold Nd.part Nd.ahead
          simp [tsz]
        have e2 : n.part c = tsz (n.ahead c) + 4 := by
          unfold Nd.part
          rw [if_neg (by omega)]
        rw [lft_succ, lft_zero, e1, show c + (0 + 1) = c + 1 from rfl, lft_succ, e2]
        omega
      | succ k ih =>
        intro hk
        have e := ih (by omega)
        have e2 : (⟨[], n.ks.drop c, n.ds.drop c⟩ : Nd).part (k + 1) = n.part (c + (k + 1)) := by
          unfold Nd.part
          simp only [List.length_nil]
          rw [if_neg (by omega), if_neg (by omega), ab (k + 1) (by omega) (by omega)]
        rw [lft_succ _ (k + 1), show c + (k + 1 + 1) = c + (k + 1) + 1 from rfl, lft_succ n (c + (k + 1)), e2]
        omega
    refine ⟨⟨ra, ?_⟩, ⟨rb, ?_⟩⟩
    · rw [size_lft ra]
      simp only [List.length_take, List.length_nil, Nat.zero_add]
      rw [show min c n.ds.length = c by omega]
      exact pa c (Nat.le_refl _)
    · rw [size_lft rb]
      simp only [List.length_drop, List.length_nil, Nat.zero_add]
      have e := pb (n.ds.length - c - 1) (by omega)
      rw [show n.ds.length - c - 1 + 1 = n.ds.length - c by omega, show c + (n.ds.length - c) = n.ps.length + n.ds.length by omega, ← he] at e
      omega
theorem lohi_ok {n : Nd} (h : n.Ok) (c : Nat) : (n.lo c).Ok ∧ (n.hi c).Ok := by
  unfold Nd.lo Nd.hi
  by_cases hd : n.ds.length = 0
  · simp only [if_pos hd]
    exact ⟨h.sub (fun x hx => List.mem_of_mem_take hx) (fun x hx => by simp at hx) (fun x hx => by simp at hx) (by simp only [List.length_take]; omega) (Nat.zero_le _) (Nat.zero_le _), h.sub (fun x hx => List.mem_of_mem_drop hx) (fun x hx => by simp at hx) (fun x hx => by simp at hx) (by simp only [List.length_drop]; omega) (Nat.zero_le _) (Nat.zero_le _)⟩
  · simp only [if_neg hd]
    exact ⟨h.sub (fun x hx => by simp at hx) (fun x hx => List.mem_of_mem_take hx) (fun x hx => List.mem_of_mem_take hx) (Nat.zero_le _) (by simp only [List.length_take]; omega) (by simp only [List.length_take]; omega), h.sub (fun x hx => by simp at hx) (fun x hx => List.mem_of_mem_drop hx) (fun x hx => List.mem_of_mem_drop hx) (Nat.zero_le _) (by simp only [List.length_drop]; omega) (by simp only [List.length_drop]; omega)⟩
theorem cut_big {n : Nd} (hr : n.right = true) (h : 2 * n.least ≤ n.ps.length + n.ds.length) : n.cutAt ≠ 0 := by
  have hls : 1 ≤ n.least := by unfold Nd.least; split <;> omega
  rw [Nd.cutAt, if_pos hr]
  exact ((cutSt_best hls n.lgr (n.ps.length + n.ds.length + 1 - n.least)).2 n.least (Nat.le_refl _) (by omega)).1
theorem cut_small {n : Nd} (h : n.right = false ∨ n.ps.length + n.ds.length < 2 * n.least) : n.cutAt = 0 := by
  rcases Nat.eq_zero_or_pos n.cutAt with h0 | h0
  · exact h0
  · obtain ⟨h1, h2, h3⟩ := cutAt_in (n := n) (by omega)
    rcases h with h | h
    · rw [h] at h1; cases h1
    · omega
theorem spl_none {n : Nd} (h : n.cutAt = 0) : n.splA = Nd.zero ∧ n.splB = Nd.zero ∧ n.splK = [] ∧ n.splE = 60 := by
  unfold Nd.splA Nd.splB Nd.splK Nd.splE
  simp only [if_pos h, and_self]
theorem spl_some {n : Nd} (h : n.cutAt ≠ 0) : n.splA = n.lo n.cutAt ∧ n.splB = n.hi n.cutAt ∧ n.splK = n.ky n.cutAt ∧ n.splE = 0 := by
  unfold Nd.splA Nd.splB Nd.splK Nd.splE Nd.lo Nd.hi Nd.ky
  simp only [if_neg h, and_self]
/-- Both halves' bytes. -/
theorem lgr_enc {n : Nd} {c : Nat} (hr : n.right = true) (h1 : n.least ≤ c) (h2 : c + n.least ≤ n.ps.length + n.ds.length) : max (n.lo c).enc.length (n.hi c).enc.length = n.lgr c := by
  obtain ⟨⟨r1, s1⟩, r2, s2⟩ := halves_at hr h1 h2
  rw [Nd.size, if_pos r1] at s1
  rw [Nd.size, if_pos r2] at s2
  rw [s1, s2, Nd.lgr]
theorem cutat_of {w : World} {n : Nd} {a : NdP} (h : NdAt w n a) (hf : NdFit n a) (hok : Veil n.Ok) (hr : n.right = true) {c : Nat} (h1 : n.least ≤ c) (h2 : c + n.least ≤ n.ps.length + n.ds.length) :
    Calls Try.prog 23 #[n.v a, .int .i64 c] w (CutPost w (n.lo c) (n.hi c) (n.ky c)) := by
  have hkd := Nd.right_lk hr
  have hx := Nd.right_xd hr
  unfold Nd.lo Nd.hi Nd.ky
  unfold Nd.least at h1 h2
  by_cases hd : n.ds.length = 0
  · simp only [if_pos hd] at h1 h2 ⊢
    exact cutat_leaf h hf c (by omega) (by omega) hd hok.out.p
  · simp only [if_neg hd] at h1 h2 ⊢
    have hkk := Nd.right_kd hr
    have hx2 : n.ps.length = 0 := by omega
    exact cutat_branch h hf c (c - 1) (by omega) (by omega) (by omega) hok.out.k hok.out.d
end Go.Proofs.Ytalnmaoidaldhaa

/- The walk of Split (the document's own). -/
namespace Go.Proofs.Ytalnmaoidaldhaa
open Go Go.RowKit Sm
attribute [local go_sem] Oper.semAt_some

theorem max_nat (a b : Nat) (W : World) : (Builtin.max_ #[3, 3] 3 #[.int .i64 (a : Int), .int .i64 (b : Int)]).run Try.prog W = .ok (.int .i64 ((max a b : Nat) : Int)) W := by
  rw [run_max_int2]
  by_cases h : (b : Int) > a
  · rw [if_pos h, show max a b = b by omega]
  · rw [if_neg h, show max a b = a by omega]
theorem cutSt_yes {ls : Nat} {g : Nat → Nat} {k : Nat} (h : ls ≤ k) (hc : (cutSt ls g k).1 = 0 ∨ g k < (cutSt ls g k).2) : cutSt ls g (k + 1) = (k, g k) := by rw [cutSt, if_pos ⟨h, hc⟩]
theorem cutSt_no {ls : Nat} {g : Nat → Nat} {k : Nat} (h1 : (cutSt ls g k).1 ≠ 0) (h2 : ¬ g k < (cutSt ls g k).2) : cutSt ls g (k + 1) = cutSt ls g k := by rw [cutSt, if_neg (fun h => h.2.elim h1 h2)]
theorem cutSt_few {ls : Nat} {g : Nat → Nat} : ∀ k, k ≤ ls → cutSt ls g k = (0, 0)
  | 0, _ => rfl
  | k + 1, h => by rw [cutSt, if_neg (fun hh => by omega), cutSt_few k (by omega)]
/-- The node's box, two boxes for the answers. -/
theorem spl_start (w : World) {n : Nd} {a : NdP} (h : NdAt w n a) : ∃ W1 W2 W3, w.alloc (.cells #[.slice a.pp n.ps.length a.cp, .slice a.pk n.ks.length a.ck, .slice a.pd n.ds.length a.cd] 26) = W1 ∧ W1.alloc (.cells #[.slice none 0 0, .slice none 0 0, .slice none 0 0] 26) = W2 ∧ W2.alloc (.cells #[.slice none 0 0, .slice none 0 0, .slice none 0 0] 26) = W3 ∧
    Veil (NdBox w n a W3 ∧ W3.heap[W1.heap.size]? = some (.cells #[.slice none 0 0, .slice none 0 0, .slice none 0 0] 26 (0, 0)) ∧ W3.heap[W2.heap.size]? = some (.cells #[.slice none 0 0, .slice none 0 0, .slice none 0 0] 26 (0, 0)) ∧ W1.heap.size = w.heap.size + 1 ∧ W2.heap.size = W1.heap.size + 1 ∧ W3.heap.size = W2.heap.size + 1) := by
  refine ⟨_, _, _, rfl, rfl, rfl, ?_⟩
  obtain ⟨W1, h1⟩ : ∃ W1, w.alloc (.cells #[.slice a.pp n.ps.length a.cp, .slice a.pk n.ks.length a.ck, .slice a.pd n.ds.length a.cd] 26) = W1 := ⟨_, rfl⟩
  obtain ⟨W2, h2⟩ : ∃ W2, W1.alloc (.cells #[.slice none 0 0, .slice none 0 0, .slice none 0 0] 26) = W2 := ⟨_, rfl⟩
  obtain ⟨W3, h3⟩ : ∃ W3, W2.alloc (.cells #[.slice none 0 0, .slice none 0 0, .slice none 0 0] 26) = W3 := ⟨_, rfl⟩
  have hB := NdBox.new h
  rw [h1] at hB ⊢
  rw [h2, h3]
  have k2 : Below W1.heap.size W1 W2 := by rw [← h2]; exact below_al (Below.refl _ _) _
  have k3 : Below W2.heap.size W2 W3 := by rw [← h3]; exact below_al (Below.refl _ _) _
  have b2 : W2.heap[W1.heap.size]? = some (.cells #[.slice none 0 0, .slice none 0 0, .slice none 0 0] 26 (0, 0)) := by rw [← h2]; exact heap_alloc_new _ _
  have b3 : W3.heap[W2.heap.size]? = some (.cells #[.slice none 0 0, .slice none 0 0, .slice none 0 0] 26 (0, 0)) := by rw [← h3]; exact heap_alloc_new _ _
  exact ⟨(hB.below k2).below k3, (k3.block _ (lt_of_heap b2)).trans b2, b3, by rw [← h1]; simp, by rw [← h2]; simp, by rw [← h3]; simp⟩

set_option maxRecDepth 20000 in
set_option maxHeartbeats 4000000 in
theorem refsplit1 {w : World} {n : Nd} {a : NdP} (h : NdAt w n a) (hf : NdFit n a) (hok : Veil n.Ok) (hd : n.ds.length = 0) :
    Calls Try.prog 7 #[n.v a] w (SplPost w n.splA n.splB n.splK n.splE) := by
  have hls : n.least = 1 := by unfold Nd.least; rw [if_pos hd]
  have hdb : ¬ 0 < n.ds.length := by omega
  have HP : Veil _ := ⟨hok.out.p⟩
  have HD : Veil _ := ⟨hok.out.d⟩
  have HDL : Veil _ := ⟨hd⟩
  clear hd
  obtain ⟨N, hN⟩ : ∃ N, n.ps.length + n.ds.length = N := ⟨_, rfl⟩
  have hNI : ((n.ps.length : Int) + (n.ds.length : Int)) = (N : Int) := by omega
  have HNI : Veil _ := ⟨hNI⟩
  have hNb : N ≤ 200000 := by have := HP.out; have := HD.out; omega
  obtain ⟨W1, W2, W3, hW1, hW2, hW3, HS⟩ := spl_start w h
  obtain ⟨R1, hR1⟩ : ∃ R1, W1.heap.size = R1 := ⟨_, rfl⟩
  obtain ⟨R2, hR2⟩ : ∃ R2, W2.heap.size = R2 := ⟨_, rfl⟩
  have HO : Veil (w.heap.size < R1 ∧ R1 < R2 ∧ R2 < W3.heap.size) := ⟨by have := HS.out.2.2.2; omega⟩
  have HB : Veil (NdBox w n a W3) := ⟨HS.out.1⟩
  have HR1 : Veil (W3.heap[R1]? = some (.cells #[.slice none 0 0, .slice none 0 0, .slice none 0 0] 26 (0, 0))) := ⟨by rw [← hR1]; exact HS.out.2.1⟩
  have HR2 : Veil (W3.heap[R2]? = some (.cells #[.slice none 0 0, .slice none 0 0, .slice none 0 0] 26 (0, 0))) := ⟨by rw [← hR2]; exact HS.out.2.2.1⟩
  obtain ⟨a0, a1, a2⟩ := HB.out.cells
  clear HS
  have HRt : Veil (∀ W, NdAt W n a → Calls Try.prog 22 #[n.v a] W fun e w' => e = .returned (.bool n.right) ∧ Below W.heap.size W w') := ⟨fun W h => refnright_of h hok⟩
  by_cases hgood : n.right = true ∧ 2 ≤ N
  rotate_left
  · have hc0 : n.cutAt = 0 := cut_small (by
      rw [hls, hN]
      by_cases hr : n.right = true
      · exact .inr (by have : ¬ 2 ≤ N := fun hh => hgood ⟨hr, hh⟩
                       omega)
      · exact .inl (by simpa using hr))
    obtain ⟨e1, e2, e3, e4⟩ := spl_none hc0
    rw [e1, e2, e3, e4]
    clear e1 e2 e3 e4 hc0
    unfold Nd.v at *
    go_enter Try.func7, Try.ntmps7
    by_cases hr : n.right = true
    case' pos =>
      have hlt : N < 2 := by
        have : ¬ 2 ≤ N := fun hh => hgood ⟨hr, hh⟩
        omega
      rw [hr] at HRt
      clear hgood hN
      go_wp2_with ((go_at_call 22; (with_reducible refine (HRt.out W3 HB.out.s).mono ?_); rintro e w4 ⟨rfl, hb4⟩; have HB4 : Veil _ := ⟨HB.out.below hb4⟩; have HR14 : Veil _ := ⟨(hb4.block _ (lt_of_heap HR1.out)).trans HR1.out⟩; have HR24 : Veil _ := ⟨(hb4.block _ (lt_of_heap HR2.out)).trans HR2.out⟩; have HZ4 : Veil (W3.heap.size ≤ w4.heap.size) := ⟨hb4.size⟩; clear a0 a1 a2 hb4; obtain ⟨a0, a1, a2⟩ := HB4.out.cells; obtain ⟨⟨x0, x1, x2⟩, k0, k1, k2⟩ := box3 HR14.out; have hT5 := (((Turned.refl (· = R1) w4).setCell (p := ⟨R1, 0, none⟩) rfl (.slice none 0 0)).setCell (p := ⟨R1, 1, none⟩) rfl (.slice none 0 0)).setCell (p := ⟨R1, 2, none⟩) rfl (.slice none 0 0); have hg5 := heap_setCell_at (heap_setCell_at (heap_setCell_at HR14.out 0 (.slice none 0 0)) 1 (.slice none 0 0)) 2 (.slice none 0 0); obtain ⟨W5, hW5⟩ : ∃ W5, ((w4.setCell ⟨R1, 0, none⟩ (.slice none 0 0)).setCell ⟨R1, 1, none⟩ (.slice none 0 0)).setCell ⟨R1, 2, none⟩ (.slice none 0 0) = W5 := ⟨_, rfl⟩; rw [hW5] at hT5; replace hg5 : W5.heap[R1]? = some (.cells #[.slice none 0 0, .slice none 0 0, .slice none 0 0] 26 (0, 0)) := (by rw [← hW5]; exact hg5); have HG5 : Veil _ := ⟨hg5⟩; have HT5 : Veil _ := ⟨hT5⟩; have HH5 : Veil (W5.heap[R2]? = some (.cells #[.slice none 0 0, .slice none 0 0, .slice none 0 0] 26 (0, 0))) := ⟨hT5.heap HR24.out (by have := HO.out; omega)⟩; clear hg5 hT5; obtain ⟨⟨y0, y1, y2⟩, l0, l1, l2⟩ := box3 HH5.out))
    case' neg =>
      replace hr : n.right = false := by simpa using hr
      rw [hr] at HRt
      clear hgood hN
      go_wp2_with ((go_at_call 22; (with_reducible refine (HRt.out W3 HB.out.s).mono ?_); rintro e w4 ⟨rfl, hb4⟩; have HB4 : Veil _ := ⟨HB.out.below hb4⟩; have HR14 : Veil _ := ⟨(hb4.block _ (lt_of_heap HR1.out)).trans HR1.out⟩; have HR24 : Veil _ := ⟨(hb4.block _ (lt_of_heap HR2.out)).trans HR2.out⟩; have HZ4 : Veil (W3.heap.size ≤ w4.heap.size) := ⟨hb4.size⟩; clear a0 a1 a2 hb4; obtain ⟨a0, a1, a2⟩ := HB4.out.cells; obtain ⟨⟨x0, x1, x2⟩, k0, k1, k2⟩ := box3 HR14.out; have hT5 := (((Turned.refl (· = R1) w4).setCell (p := ⟨R1, 0, none⟩) rfl (.slice none 0 0)).setCell (p := ⟨R1, 1, none⟩) rfl (.slice none 0 0)).setCell (p := ⟨R1, 2, none⟩) rfl (.slice none 0 0); have hg5 := heap_setCell_at (heap_setCell_at (heap_setCell_at HR14.out 0 (.slice none 0 0)) 1 (.slice none 0 0)) 2 (.slice none 0 0); obtain ⟨W5, hW5⟩ : ∃ W5, ((w4.setCell ⟨R1, 0, none⟩ (.slice none 0 0)).setCell ⟨R1, 1, none⟩ (.slice none 0 0)).setCell ⟨R1, 2, none⟩ (.slice none 0 0) = W5 := ⟨_, rfl⟩; rw [hW5] at hT5; replace hg5 : W5.heap[R1]? = some (.cells #[.slice none 0 0, .slice none 0 0, .slice none 0 0] 26 (0, 0)) := (by rw [← hW5]; exact hg5); have HG5 : Veil _ := ⟨hg5⟩; have HT5 : Veil _ := ⟨hT5⟩; have HH5 : Veil (W5.heap[R2]? = some (.cells #[.slice none 0 0, .slice none 0 0, .slice none 0 0] 26 (0, 0))) := ⟨hT5.heap HR24.out (by have := HO.out; omega)⟩; clear hg5 hT5; obtain ⟨⟨y0, y1, y2⟩, l0, l1, l2⟩ := box3 HH5.out))
    all_goals
      have hU := (((Turned.refl (· = R2) W5).setCell (p := ⟨R2, 0, none⟩) rfl (.slice none 0 0)).setCell (p := ⟨R2, 1, none⟩) rfl (.slice none 0 0)).setCell (p := ⟨R2, 2, none⟩) rfl (.slice none 0 0)
      have hz := HO.out
      have hx5 := HB4.out.x.trans (HT5.out.toBelow HB4.out.x.size (fun k _ e => by omega))
      exact bodyPost_ret (results_split (g1 := R1) (g2 := R2) rfl rfl rfl rfl rfl (hU.heap HG5.out (by omega)) (heap_setCell_at (heap_setCell_at (heap_setCell_at HH5.out 0 _) 1 _) 2 _)) rfl ⟨⟨none, 0, none, 0, none, 0⟩, ⟨none, 0, none, 0, none, 0⟩, rfl, ⟨Els.nil _ _, Els.nil _ _, Els.nil _ _⟩, ⟨Els.nil _ _, Els.nil _ _, Els.nil _ _⟩, ⟨(OwnE.nil elP w 0).fitN, (OwnE.nil elK w 0).fitN, (OwnE.nil elD w 0).fitN⟩, ⟨(OwnE.nil elP w 0).fitN, (OwnE.nil elK w 0).fitN, (OwnE.nil elD w 0).fitN⟩, hx5.trans (hU.toBelow hx5.size (fun k _ e => by omega))⟩
  · obtain ⟨hr, hNN⟩ := hgood
    have hc0 : n.cutAt ≠ 0 := cut_big hr (by omega)
    obtain ⟨e1, e2, e3, e4⟩ := spl_some hc0
    rw [e1, e2, e3, e4]
    clear e1 e2 e3 e4
    have HCU : Veil (∀ k : Nat, 1 ≤ k → k + 1 ≤ N → ∀ W, NdAt W n a → Calls Try.prog 23 #[n.v a, .int .i64 k] W (CutPost W (n.lo k) (n.hi k) (n.ky k))) := ⟨fun k h1 h2 W hW => cutat_of hW hf hok hr (by omega) (by omega)⟩
    have HEA : Veil (∀ k : Nat, 1 ≤ k → k + 1 ≤ N → ∀ W a', NdAt W (n.lo k) a' → Calls Try.prog 24 #[(n.lo k).v a'] W fun e w' => e = .returned (.string ⟨(n.lo k).enc.toArray⟩) ∧ Below W.heap.size W w') := ⟨fun k h1 h2 W a' hW => bytes_of hW ⟨(lohi_ok hok.out k).1⟩ (Nd.right_kd (halves_at hr (by omega) (by omega)).1.1)⟩
    have HEB : Veil (∀ k : Nat, 1 ≤ k → k + 1 ≤ N → ∀ W a', NdAt W (n.hi k) a' → Calls Try.prog 24 #[(n.hi k).v a'] W fun e w' => e = .returned (.string ⟨(n.hi k).enc.toArray⟩) ∧ Below W.heap.size W w') := ⟨fun k h1 h2 W a' hW => bytes_of hW ⟨(lohi_ok hok.out k).2⟩ (Nd.right_kd (halves_at hr (by omega) (by omega)).2.1)⟩
    have HGG : Veil (∀ k : Nat, 1 ≤ k → k + 1 ≤ N → max (n.lo k).enc.length (n.hi k).enc.length = n.lgr k) := ⟨fun k h1 h2 => lgr_enc hr (by omega) (by omega)⟩
    have HCA : Veil (n.cutAt = (cutSt 1 n.lgr (N + 1 - 1)).1 ∧ 1 ≤ n.cutAt ∧ n.cutAt + 1 ≤ N) := ⟨by
      obtain ⟨q1, q2, q3⟩ := cutAt_in hc0
      exact ⟨by rw [Nd.cutAt, if_pos hr, hls, hN], by omega, by omega⟩⟩
    rw [hr] at HRt
    have HLG : Veil (n.lgr = n.lgr) := ⟨rfl⟩
    clear hc0 hr hf hls hN
    revert HCA; revert HGG
    generalize n.cutAt = bs0
    generalize n.lgr = gr
    intro HGG HCA
    obtain ⟨A, hA⟩ : ∃ A, n.lo bs0 = A := ⟨_, rfl⟩
    obtain ⟨B, hB⟩ : ∃ B, n.hi bs0 = B := ⟨_, rfl⟩
    obtain ⟨key, hK⟩ : ∃ key, n.ky bs0 = key := ⟨_, rfl⟩
    rw [hA, hB, hK]
    have HAq : Veil _ := ⟨hA⟩
    have HBq : Veil _ := ⟨hB⟩
    have HKq : Veil _ := ⟨hK⟩
    clear hA hB hK
    unfold Nd.v at *
    go_enter Try.func7, Try.ntmps7
    go_wp2_with ((go_at_call 22; (with_reducible refine (HRt.out W3 HB.out.s).mono ?_); rintro e w4 ⟨rfl, hb4⟩; have HB4 : Veil _ := ⟨HB.out.below hb4⟩; have HR14 : Veil _ := ⟨(hb4.block _ (lt_of_heap HR1.out)).trans HR1.out⟩; have HR24 : Veil _ := ⟨(hb4.block _ (lt_of_heap HR2.out)).trans HR2.out⟩; have HZ4 : Veil (W3.heap.size ≤ w4.heap.size) := ⟨hb4.size⟩; clear a0 a1 a2 hb4; obtain ⟨a0, a1, a2⟩ := HB4.out.cells))
    have HX4 : Veil (Below w.heap.size w w4) := ⟨HB4.out.x⟩
    have HW4 : Veil (W3.heap.size ≤ w4.heap.size) := ⟨HZ4.out⟩
    try rw [hR1]
    try rw [hR2]
    clear HRt a0 a1 a2 hW1 hW2 hW3 hR1 hR2 HB HR1 HR2 hdb
    go_loopw [9, 10, 11] (fun b m i wr => ∃ k : Nat, 1 ≤ k ∧ k ≤ N + 1 - 1 ∧ i = .int .i64 k ∧ b = .int .i64 (cutSt 1 gr k).1 ∧ m = .int .i64 (cutSt 1 gr k).2 ∧ Veil (Below w4.heap.size w4 wr)) (fun _ _ i _ => N + 1 - 1 - (intOf i).toNat)
    case atStart => exact ⟨1, Nat.le_refl _, by omega, rfl, by rw [cutSt_few _ (Nat.le_refl _)]; rfl, by rw [cutSt_few _ (Nat.le_refl _)]; rfl, ⟨Below.refl _ _⟩⟩
    case round =>
      obtain ⟨k, hk, hk2, rfl, hbv, hmv, hJ⟩ := hrel
      have HBr : Veil _ := ⟨HB4.out.below hJ.out⟩
      obtain ⟨a0, a1, a2⟩ := HBr.out.cells
      have hkI : (0 : Int) ≤ k := by omega
      by_cases hlt : k + 1 ≤ N
      · have HC1 : Veil _ := ⟨HCU.out k hk hlt⟩
        have HE1 : Veil _ := ⟨HEA.out k hk hlt⟩
        have HE2 : Veil _ := ⟨HEB.out k hk hlt⟩
        have HM1 : Veil _ := ⟨HGG.out k hk hlt⟩
        have HMX : Veil (∀ W, (Builtin.max_ #[3, 3] 3 #[.int .i64 ((n.lo k).enc.length : Int), .int .i64 ((n.hi k).enc.length : Int)]).run Try.prog W = .ok (.int .i64 ((gr k : Nat) : Int)) W) := ⟨fun W => by rw [max_nat, HM1.out]⟩
        have HYES : Veil _ := ⟨fun hc => cutSt_yes (ls := 1) (g := gr) hk hc⟩
        have HNOT : Veil _ := ⟨fun h1 h2 => cutSt_no (ls := 1) (g := gr) (k := k) h1 h2⟩
        clear HM1
        revert HNOT; revert HYES; revert HMX; revert HE2; revert HE1; revert HC1; revert hmv; revert hbv
        generalize cutSt 1 gr k = stt
        obtain ⟨bs, ms⟩ := stt
        dsimp only
        generalize gr k = g
        generalize n.ky k = key
        generalize n.lo k = A
        generalize n.hi k = B
        generalize A.enc = EA
        generalize B.enc = EB
        rintro rfl rfl HC1 HE1 HE2 HMX HYES HNOT
        go_wp2_with ((go_at_call 23; (with_reducible refine (HC1.out wr HBr.out.s).mono ?_); rintro e w5 ⟨ax, ay, rfl, hx, hy, fx, fy, hb⟩; obtain ⟨u1, u2, u3, u4, hu1, hu2, hu3, hu4, hz1, hz2, HU⟩ := two_box w5 (.slice ax.pp A.ps.length ax.cp) (.slice ax.pk A.ks.length ax.ck) (.slice ax.pd A.ds.length ax.cd) (.slice ay.pp B.ps.length ay.cp) (.slice ay.pk B.ks.length ay.ck) (.slice ay.pd B.ds.length ay.cd); obtain ⟨⟨i0, i1, i2⟩, j0, j1, j2⟩ := box3 hz1; obtain ⟨⟨p0, p1, p2⟩, q0, q1, q2⟩ := box3 hz2; have HN4 : Veil _ := ⟨(HBr.out.below hb).below HU.out.2.2.1⟩; have HAx : Veil (NBox u4 w5.heap.size A ax) := ⟨⟨HU.out.1, hx.below HU.out.2.2.1⟩⟩; have HAy : Veil (NBox u4 u1.heap.size B ay) := ⟨⟨HU.out.2.1, hy.below HU.out.2.2.1⟩⟩; have HFx : Veil _ := ⟨fx⟩; have HFy : Veil _ := ⟨fy⟩; have HBw : Veil (Below w4.heap.size w4 u4) := ⟨bn_then (bn_then hJ.out hb) HU.out.2.2.1⟩; clear hb hx hy fx fy hz1 hz2))
        have HW6 : Veil _ := ⟨HBw.out⟩
        clear HBw HN4 i0 i1 i2 j0 j1 j2 p0 p1 p2 q0 q1 q2 hu1 hu2 hu3 hu4 a0 a1 a2
        refine region_new [.is (.agg #[.slice ax.pp A.ps.length ax.cp, .slice ax.pk A.ks.length ax.ck, .slice ax.pd A.ds.length ax.cd]), .is (.string ⟨EA.toArray⟩), .is (.int .i64 (EA.length : Int)), .is (.agg #[.slice ay.pp B.ps.length ay.cp, .slice ay.pk B.ks.length ay.ck, .slice ay.pd B.ds.length ay.cd]), .is (.string ⟨EB.toArray⟩), .is (.int .i64 (EB.length : Int)), .is (.int .i64 (g : Int))]
          [[], [(0, 57)], [(1, 58)], [], [(3, 60)], [(4, 61)], [(2, 59), (5, 62)]]
          [[], [0], [1], [], [1, 3], [4], [2, 5]]
          [(0, 57), (1, 58), (2, 59), (3, 60), (4, 61), (5, 62), (6, 63)] rfl (by kernel_rfl) ⟨?_, ?_, ?_, ?_, ?_, ?_, ?_, trivial⟩ ?_
        · intro vals W hB _
          obtain ⟨b0, b1, b2⟩ := (HAx.out.below hB).cells
          dsimp only [putsL, slotOf]
          go_wp2
          exact ⟨rfl, Below.refl _ _, rfl⟩
        · intro vals W hB ⟨h0, _⟩
          have h0 : vals 0 = _ := h0
          dsimp only [putsL, slotOf]
          rw [h0]
          go_wp2_with ((go_at_call 24; (with_reducible refine (HE1.out W _ (HAx.out.below hB).s).mono ?_); rintro e w6 ⟨rfl, hb4⟩))
          exact ⟨rfl, hb4, rfl⟩
        · intro vals W hB ⟨h1, _⟩
          have h1 : vals 1 = _ := h1
          dsimp only [putsL, slotOf]
          rw [h1]
          go_wp2
          exact ⟨rfl, Below.refl _ _, rfl⟩
        · intro vals W hB _
          obtain ⟨b0, b1, b2⟩ := (HAy.out.below hB).cells
          dsimp only [putsL, slotOf]
          go_wp2
          exact ⟨rfl, Below.refl _ _, rfl⟩
        · intro vals W hB ⟨h1, h3, _⟩
          have h3 : vals 3 = _ := h3
          dsimp only [putsL, slotOf]
          rw [h3]
          go_wp2_with ((go_at_call 24; (with_reducible refine (HE2.out W _ (HAy.out.below hB).s).mono ?_); rintro e w6 ⟨rfl, hb4⟩))
          exact ⟨rfl, hb4, rfl⟩
        · intro vals W hB ⟨h4, _⟩
          have h4 : vals 4 = _ := h4
          dsimp only [putsL, slotOf]
          rw [h4]
          go_wp2
          exact ⟨rfl, Below.refl _ _, rfl⟩
        · intro vals W hB ⟨h2, h5, _⟩
          have h2 : vals 2 = _ := h2
          have h5 : vals 5 = _ := h5
          have hmx := HMX.out
          dsimp only [putsL, slotOf]
          rw [h2, h5]
          go_wp2
          exact ⟨rfl, Below.refl _ _, rfl⟩
        rintro vals W6 hB ⟨q0, q1, q2, q3, q4, q5, q6, -⟩
        have h0 : vals 0 = _ := q0
        have h1 : vals 1 = _ := q1
        have h2 : vals 2 = _ := q2
        have h3 : vals 3 = _ := q3
        have h4 : vals 4 = _ := q4
        have h5 : vals 5 = _ := q5
        have h6 : vals 6 = _ := q6
        dsimp only [putsL]
        rw [h0, h1, h2, h3, h4, h5, h6]
        clear h0 q0 h1 q1 h2 q2 h3 q3 h4 q4 h5 q5 h6 q6
        simp only [List.length_cons, List.length_nil, Nat.reduceAdd, List.drop_succ_cons, List.drop_zero, List.setIfInBounds_toArray, List.set_cons_succ, List.set_cons_zero]
        have HBz : Veil (Below w4.heap.size w4 W6) := ⟨bn_then HW6.out hB⟩
        clear hB HW6
        by_cases hc : bs = 0 ∨ g < ms
        · rcases hc with hc | hc
          · have hst := HYES.out (.inl hc)
            have hbb : ((bs : Int) == 0) = true := by rw [beq_iff_eq]; omega
            clear hc
            go_wp2
            refine ⟨⟨k + 1, by omega, by omega, by go_num, by rw [hst], by rw [hst], HBz⟩, ?_⟩
            simp only [intOf]; omega
          · have hst := HYES.out (.inr hc)
            by_cases hb0 : bs = 0
            · have hbb : ((bs : Int) == 0) = true := by rw [beq_iff_eq]; omega
              clear hb0
              go_wp2
              refine ⟨⟨k + 1, by omega, by omega, by go_num, by rw [hst], by rw [hst], HBz⟩, ?_⟩
              simp only [intOf]; omega
            · have hbb : ((bs : Int) == 0) = false := by rw [beq_eq_false_iff_ne]; omega
              clear hb0
              go_wp2
              refine ⟨⟨k + 1, by omega, by omega, by go_num, by rw [hst], by rw [hst], HBz⟩, ?_⟩
              simp only [intOf]; omega
        · have hst := HNOT.out (fun h => hc (.inl h)) (fun h => hc (.inr h))
          have hbb : ((bs : Int) == 0) = false := by rw [beq_eq_false_iff_ne]; omega
          have hge : ¬ g < ms := fun h => hc (.inr h)
          clear hc
          go_wp2
          refine ⟨⟨k + 1, by omega, by omega, by go_num, by rw [hst], by rw [hst], HBz⟩, ?_⟩
          simp only [intOf]; omega
      · have hke : N + 1 - 1 = k := by omega
        have hq := HCA.out
        rw [hke] at hq
        have hc1 := HCU.out bs0 hq.2.1 hq.2.2
        rw [HAq.out, HBq.out, HKq.out] at hc1
        have HC1 : Veil _ := ⟨hc1⟩
        clear hc1
        rw [← hq.1] at hbv
        subst hbv
        clear hq hmv HCU HEA HEB HGG HCA
        go_wp2_with ((go_at_call 23; (with_reducible refine (HC1.out wr HBr.out.s).mono ?_); rintro e w5 ⟨ax, ay, rfl, hx, hy, fx, fy, hb⟩; obtain ⟨u1, u2, u3, u4, hu1, hu2, hu3, hu4, hz1, hz2, HU⟩ := two_box w5 (.slice ax.pp A.ps.length ax.cp) (.slice ax.pk A.ks.length ax.ck) (.slice ax.pd A.ds.length ax.cd) (.slice ay.pp B.ps.length ay.cp) (.slice ay.pk B.ks.length ay.ck) (.slice ay.pd B.ds.length ay.cd); obtain ⟨⟨i0, i1, i2⟩, j0, j1, j2⟩ := box3 hz1; obtain ⟨⟨p0, p1, p2⟩, q0, q1, q2⟩ := box3 hz2; have HN4 : Veil _ := ⟨(HBr.out.below hb).below HU.out.2.2.1⟩; have HAx : Veil (NBox u4 w5.heap.size A ax) := ⟨⟨HU.out.1, hx.below HU.out.2.2.1⟩⟩; have HAy : Veil (NBox u4 u1.heap.size B ay) := ⟨⟨HU.out.2.1, hy.below HU.out.2.2.1⟩⟩; have HFx : Veil _ := ⟨fx⟩; have HFy : Veil _ := ⟨fy⟩; have HBw : Veil (Below w4.heap.size w4 u4) := ⟨bn_then (bn_then hJ.out hb) HU.out.2.2.1⟩; have HZ5 : Veil (wr.heap.size ≤ w5.heap.size) := ⟨hb.size⟩; clear hb hx hy fx fy hz1 hz2))
        obtain ⟨G1, hG1⟩ : ∃ G1, w5.heap.size = G1 := ⟨_, rfl⟩
        obtain ⟨G2, hG2⟩ : ∃ G2, u1.heap.size = G2 := ⟨_, rfl⟩
        have HI0 : Veil (SpJ w n a R1 R2 G1 G2 A ax B ay 0 u4.drew) := ⟨by
          have hz1 := lt_of_heap HAx.out.b
          have hz2 := HU.out.2.2.2
          have hz3 : wr.heap.size ≤ w5.heap.size := HZ5.out
          have hz4 := hJ.out.size
          have hz5 := HW4.out
          have hz6 := HO.out
          have hx1 := HAx.out
          have hy1 := HAy.out
          rw [hG1] at hx1
          rw [hG2] at hy1
          have h1 : Box3 w4 R1 := ⟨_, _, _, _, _, _, _, _, _, HR14.out⟩
          have h2 : Box3 w4 R2 := ⟨_, _, _, _, _, _, _, _, _, HR24.out⟩
          have hj : SpJ w n a R1 R2 G1 G2 A ax B ay 0 u4 := ⟨HN4.out, hx1, hy1, h1.below HBw.out, h2.below HBw.out, fun e => absurd e (by omega), fun e => absurd e (by omega), by omega⟩
          exact hj.below (Below.refl _ _).drew⟩
        rw [hG1, hG2]
        clear hG1 hG2 HBw HN4 HAx HAy i0 i1 i2 j0 j1 j2 p0 p1 p2 q0 q1 q2 hu1 hu2 hu3 hu4 a0 a1 a2 HU HC1 HR14 HR24 HBr HB4 hJ HZ5 HW4 hlt hke hk hk2 hkI
        refine region_stage 7 [[], [], [], [(0, 80)], [(1, 81)], [(2, 82)], []]
          [[], [], [], [0], [0, 1, 3], [0, 1, 2, 3, 4], [0, 1, 2, 3, 4, 5]]
          [(0, 80), (1, 81), (2, 82), (4, 3), (6, 5)]
          (fun s W => SpJ w n a R1 R2 G1 G2 A ax B ay s W)
          (fun i => ([fun v => v = .agg #[.slice ax.pp A.ps.length ax.cp, .slice ax.pk A.ks.length ax.ck, .slice ax.pd A.ds.length ax.cd], fun v => v = .string ⟨key.toArray⟩, fun v => v = .agg #[.slice ay.pp B.ps.length ay.cp, .slice ay.pk B.ks.length ay.ck, .slice ay.pd B.ds.length ay.cd], fun _ => True, fun v => v = .string ⟨key.toArray⟩, fun _ => True, fun v => v = .int .i64 0] : List (Value → Prop)).getD i fun _ => True)
          (fun i => [0, 0, 0, 1, 1, 2, 2].getD i 0) (fun i => [2, 2, 2, 0, 2, 1, 2].getD i 2) rfl (by kernel_rfl) ?_ ⟨?_, ?_, ?_, ?_, ?_, ?_, ?_, trivial⟩ ?_
        · exact HI0.out
        · intro vals s W hI hs _
          have hs : s ≤ 2 := hs
          obtain ⟨⟨b0, b1, b2⟩, -⟩ := box3 hI.hx.b
          dsimp only [putsL, slotOf]
          go_wp2
          exact ⟨rfl, s, hI, Nat.le_refl _, (by first | exact ⟨rfl, (show 0 ≤ s by omega)⟩ | exact rfl), (by intros; assumption)⟩
        · intro vals s W hI hs _
          have hs : s ≤ 2 := hs
          dsimp only [putsL, slotOf]
          go_wp2
          exact ⟨rfl, s, hI, Nat.le_refl _, (by first | exact ⟨rfl, (show 0 ≤ s by omega)⟩ | exact rfl), (by intros; assumption)⟩
        · intro vals s W hI hs _
          have hs : s ≤ 2 := hs
          obtain ⟨⟨b0, b1, b2⟩, -⟩ := box3 hI.hy.b
          dsimp only [putsL, slotOf]
          go_wp2
          exact ⟨rfl, s, hI, Nat.le_refl _, (by first | exact ⟨rfl, (show 0 ≤ s by omega)⟩ | exact rfl), (by intros; assumption)⟩
        · intro vals s W hI hs ⟨⟨h0, l0⟩, _⟩
          have hs : s ≤ 0 := hs
          have l0 : 0 ≤ s := l0
          have h0 : vals 0 = .agg #[.slice ax.pp A.ps.length ax.cp, .slice ax.pk A.ks.length ax.ck, .slice ax.pd A.ds.length ax.cd] := h0
          have hI4 := hI.put1 (by omega); have hr := hI.r1; obtain ⟨p1, n1, c1, p2, n2, c2, p3, n3, c3, hg⟩ := hr; obtain ⟨⟨b0, b1, b2⟩, k0, k1, k2⟩ := box3 hg
          dsimp only [putsL, slotOf]
          rw [h0]
          go_wp2
          refine ⟨rfl, 1, hI4, by omega, (by first | exact ⟨trivial, (show 1 ≤ 1 by omega)⟩ | exact trivial | exact Nat.le_refl _), ?_⟩
          first | exact ub_all ([2, 2, 2, 0, 2, 1, 2] : List Nat) 1 2 3 [0] (by decide) (by decide) s | simpa using ub_all ([2, 2, 2, 0, 2, 1, 2] : List Nat) 1 2 3 [0] (by decide) (by decide) s
        · intro vals s W hI hs ⟨⟨h0, l0⟩, ⟨h1, l1⟩, ⟨h3, l3⟩, _⟩
          have hs : s ≤ 2 := hs
          have l0 : 0 ≤ s := l0
          have l1 : 0 ≤ s := l1
          have l3 : 1 ≤ s := l3
          have h1 : vals 1 = .string ⟨key.toArray⟩ := h1
          dsimp only [putsL, slotOf]
          rw [h1]
          go_wp2
          exact ⟨rfl, s, hI, Nat.le_refl _, (by first | exact ⟨rfl, (show 1 ≤ s by omega)⟩ | exact rfl), (by intros; assumption)⟩
        · intro vals s W hI hs ⟨⟨h0, l0⟩, ⟨h1, l1⟩, ⟨h2, l2⟩, ⟨h3, l3⟩, ⟨h4, l4⟩, _⟩
          have hs : s ≤ 1 := hs
          have l0 : 0 ≤ s := l0
          have l1 : 0 ≤ s := l1
          have l2 : 0 ≤ s := l2
          have l3 : 1 ≤ s := l3
          have l4 : 1 ≤ s := l4
          have h2 : vals 2 = .agg #[.slice ay.pp B.ps.length ay.cp, .slice ay.pk B.ks.length ay.ck, .slice ay.pd B.ds.length ay.cd] := h2
          have hI4 := hI.put2 (by omega) (by omega); have hr := hI.r2; obtain ⟨p1, n1, c1, p2, n2, c2, p3, n3, c3, hg⟩ := hr; obtain ⟨⟨b0, b1, b2⟩, k0, k1, k2⟩ := box3 hg
          dsimp only [putsL, slotOf]
          rw [h2]
          go_wp2
          refine ⟨rfl, 2, hI4, by omega, (by first | exact ⟨trivial, (show 2 ≤ 2 by omega)⟩ | exact trivial | exact Nat.le_refl _), ?_⟩
          first | exact ub_all ([2, 2, 2, 0, 2, 1, 2] : List Nat) 2 2 5 [0, 1, 2, 3, 4] (by decide) (by decide) s | simpa using ub_all ([2, 2, 2, 0, 2, 1, 2] : List Nat) 2 2 5 [0, 1, 2, 3, 4] (by decide) (by decide) s
        · intro vals s W hI hs ⟨⟨h0, l0⟩, ⟨h1, l1⟩, ⟨h2, l2⟩, ⟨h3, l3⟩, ⟨h4, l4⟩, ⟨h5, l5⟩, _⟩
          have hs : s ≤ 2 := hs
          have l0 : 0 ≤ s := l0
          have l1 : 0 ≤ s := l1
          have l2 : 0 ≤ s := l2
          have l3 : 1 ≤ s := l3
          have l4 : 1 ≤ s := l4
          have l5 : 2 ≤ s := l5
          dsimp only [putsL, slotOf]
          go_wp2
          exact ⟨rfl, s, hI, Nat.le_refl _, (by first | exact ⟨rfl, (show 2 ≤ s by omega)⟩ | exact rfl), (by intros; assumption)⟩
        rintro vals s W hI hq
        have q0 : vals 0 = .agg #[.slice ax.pp A.ps.length ax.cp, .slice ax.pk A.ks.length ax.ck, .slice ax.pd A.ds.length ax.cd] := (hq 0 (by decide)).1
        have q1 : vals 1 = .string ⟨key.toArray⟩ := (hq 1 (by decide)).1
        have q2 : vals 2 = .agg #[.slice ay.pp B.ps.length ay.cp, .slice ay.pk B.ks.length ay.ck, .slice ay.pd B.ds.length ay.cd] := (hq 2 (by decide)).1
        have q4 : vals 4 = .string ⟨key.toArray⟩ := (hq 4 (by decide)).1
        have q6 : vals 6 = .int .i64 0 := (hq 6 (by decide)).1
        have hs : 2 ≤ s := (hq 5 (by decide)).2
        dsimp only [putsL]
        rw [q0, q1, q2, q4, q6]
        clear hq q0 q1 q2 q4 q6
        simp only [List.drop_succ_cons, List.drop_zero, List.setIfInBounds_toArray, List.set_cons_succ, List.set_cons_zero]
        go_wp2
        exact bodyPost_ret (results_split (g1 := R1) (g2 := R2) rfl rfl rfl rfl rfl (hI.d1 (by omega)).b (hI.d2 hs).b) rfl ⟨ax, ay, rfl, (hI.d1 (by omega)).s, (hI.d2 hs).s, HFx.out, HFy.out, hI.hn.x⟩

set_option maxRecDepth 20000 in
set_option maxHeartbeats 4000000 in
theorem refsplit2 {w : World} {n : Nd} {a : NdP} (h : NdAt w n a) (hf : NdFit n a) (hok : Veil n.Ok) (hd : 0 < n.ds.length) :
    Calls Try.prog 7 #[n.v a] w (SplPost w n.splA n.splB n.splK n.splE) := by
  have hls : n.least = 2 := by unfold Nd.least; rw [if_neg (by omega)]
  have hdb : 0 < n.ds.length := hd
  have HP : Veil _ := ⟨hok.out.p⟩
  have HD : Veil _ := ⟨hok.out.d⟩
  have HDL : Veil _ := ⟨hd⟩
  clear hd
  obtain ⟨N, hN⟩ : ∃ N, n.ps.length + n.ds.length = N := ⟨_, rfl⟩
  have hNI : ((n.ps.length : Int) + (n.ds.length : Int)) = (N : Int) := by omega
  have HNI : Veil _ := ⟨hNI⟩
  have hNb : N ≤ 200000 := by have := HP.out; have := HD.out; omega
  obtain ⟨W1, W2, W3, hW1, hW2, hW3, HS⟩ := spl_start w h
  obtain ⟨R1, hR1⟩ : ∃ R1, W1.heap.size = R1 := ⟨_, rfl⟩
  obtain ⟨R2, hR2⟩ : ∃ R2, W2.heap.size = R2 := ⟨_, rfl⟩
  have HO : Veil (w.heap.size < R1 ∧ R1 < R2 ∧ R2 < W3.heap.size) := ⟨by have := HS.out.2.2.2; omega⟩
  have HB : Veil (NdBox w n a W3) := ⟨HS.out.1⟩
  have HR1 : Veil (W3.heap[R1]? = some (.cells #[.slice none 0 0, .slice none 0 0, .slice none 0 0] 26 (0, 0))) := ⟨by rw [← hR1]; exact HS.out.2.1⟩
  have HR2 : Veil (W3.heap[R2]? = some (.cells #[.slice none 0 0, .slice none 0 0, .slice none 0 0] 26 (0, 0))) := ⟨by rw [← hR2]; exact HS.out.2.2.1⟩
  obtain ⟨a0, a1, a2⟩ := HB.out.cells
  clear HS
  have HRt : Veil (∀ W, NdAt W n a → Calls Try.prog 22 #[n.v a] W fun e w' => e = .returned (.bool n.right) ∧ Below W.heap.size W w') := ⟨fun W h => refnright_of h hok⟩
  by_cases hgood : n.right = true ∧ 4 ≤ N
  rotate_left
  · have hc0 : n.cutAt = 0 := cut_small (by
      rw [hls, hN]
      by_cases hr : n.right = true
      · exact .inr (by have : ¬ 4 ≤ N := fun hh => hgood ⟨hr, hh⟩
                       omega)
      · exact .inl (by simpa using hr))
    obtain ⟨e1, e2, e3, e4⟩ := spl_none hc0
    rw [e1, e2, e3, e4]
    clear e1 e2 e3 e4 hc0
    unfold Nd.v at *
    go_enter Try.func7, Try.ntmps7
    by_cases hr : n.right = true
    case' pos =>
      have hlt : N < 4 := by
        have : ¬ 4 ≤ N := fun hh => hgood ⟨hr, hh⟩
        omega
      rw [hr] at HRt
      clear hgood hN
      go_wp2_with ((go_at_call 22; (with_reducible refine (HRt.out W3 HB.out.s).mono ?_); rintro e w4 ⟨rfl, hb4⟩; have HB4 : Veil _ := ⟨HB.out.below hb4⟩; have HR14 : Veil _ := ⟨(hb4.block _ (lt_of_heap HR1.out)).trans HR1.out⟩; have HR24 : Veil _ := ⟨(hb4.block _ (lt_of_heap HR2.out)).trans HR2.out⟩; have HZ4 : Veil (W3.heap.size ≤ w4.heap.size) := ⟨hb4.size⟩; clear a0 a1 a2 hb4; obtain ⟨a0, a1, a2⟩ := HB4.out.cells; obtain ⟨⟨x0, x1, x2⟩, k0, k1, k2⟩ := box3 HR14.out; have hT5 := (((Turned.refl (· = R1) w4).setCell (p := ⟨R1, 0, none⟩) rfl (.slice none 0 0)).setCell (p := ⟨R1, 1, none⟩) rfl (.slice none 0 0)).setCell (p := ⟨R1, 2, none⟩) rfl (.slice none 0 0); have hg5 := heap_setCell_at (heap_setCell_at (heap_setCell_at HR14.out 0 (.slice none 0 0)) 1 (.slice none 0 0)) 2 (.slice none 0 0); obtain ⟨W5, hW5⟩ : ∃ W5, ((w4.setCell ⟨R1, 0, none⟩ (.slice none 0 0)).setCell ⟨R1, 1, none⟩ (.slice none 0 0)).setCell ⟨R1, 2, none⟩ (.slice none 0 0) = W5 := ⟨_, rfl⟩; rw [hW5] at hT5; replace hg5 : W5.heap[R1]? = some (.cells #[.slice none 0 0, .slice none 0 0, .slice none 0 0] 26 (0, 0)) := (by rw [← hW5]; exact hg5); have HG5 : Veil _ := ⟨hg5⟩; have HT5 : Veil _ := ⟨hT5⟩; have HH5 : Veil (W5.heap[R2]? = some (.cells #[.slice none 0 0, .slice none 0 0, .slice none 0 0] 26 (0, 0))) := ⟨hT5.heap HR24.out (by have := HO.out; omega)⟩; clear hg5 hT5; obtain ⟨⟨y0, y1, y2⟩, l0, l1, l2⟩ := box3 HH5.out))
    case' neg =>
      replace hr : n.right = false := by simpa using hr
      rw [hr] at HRt
      clear hgood hN
      go_wp2_with ((go_at_call 22; (with_reducible refine (HRt.out W3 HB.out.s).mono ?_); rintro e w4 ⟨rfl, hb4⟩; have HB4 : Veil _ := ⟨HB.out.below hb4⟩; have HR14 : Veil _ := ⟨(hb4.block _ (lt_of_heap HR1.out)).trans HR1.out⟩; have HR24 : Veil _ := ⟨(hb4.block _ (lt_of_heap HR2.out)).trans HR2.out⟩; have HZ4 : Veil (W3.heap.size ≤ w4.heap.size) := ⟨hb4.size⟩; clear a0 a1 a2 hb4; obtain ⟨a0, a1, a2⟩ := HB4.out.cells; obtain ⟨⟨x0, x1, x2⟩, k0, k1, k2⟩ := box3 HR14.out; have hT5 := (((Turned.refl (· = R1) w4).setCell (p := ⟨R1, 0, none⟩) rfl (.slice none 0 0)).setCell (p := ⟨R1, 1, none⟩) rfl (.slice none 0 0)).setCell (p := ⟨R1, 2, none⟩) rfl (.slice none 0 0); have hg5 := heap_setCell_at (heap_setCell_at (heap_setCell_at HR14.out 0 (.slice none 0 0)) 1 (.slice none 0 0)) 2 (.slice none 0 0); obtain ⟨W5, hW5⟩ : ∃ W5, ((w4.setCell ⟨R1, 0, none⟩ (.slice none 0 0)).setCell ⟨R1, 1, none⟩ (.slice none 0 0)).setCell ⟨R1, 2, none⟩ (.slice none 0 0) = W5 := ⟨_, rfl⟩; rw [hW5] at hT5; replace hg5 : W5.heap[R1]? = some (.cells #[.slice none 0 0, .slice none 0 0, .slice none 0 0] 26 (0, 0)) := (by rw [← hW5]; exact hg5); have HG5 : Veil _ := ⟨hg5⟩; have HT5 : Veil _ := ⟨hT5⟩; have HH5 : Veil (W5.heap[R2]? = some (.cells #[.slice none 0 0, .slice none 0 0, .slice none 0 0] 26 (0, 0))) := ⟨hT5.heap HR24.out (by have := HO.out; omega)⟩; clear hg5 hT5; obtain ⟨⟨y0, y1, y2⟩, l0, l1, l2⟩ := box3 HH5.out))
    all_goals
      have hU := (((Turned.refl (· = R2) W5).setCell (p := ⟨R2, 0, none⟩) rfl (.slice none 0 0)).setCell (p := ⟨R2, 1, none⟩) rfl (.slice none 0 0)).setCell (p := ⟨R2, 2, none⟩) rfl (.slice none 0 0)
      have hz := HO.out
      have hx5 := HB4.out.x.trans (HT5.out.toBelow HB4.out.x.size (fun k _ e => by omega))
      exact bodyPost_ret (results_split (g1 := R1) (g2 := R2) rfl rfl rfl rfl rfl (hU.heap HG5.out (by omega)) (heap_setCell_at (heap_setCell_at (heap_setCell_at HH5.out 0 _) 1 _) 2 _)) rfl ⟨⟨none, 0, none, 0, none, 0⟩, ⟨none, 0, none, 0, none, 0⟩, rfl, ⟨Els.nil _ _, Els.nil _ _, Els.nil _ _⟩, ⟨Els.nil _ _, Els.nil _ _, Els.nil _ _⟩, ⟨(OwnE.nil elP w 0).fitN, (OwnE.nil elK w 0).fitN, (OwnE.nil elD w 0).fitN⟩, ⟨(OwnE.nil elP w 0).fitN, (OwnE.nil elK w 0).fitN, (OwnE.nil elD w 0).fitN⟩, hx5.trans (hU.toBelow hx5.size (fun k _ e => by omega))⟩
  · obtain ⟨hr, hNN⟩ := hgood
    have hc0 : n.cutAt ≠ 0 := cut_big hr (by omega)
    obtain ⟨e1, e2, e3, e4⟩ := spl_some hc0
    rw [e1, e2, e3, e4]
    clear e1 e2 e3 e4
    have HCU : Veil (∀ k : Nat, 2 ≤ k → k + 2 ≤ N → ∀ W, NdAt W n a → Calls Try.prog 23 #[n.v a, .int .i64 k] W (CutPost W (n.lo k) (n.hi k) (n.ky k))) := ⟨fun k h1 h2 W hW => cutat_of hW hf hok hr (by omega) (by omega)⟩
    have HEA : Veil (∀ k : Nat, 2 ≤ k → k + 2 ≤ N → ∀ W a', NdAt W (n.lo k) a' → Calls Try.prog 24 #[(n.lo k).v a'] W fun e w' => e = .returned (.string ⟨(n.lo k).enc.toArray⟩) ∧ Below W.heap.size W w') := ⟨fun k h1 h2 W a' hW => bytes_of hW ⟨(lohi_ok hok.out k).1⟩ (Nd.right_kd (halves_at hr (by omega) (by omega)).1.1)⟩
    have HEB : Veil (∀ k : Nat, 2 ≤ k → k + 2 ≤ N → ∀ W a', NdAt W (n.hi k) a' → Calls Try.prog 24 #[(n.hi k).v a'] W fun e w' => e = .returned (.string ⟨(n.hi k).enc.toArray⟩) ∧ Below W.heap.size W w') := ⟨fun k h1 h2 W a' hW => bytes_of hW ⟨(lohi_ok hok.out k).2⟩ (Nd.right_kd (halves_at hr (by omega) (by omega)).2.1)⟩
    have HGG : Veil (∀ k : Nat, 2 ≤ k → k + 2 ≤ N → max (n.lo k).enc.length (n.hi k).enc.length = n.lgr k) := ⟨fun k h1 h2 => lgr_enc hr (by omega) (by omega)⟩
    have HCA : Veil (n.cutAt = (cutSt 2 n.lgr (N + 1 - 2)).1 ∧ 2 ≤ n.cutAt ∧ n.cutAt + 2 ≤ N) := ⟨by
      obtain ⟨q1, q2, q3⟩ := cutAt_in hc0
      exact ⟨by rw [Nd.cutAt, if_pos hr, hls, hN], by omega, by omega⟩⟩
    rw [hr] at HRt
    have HLG : Veil (n.lgr = n.lgr) := ⟨rfl⟩
    clear hc0 hr hf hls hN
    revert HCA; revert HGG
    generalize n.cutAt = bs0
    generalize n.lgr = gr
    intro HGG HCA
    obtain ⟨A, hA⟩ : ∃ A, n.lo bs0 = A := ⟨_, rfl⟩
    obtain ⟨B, hB⟩ : ∃ B, n.hi bs0 = B := ⟨_, rfl⟩
    obtain ⟨key, hK⟩ : ∃ key, n.ky bs0 = key := ⟨_, rfl⟩
    rw [hA, hB, hK]
    have HAq : Veil _ := ⟨hA⟩
    have HBq : Veil _ := ⟨hB⟩
    have HKq : Veil _ := ⟨hK⟩
    clear hA hB hK
    unfold Nd.v at *
    go_enter Try.func7, Try.ntmps7
    go_wp2_with ((go_at_call 22; (with_reducible refine (HRt.out W3 HB.out.s).mono ?_); rintro e w4 ⟨rfl, hb4⟩; have HB4 : Veil _ := ⟨HB.out.below hb4⟩; have HR14 : Veil _ := ⟨(hb4.block _ (lt_of_heap HR1.out)).trans HR1.out⟩; have HR24 : Veil _ := ⟨(hb4.block _ (lt_of_heap HR2.out)).trans HR2.out⟩; have HZ4 : Veil (W3.heap.size ≤ w4.heap.size) := ⟨hb4.size⟩; clear a0 a1 a2 hb4; obtain ⟨a0, a1, a2⟩ := HB4.out.cells))
    have HX4 : Veil (Below w.heap.size w w4) := ⟨HB4.out.x⟩
    have HW4 : Veil (W3.heap.size ≤ w4.heap.size) := ⟨HZ4.out⟩
    try rw [hR1]
    try rw [hR2]
    clear HRt a0 a1 a2 hW1 hW2 hW3 hR1 hR2 HB HR1 HR2 hdb
    go_loopw [9, 10, 11] (fun b m i wr => ∃ k : Nat, 2 ≤ k ∧ k ≤ N + 1 - 2 ∧ i = .int .i64 k ∧ b = .int .i64 (cutSt 2 gr k).1 ∧ m = .int .i64 (cutSt 2 gr k).2 ∧ Veil (Below w4.heap.size w4 wr)) (fun _ _ i _ => N + 1 - 2 - (intOf i).toNat)
    case atStart => exact ⟨2, Nat.le_refl _, by omega, rfl, by rw [cutSt_few _ (Nat.le_refl _)]; rfl, by rw [cutSt_few _ (Nat.le_refl _)]; rfl, ⟨Below.refl _ _⟩⟩
    case round =>
      obtain ⟨k, hk, hk2, rfl, hbv, hmv, hJ⟩ := hrel
      have HBr : Veil _ := ⟨HB4.out.below hJ.out⟩
      obtain ⟨a0, a1, a2⟩ := HBr.out.cells
      have hkI : (0 : Int) ≤ k := by omega
      by_cases hlt : k + 2 ≤ N
      · have HC1 : Veil _ := ⟨HCU.out k hk hlt⟩
        have HE1 : Veil _ := ⟨HEA.out k hk hlt⟩
        have HE2 : Veil _ := ⟨HEB.out k hk hlt⟩
        have HM1 : Veil _ := ⟨HGG.out k hk hlt⟩
        have HMX : Veil (∀ W, (Builtin.max_ #[3, 3] 3 #[.int .i64 ((n.lo k).enc.length : Int), .int .i64 ((n.hi k).enc.length : Int)]).run Try.prog W = .ok (.int .i64 ((gr k : Nat) : Int)) W) := ⟨fun W => by rw [max_nat, HM1.out]⟩
        have HYES : Veil _ := ⟨fun hc => cutSt_yes (ls := 2) (g := gr) hk hc⟩
        have HNOT : Veil _ := ⟨fun h1 h2 => cutSt_no (ls := 2) (g := gr) (k := k) h1 h2⟩
        clear HM1
        revert HNOT; revert HYES; revert HMX; revert HE2; revert HE1; revert HC1; revert hmv; revert hbv
        generalize cutSt 2 gr k = stt
        obtain ⟨bs, ms⟩ := stt
        dsimp only
        generalize gr k = g
        generalize n.ky k = key
        generalize n.lo k = A
        generalize n.hi k = B
        generalize A.enc = EA
        generalize B.enc = EB
        rintro rfl rfl HC1 HE1 HE2 HMX HYES HNOT
        go_wp2_with ((go_at_call 23; (with_reducible refine (HC1.out wr HBr.out.s).mono ?_); rintro e w5 ⟨ax, ay, rfl, hx, hy, fx, fy, hb⟩; obtain ⟨u1, u2, u3, u4, hu1, hu2, hu3, hu4, hz1, hz2, HU⟩ := two_box w5 (.slice ax.pp A.ps.length ax.cp) (.slice ax.pk A.ks.length ax.ck) (.slice ax.pd A.ds.length ax.cd) (.slice ay.pp B.ps.length ay.cp) (.slice ay.pk B.ks.length ay.ck) (.slice ay.pd B.ds.length ay.cd); obtain ⟨⟨i0, i1, i2⟩, j0, j1, j2⟩ := box3 hz1; obtain ⟨⟨p0, p1, p2⟩, q0, q1, q2⟩ := box3 hz2; have HN4 : Veil _ := ⟨(HBr.out.below hb).below HU.out.2.2.1⟩; have HAx : Veil (NBox u4 w5.heap.size A ax) := ⟨⟨HU.out.1, hx.below HU.out.2.2.1⟩⟩; have HAy : Veil (NBox u4 u1.heap.size B ay) := ⟨⟨HU.out.2.1, hy.below HU.out.2.2.1⟩⟩; have HFx : Veil _ := ⟨fx⟩; have HFy : Veil _ := ⟨fy⟩; have HBw : Veil (Below w4.heap.size w4 u4) := ⟨bn_then (bn_then hJ.out hb) HU.out.2.2.1⟩; clear hb hx hy fx fy hz1 hz2))
        have HW6 : Veil _ := ⟨HBw.out⟩
        clear HBw HN4 i0 i1 i2 j0 j1 j2 p0 p1 p2 q0 q1 q2 hu1 hu2 hu3 hu4 a0 a1 a2
        refine region_new [.is (.agg #[.slice ax.pp A.ps.length ax.cp, .slice ax.pk A.ks.length ax.ck, .slice ax.pd A.ds.length ax.cd]), .is (.string ⟨EA.toArray⟩), .is (.int .i64 (EA.length : Int)), .is (.agg #[.slice ay.pp B.ps.length ay.cp, .slice ay.pk B.ks.length ay.ck, .slice ay.pd B.ds.length ay.cd]), .is (.string ⟨EB.toArray⟩), .is (.int .i64 (EB.length : Int)), .is (.int .i64 (g : Int))]
          [[], [(0, 57)], [(1, 58)], [], [(3, 60)], [(4, 61)], [(2, 59), (5, 62)]]
          [[], [0], [1], [], [1, 3], [4], [2, 5]]
          [(0, 57), (1, 58), (2, 59), (3, 60), (4, 61), (5, 62), (6, 63)] rfl (by kernel_rfl) ⟨?_, ?_, ?_, ?_, ?_, ?_, ?_, trivial⟩ ?_
        · intro vals W hB _
          obtain ⟨b0, b1, b2⟩ := (HAx.out.below hB).cells
          dsimp only [putsL, slotOf]
          go_wp2
          exact ⟨rfl, Below.refl _ _, rfl⟩
        · intro vals W hB ⟨h0, _⟩
          have h0 : vals 0 = _ := h0
          dsimp only [putsL, slotOf]
          rw [h0]
          go_wp2_with ((go_at_call 24; (with_reducible refine (HE1.out W _ (HAx.out.below hB).s).mono ?_); rintro e w6 ⟨rfl, hb4⟩))
          exact ⟨rfl, hb4, rfl⟩
        · intro vals W hB ⟨h1, _⟩
          have h1 : vals 1 = _ := h1
          dsimp only [putsL, slotOf]
          rw [h1]
          go_wp2
          exact ⟨rfl, Below.refl _ _, rfl⟩
        · intro vals W hB _
          obtain ⟨b0, b1, b2⟩ := (HAy.out.below hB).cells
          dsimp only [putsL, slotOf]
          go_wp2
          exact ⟨rfl, Below.refl _ _, rfl⟩
        · intro vals W hB ⟨h1, h3, _⟩
          have h3 : vals 3 = _ := h3
          dsimp only [putsL, slotOf]
          rw [h3]
          go_wp2_with ((go_at_call 24; (with_reducible refine (HE2.out W _ (HAy.out.below hB).s).mono ?_); rintro e w6 ⟨rfl, hb4⟩))
          exact ⟨rfl, hb4, rfl⟩
        · intro vals W hB ⟨h4, _⟩
          have h4 : vals 4 = _ := h4
          dsimp only [putsL, slotOf]
          rw [h4]
          go_wp2
          exact ⟨rfl, Below.refl _ _, rfl⟩
        · intro vals W hB ⟨h2, h5, _⟩
          have h2 : vals 2 = _ := h2
          have h5 : vals 5 = _ := h5
          have hmx := HMX.out
          dsimp only [putsL, slotOf]
          rw [h2, h5]
          go_wp2
          exact ⟨rfl, Below.refl _ _, rfl⟩
        rintro vals W6 hB ⟨q0, q1, q2, q3, q4, q5, q6, -⟩
        have h0 : vals 0 = _ := q0
        have h1 : vals 1 = _ := q1
        have h2 : vals 2 = _ := q2
        have h3 : vals 3 = _ := q3
        have h4 : vals 4 = _ := q4
        have h5 : vals 5 = _ := q5
        have h6 : vals 6 = _ := q6
        dsimp only [putsL]
        rw [h0, h1, h2, h3, h4, h5, h6]
        clear h0 q0 h1 q1 h2 q2 h3 q3 h4 q4 h5 q5 h6 q6
        simp only [List.length_cons, List.length_nil, Nat.reduceAdd, List.drop_succ_cons, List.drop_zero, List.setIfInBounds_toArray, List.set_cons_succ, List.set_cons_zero]
        have HBz : Veil (Below w4.heap.size w4 W6) := ⟨bn_then HW6.out hB⟩
        clear hB HW6
        by_cases hc : bs = 0 ∨ g < ms
        · rcases hc with hc | hc
          · have hst := HYES.out (.inl hc)
            have hbb : ((bs : Int) == 0) = true := by rw [beq_iff_eq]; omega
            clear hc
            go_wp2
            refine ⟨⟨k + 1, by omega, by omega, by go_num, by rw [hst], by rw [hst], HBz⟩, ?_⟩
            simp only [intOf]; omega
          · have hst := HYES.out (.inr hc)
            by_cases hb0 : bs = 0
            · have hbb : ((bs : Int) == 0) = true := by rw [beq_iff_eq]; omega
              clear hb0
              go_wp2
              refine ⟨⟨k + 1, by omega, by omega, by go_num, by rw [hst], by rw [hst], HBz⟩, ?_⟩
              simp only [intOf]; omega
            · have hbb : ((bs : Int) == 0) = false := by rw [beq_eq_false_iff_ne]; omega
              clear hb0
              go_wp2
              refine ⟨⟨k + 1, by omega, by omega, by go_num, by rw [hst], by rw [hst], HBz⟩, ?_⟩
              simp only [intOf]; omega
        · have hst := HNOT.out (fun h => hc (.inl h)) (fun h => hc (.inr h))
          have hbb : ((bs : Int) == 0) = false := by rw [beq_eq_false_iff_ne]; omega
          have hge : ¬ g < ms := fun h => hc (.inr h)
          clear hc
          go_wp2
          refine ⟨⟨k + 1, by omega, by omega, by go_num, by rw [hst], by rw [hst], HBz⟩, ?_⟩
          simp only [intOf]; omega
      · have hke : N + 1 - 2 = k := by omega
        have hq := HCA.out
        rw [hke] at hq
        have hc1 := HCU.out bs0 hq.2.1 hq.2.2
        rw [HAq.out, HBq.out, HKq.out] at hc1
        have HC1 : Veil _ := ⟨hc1⟩
        clear hc1
        rw [← hq.1] at hbv
        subst hbv
        clear hq hmv HCU HEA HEB HGG HCA
        go_wp2_with ((go_at_call 23; (with_reducible refine (HC1.out wr HBr.out.s).mono ?_); rintro e w5 ⟨ax, ay, rfl, hx, hy, fx, fy, hb⟩; obtain ⟨u1, u2, u3, u4, hu1, hu2, hu3, hu4, hz1, hz2, HU⟩ := two_box w5 (.slice ax.pp A.ps.length ax.cp) (.slice ax.pk A.ks.length ax.ck) (.slice ax.pd A.ds.length ax.cd) (.slice ay.pp B.ps.length ay.cp) (.slice ay.pk B.ks.length ay.ck) (.slice ay.pd B.ds.length ay.cd); obtain ⟨⟨i0, i1, i2⟩, j0, j1, j2⟩ := box3 hz1; obtain ⟨⟨p0, p1, p2⟩, q0, q1, q2⟩ := box3 hz2; have HN4 : Veil _ := ⟨(HBr.out.below hb).below HU.out.2.2.1⟩; have HAx : Veil (NBox u4 w5.heap.size A ax) := ⟨⟨HU.out.1, hx.below HU.out.2.2.1⟩⟩; have HAy : Veil (NBox u4 u1.heap.size B ay) := ⟨⟨HU.out.2.1, hy.below HU.out.2.2.1⟩⟩; have HFx : Veil _ := ⟨fx⟩; have HFy : Veil _ := ⟨fy⟩; have HBw : Veil (Below w4.heap.size w4 u4) := ⟨bn_then (bn_then hJ.out hb) HU.out.2.2.1⟩; have HZ5 : Veil (wr.heap.size ≤ w5.heap.size) := ⟨hb.size⟩; clear hb hx hy fx fy hz1 hz2))
        obtain ⟨G1, hG1⟩ : ∃ G1, w5.heap.size = G1 := ⟨_, rfl⟩
        obtain ⟨G2, hG2⟩ : ∃ G2, u1.heap.size = G2 := ⟨_, rfl⟩
        have HI0 : Veil (SpJ w n a R1 R2 G1 G2 A ax B ay 0 u4.drew) := ⟨by
          have hz1 := lt_of_heap HAx.out.b
          have hz2 := HU.out.2.2.2
          have hz3 : wr.heap.size ≤ w5.heap.size := HZ5.out
          have hz4 := hJ.out.size
          have hz5 := HW4.out
          have hz6 := HO.out
          have hx1 := HAx.out
          have hy1 := HAy.out
          rw [hG1] at hx1
          rw [hG2] at hy1
          have h1 : Box3 w4 R1 := ⟨_, _, _, _, _, _, _, _, _, HR14.out⟩
          have h2 : Box3 w4 R2 := ⟨_, _, _, _, _, _, _, _, _, HR24.out⟩
          have hj : SpJ w n a R1 R2 G1 G2 A ax B ay 0 u4 := ⟨HN4.out, hx1, hy1, h1.below HBw.out, h2.below HBw.out, fun e => absurd e (by omega), fun e => absurd e (by omega), by omega⟩
          exact hj.below (Below.refl _ _).drew⟩
        rw [hG1, hG2]
        clear hG1 hG2 HBw HN4 HAx HAy i0 i1 i2 j0 j1 j2 p0 p1 p2 q0 q1 q2 hu1 hu2 hu3 hu4 a0 a1 a2 HU HC1 HR14 HR24 HBr HB4 hJ HZ5 HW4 hlt hke hk hk2 hkI
        refine region_stage 7 [[], [], [], [(0, 80)], [(1, 81)], [(2, 82)], []]
          [[], [], [], [0], [0, 1, 3], [0, 1, 2, 3, 4], [0, 1, 2, 3, 4, 5]]
          [(0, 80), (1, 81), (2, 82), (4, 3), (6, 5)]
          (fun s W => SpJ w n a R1 R2 G1 G2 A ax B ay s W)
          (fun i => ([fun v => v = .agg #[.slice ax.pp A.ps.length ax.cp, .slice ax.pk A.ks.length ax.ck, .slice ax.pd A.ds.length ax.cd], fun v => v = .string ⟨key.toArray⟩, fun v => v = .agg #[.slice ay.pp B.ps.length ay.cp, .slice ay.pk B.ks.length ay.ck, .slice ay.pd B.ds.length ay.cd], fun _ => True, fun v => v = .string ⟨key.toArray⟩, fun _ => True, fun v => v = .int .i64 0] : List (Value → Prop)).getD i fun _ => True)
          (fun i => [0, 0, 0, 1, 1, 2, 2].getD i 0) (fun i => [2, 2, 2, 0, 2, 1, 2].getD i 2) rfl (by kernel_rfl) ?_ ⟨?_, ?_, ?_, ?_, ?_, ?_, ?_, trivial⟩ ?_
        · exact HI0.out
        · intro vals s W hI hs _
          have hs : s ≤ 2 := hs
          obtain ⟨⟨b0, b1, b2⟩, -⟩ := box3 hI.hx.b
          dsimp only [putsL, slotOf]
          go_wp2
          exact ⟨rfl, s, hI, Nat.le_refl _, (by first | exact ⟨rfl, (show 0 ≤ s by omega)⟩ | exact rfl), (by intros; assumption)⟩
        · intro vals s W hI hs _
          have hs : s ≤ 2 := hs
          dsimp only [putsL, slotOf]
          go_wp2
          exact ⟨rfl, s, hI, Nat.le_refl _, (by first | exact ⟨rfl, (show 0 ≤ s by omega)⟩ | exact rfl), (by intros; assumption)⟩
        · intro vals s W hI hs _
          have hs : s ≤ 2 := hs
          obtain ⟨⟨b0, b1, b2⟩, -⟩ := box3 hI.hy.b
          dsimp only [putsL, slotOf]
          go_wp2
          exact ⟨rfl, s, hI, Nat.le_refl _, (by first | exact ⟨rfl, (show 0 ≤ s by omega)⟩ | exact rfl), (by intros; assumption)⟩
        · intro vals s W hI hs ⟨⟨h0, l0⟩, _⟩
          have hs : s ≤ 0 := hs
          have l0 : 0 ≤ s := l0
          have h0 : vals 0 = .agg #[.slice ax.pp A.ps.length ax.cp, .slice ax.pk A.ks.length ax.ck, .slice ax.pd A.ds.length ax.cd] := h0
          have hI4 := hI.put1 (by omega); have hr := hI.r1; obtain ⟨p1, n1, c1, p2, n2, c2, p3, n3, c3, hg⟩ := hr; obtain ⟨⟨b0, b1, b2⟩, k0, k1, k2⟩ := box3 hg
          dsimp only [putsL, slotOf]
          rw [h0]
          go_wp2
          refine ⟨rfl, 1, hI4, by omega, (by first | exact ⟨trivial, (show 1 ≤ 1 by omega)⟩ | exact trivial | exact Nat.le_refl _), ?_⟩
          first | exact ub_all ([2, 2, 2, 0, 2, 1, 2] : List Nat) 1 2 3 [0] (by decide) (by decide) s | simpa using ub_all ([2, 2, 2, 0, 2, 1, 2] : List Nat) 1 2 3 [0] (by decide) (by decide) s
        · intro vals s W hI hs ⟨⟨h0, l0⟩, ⟨h1, l1⟩, ⟨h3, l3⟩, _⟩
          have hs : s ≤ 2 := hs
          have l0 : 0 ≤ s := l0
          have l1 : 0 ≤ s := l1
          have l3 : 1 ≤ s := l3
          have h1 : vals 1 = .string ⟨key.toArray⟩ := h1
          dsimp only [putsL, slotOf]
          rw [h1]
          go_wp2
          exact ⟨rfl, s, hI, Nat.le_refl _, (by first | exact ⟨rfl, (show 1 ≤ s by omega)⟩ | exact rfl), (by intros; assumption)⟩
        · intro vals s W hI hs ⟨⟨h0, l0⟩, ⟨h1, l1⟩, ⟨h2, l2⟩, ⟨h3, l3⟩, ⟨h4, l4⟩, _⟩
          have hs : s ≤ 1 := hs
          have l0 : 0 ≤ s := l0
          have l1 : 0 ≤ s := l1
          have l2 : 0 ≤ s := l2
          have l3 : 1 ≤ s := l3
          have l4 : 1 ≤ s := l4
          have h2 : vals 2 = .agg #[.slice ay.pp B.ps.length ay.cp, .slice ay.pk B.ks.length ay.ck, .slice ay.pd B.ds.length ay.cd] := h2
          have hI4 := hI.put2 (by omega) (by omega); have hr := hI.r2; obtain ⟨p1, n1, c1, p2, n2, c2, p3, n3, c3, hg⟩ := hr; obtain ⟨⟨b0, b1, b2⟩, k0, k1, k2⟩ := box3 hg
          dsimp only [putsL, slotOf]
          rw [h2]
          go_wp2
          refine ⟨rfl, 2, hI4, by omega, (by first | exact ⟨trivial, (show 2 ≤ 2 by omega)⟩ | exact trivial | exact Nat.le_refl _), ?_⟩
          first | exact ub_all ([2, 2, 2, 0, 2, 1, 2] : List Nat) 2 2 5 [0, 1, 2, 3, 4] (by decide) (by decide) s | simpa using ub_all ([2, 2, 2, 0, 2, 1, 2] : List Nat) 2 2 5 [0, 1, 2, 3, 4] (by decide) (by decide) s
        · intro vals s W hI hs ⟨⟨h0, l0⟩, ⟨h1, l1⟩, ⟨h2, l2⟩, ⟨h3, l3⟩, ⟨h4, l4⟩, ⟨h5, l5⟩, _⟩
          have hs : s ≤ 2 := hs
          have l0 : 0 ≤ s := l0
          have l1 : 0 ≤ s := l1
          have l2 : 0 ≤ s := l2
          have l3 : 1 ≤ s := l3
          have l4 : 1 ≤ s := l4
          have l5 : 2 ≤ s := l5
          dsimp only [putsL, slotOf]
          go_wp2
          exact ⟨rfl, s, hI, Nat.le_refl _, (by first | exact ⟨rfl, (show 2 ≤ s by omega)⟩ | exact rfl), (by intros; assumption)⟩
        rintro vals s W hI hq
        have q0 : vals 0 = .agg #[.slice ax.pp A.ps.length ax.cp, .slice ax.pk A.ks.length ax.ck, .slice ax.pd A.ds.length ax.cd] := (hq 0 (by decide)).1
        have q1 : vals 1 = .string ⟨key.toArray⟩ := (hq 1 (by decide)).1
        have q2 : vals 2 = .agg #[.slice ay.pp B.ps.length ay.cp, .slice ay.pk B.ks.length ay.ck, .slice ay.pd B.ds.length ay.cd] := (hq 2 (by decide)).1
        have q4 : vals 4 = .string ⟨key.toArray⟩ := (hq 4 (by decide)).1
        have q6 : vals 6 = .int .i64 0 := (hq 6 (by decide)).1
        have hs : 2 ≤ s := (hq 5 (by decide)).2
        dsimp only [putsL]
        rw [q0, q1, q2, q4, q6]
        clear hq q0 q1 q2 q4 q6
        simp only [List.drop_succ_cons, List.drop_zero, List.setIfInBounds_toArray, List.set_cons_succ, List.set_cons_zero]
        go_wp2
        exact bodyPost_ret (results_split (g1 := R1) (g2 := R2) rfl rfl rfl rfl rfl (hI.d1 (by omega)).b (hI.d2 hs).b) rfl ⟨ax, ay, rfl, (hI.d1 (by omega)).s, (hI.d2 hs).s, HFx.out, HFy.out, hI.hn.x⟩

theorem refsplit_of {w : World} {n : Nd} {a : NdP} (h : NdAt w n a) (hf : NdFit n a) (hok : Veil n.Ok) : Calls Try.prog 7 #[n.v a] w (SplPost w n.splA n.splB n.splK n.splE) := by
  by_cases hd : n.ds.length = 0
  · exact refsplit1 h hf hok hd
  · exact refsplit2 h hf hok (by omega)
end Go.Proofs.Ytalnmaoidaldhaa
