/- Keys: the document's own Right, Key, Of. -/
import Derived.Test.YtgaahgnjmhnggaaKC0
import Derived.Test.YtgaahgnjmhnggaaKF1
namespace Go.Proofs.Ytgaahgnjmhnggaa
open Go Go.RowKit Sm
attribute [local go_sem] Oper.semAt_some

theorem ret_bool {a b : Bool} (h : a = b) : Ending.returned (.bool a) = Ending.returned (.bool b) := by rw [h]
set_option maxRecDepth 20000 in
set_option maxHeartbeats 1000000 in
theorem refplace_any (p : Pl) (w : World) : Calls Try.prog 14 #[p.v] w fun e w' => e = .returned (.bool p.right) ∧ Below w.heap.size w w' := by
  obtain ⟨r, hr⟩ : ∃ r, p.right = r := ⟨_, rfl⟩
  obtain ⟨k, a, i, m⟩ := p
  unfold Pl.v
  rw [hr]
  unfold Pl.right at hr
  dsimp only at *
  obtain ⟨A, hA⟩ : ∃ A : Int, (a : Int) = A := ⟨_, rfl⟩
  obtain ⟨I, hI⟩ : ∃ I : Int, (i : Int) = I := ⟨_, rfl⟩
  obtain ⟨M, hM⟩ : ∃ M : Int, (m : Int) = M := ⟨_, rfl⟩
  have HN : Veil ((a : Int) = A ∧ (i : Int) = I ∧ (m : Int) = M) := ⟨hA, hI, hM⟩
  have HR : Veil _ := ⟨hr⟩
  rw [hA, hI, hM]
  clear hA hI hM hr
  by_cases k1 : k = 1
  · subst k1
    go_enter Try.func14, Try.ntmps14
    go_wp2
    all_goals
      go_ret
      refine ⟨ret_bool ?_, below_al (Below.refl _ _) _⟩
      have h := HR.out
      obtain ⟨h1, h2, h3⟩ := HN.out
      rw [if_pos trivial] at h
      subst h
      rw [Bool.eq_iff_iff]
      simp
      omega
  by_cases k2 : k = 2
  · subst k2
    go_enter Try.func14, Try.ntmps14
    go_wp2
    all_goals
      go_ret
      refine ⟨ret_bool ?_, below_al (Below.refl _ _) _⟩
      have h := HR.out
      obtain ⟨h1, h2, h3⟩ := HN.out
      rw [if_neg (by decide), if_pos trivial] at h
      subst h
      rw [Bool.eq_iff_iff]
      simp
      omega
  by_cases k3 : k = 3
  · subst k3
    go_enter Try.func14, Try.ntmps14
    go_wp2
    all_goals
      go_ret
      refine ⟨ret_bool ?_, below_al (Below.refl _ _) _⟩
      have h := HR.out
      obtain ⟨h1, h2, h3⟩ := HN.out
      rw [if_neg (by decide), if_neg (by decide), if_pos trivial] at h
      subst h
      rw [Bool.eq_iff_iff]
      simp
      omega
  by_cases k4 : k = 4
  · subst k4
    go_enter Try.func14, Try.ntmps14
    go_wp2
    all_goals
      go_ret
      refine ⟨ret_bool ?_, below_al (Below.refl _ _) _⟩
      have h := HR.out
      obtain ⟨h1, h2, h3⟩ := HN.out
      rw [if_neg (by decide), if_neg (by decide), if_neg (by decide), if_pos trivial] at h
      subst h
      rw [Bool.eq_iff_iff]
      simp
      omega
  by_cases k5 : k = 5
  · subst k5
    go_enter Try.func14, Try.ntmps14
    go_wp2
    all_goals
      go_ret
      refine ⟨ret_bool ?_, below_al (Below.refl _ _) _⟩
      have h := HR.out
      obtain ⟨h1, h2, h3⟩ := HN.out
      rw [if_neg (by decide), if_neg (by decide), if_neg (by decide), if_neg (by decide), if_pos trivial] at h
      subst h
      rw [Bool.eq_iff_iff]
      simp
      omega
  by_cases k6 : k = 6
  · subst k6
    go_enter Try.func14, Try.ntmps14
    go_wp2
    all_goals
      go_ret
      refine ⟨ret_bool ?_, below_al (Below.refl _ _) _⟩
      have h := HR.out
      obtain ⟨h1, h2, h3⟩ := HN.out
      rw [if_neg (by decide), if_neg (by decide), if_neg (by decide), if_neg (by decide), if_neg (by decide), if_pos trivial] at h
      subst h
      rw [Bool.eq_iff_iff]
      simp
      omega
  · have HF : Veil (r = false) := ⟨by have h := HR.out; rw [if_neg k1, if_neg k2, if_neg k3, if_neg k4, if_neg k5, if_neg k6] at h; exact h.symm⟩
    go_enter Try.func14, Try.ntmps14
    go_wp2
    all_goals
      go_ret
      exact ⟨ret_bool HF.out.symm, below_al (Below.refl _ _) _⟩
end Go.Proofs.Ytgaahgnjmhnggaa
