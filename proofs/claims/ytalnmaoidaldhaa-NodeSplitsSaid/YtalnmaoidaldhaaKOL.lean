/- Reckoning: what a leaf is with a pair put, with one deleted. -/
import Derived.Test.YtalnmaoidaldhaaKOF
import Derived.Test.YtalnmaoidaldhaaKOC
import Derived.Test.YtalnmaoidaldhaaKOE
namespace Go.Proofs.Ytalnmaoidaldhaa
open Go Go.RowKit Sm

theorem getD_of {α : Type} {L : List α} {i : Nat} {d : α} (h : i < L.length) : L.getD i d = L[i] := by simp [List.getD, h]
theorem leaf_pw (n : Nd) : n.leaf = true ↔ (n.ks.length = 0 ∧ n.ds.length = 0 ∧ n.ps.length ≤ 255) ∧ (∀ p ∈ n.ps, rightP p = true) ∧ n.ps.Pairwise (fun a b => lessB a.k b.k = true) := by
  constructor
  · intro h
    have hr : n.right = true := by rw [Nd.right, h]; rfl
    obtain ⟨hs, hg⟩ := n.leaf_iff.1 h
    refine ⟨hs, fun p hp => ?_, ?_⟩
    · obtain ⟨i, hi, rfl⟩ := List.getElem_of_mem hp
      have := hg i hi
      simp only [goodP, Bool.and_eq_true] at this
      rw [getD_of hi] at this
      exact this.1
    · rw [List.pairwise_iff_getElem]
      intro i j hi hj hij
      have := rise_lt (Nd.right_rise hr) j i hij (by rw [keys_len]; omega)
      rw [keys_getP hi, keys_getP hj, getD_of hi, getD_of hj] at this
      exact this
  · rintro ⟨hs, h1, h2⟩
    refine n.leaf_iff.2 ⟨hs, fun i hi => ?_⟩
    simp only [goodP, Bool.and_eq_true, Bool.or_eq_true, decide_eq_true_eq]
    refine ⟨by rw [getD_of hi]; exact h1 _ (List.getElem_mem hi), ?_⟩
    by_cases h0 : i = 0
    · exact .inl h0
    · right
      rw [getD_of hi, getD_of (show i - 1 < n.ps.length by omega)]
      exact List.pairwise_iff_getElem.1 h2 (i - 1) i (by omega) hi (by omega)
theorem right_leafS {m : Nd} (h : m.ds = []) : m.right = m.leaf := by
  have : m.branch = false := by
    cases hb : m.branch with
    | false => rfl
    | true => have := (m.branch_iff.1 hb).1.2.1; rw [h] at this; simp at this
  rw [Nd.right, this, Bool.or_false]
/-- A leaf, parted at a key. -/
theorem leaf_parts {n : Nd} (h : n.leaf = true) (key : List UInt8) :
    (∀ q ∈ n.ps.take (n.place key), lessB q.k key = true) ∧ (∀ q ∈ n.ps.drop (n.past key), lessB key q.k = true) ∧
    ((n.hit key = true ∧ ∃ q, q.k = key ∧ n.ps = n.ps.take (n.place key) ++ [q] ++ n.ps.drop (n.past key)) ∨ (n.hit key = false ∧ n.ps = n.ps.take (n.place key) ++ n.ps.drop (n.past key))) := by
  have hr : n.right = true := by rw [Nd.right, h]; rfl
  obtain ⟨hpl, hf, -⟩ := place_facts hr key
  obtain ⟨hle, hpast, -⟩ := leaf_place h key
  have hpw := ((leaf_pw n).1 h).2.2
  refine ⟨fun q hq => ?_, fun q hq => ?_, ?_⟩
  · obtain ⟨i, hi, rfl⟩ := List.getElem_of_mem hq
    rw [List.length_take] at hi
    have := hf i (by omega)
    rw [getD_of (by omega)] at this
    rw [List.getElem_take, this]; simp; omega
  · obtain ⟨i, hi, rfl⟩ := List.getElem_of_mem hq
    rw [List.length_drop] at hi
    rw [List.getElem_drop]
    have hge : ∀ j, n.place key ≤ j → (hj : j < n.ps.length) → lessB n.ps[j].k key = false := fun j hj hlt => by
      have := hf j hlt
      rw [getD_of hlt] at this
      rw [this]; simp; omega
    cases hh : n.hit key with
    | true =>
      have hp : n.past key = n.place key + 1 := by rw [Nd.past, hh]; rfl
      simp only [Nd.hit, Bool.and_eq_true, decide_eq_true_eq, beq_iff_eq] at hh
      rw [getD_of hh.1] at hh
      have h1 := List.pairwise_iff_getElem.1 hpw (n.place key) (n.past key + i) hh.1 (by omega) (by omega)
      rw [hh.2] at h1
      exact h1
    | false =>
      have hp : n.past key = n.place key := by rw [Nd.past, hh]; rfl
      have h0 : n.place key < n.ps.length := by omega
      have hne : ¬ n.ps[n.place key].k = key := fun e => by
        rw [Nd.hit] at hh
        simp only [Bool.and_eq_false_iff, decide_eq_false_iff_not, beq_eq_false_iff_ne] at hh
        rcases hh with hh | hh
        · exact hh h0
        · rw [getD_of h0] at hh; exact hh e
      have h1 : lessB key n.ps[n.place key].k = true := lessB_total _ _ (hge _ (Nat.le_refl _) h0) hne
      by_cases hi0 : i = 0
      · subst hi0
        simp only [hp, Nat.add_zero]
        exact h1
      · exact lessB_trans _ _ _ h1 (List.pairwise_iff_getElem.1 hpw (n.place key) (n.past key + i) h0 (by omega) (by omega))
  · cases hh : n.hit key with
    | true =>
      have hp : n.past key = n.place key + 1 := by rw [Nd.past, hh]; rfl
      simp only [Nd.hit, Bool.and_eq_true, decide_eq_true_eq, beq_iff_eq] at hh
      rw [getD_of hh.1] at hh
      refine .inl ⟨rfl, n.ps[n.place key], hh.2, ?_⟩
      rw [hp]
      conv => lhs; rw [← List.take_append_drop (n.place key) n.ps, List.drop_eq_getElem_cons hh.1]
      simp
    | false =>
      have hp : n.past key = n.place key := by rw [Nd.past, hh]; rfl
      exact .inr ⟨rfl, by rw [hp, List.take_append_drop]⟩
/-- Put a right pair between: a leaf, if there is room. -/
theorem putM_right {n : Nd} (h : n.leaf = true) (p : Pr) : (n.putM p).right = (rightP p && decide ((n.putM p).ps.length ≤ 255)) := by
  obtain ⟨h1, h2, h3⟩ := leaf_parts h p.k
  obtain ⟨hs, hr, hpw⟩ := (leaf_pw n).1 h
  rw [right_leafS rfl, Bool.eq_iff_iff, Bool.and_eq_true, decide_eq_true_eq, leaf_pw]
  constructor
  · rintro ⟨⟨-, -, a1⟩, a2, -⟩
    exact ⟨a2 p (by simp [Nd.putM]), a1⟩
  · rintro ⟨b1, b2⟩
    refine ⟨⟨rfl, rfl, b2⟩, fun q hq => ?_, ?_⟩
    · simp only [Nd.putM, List.mem_append, List.mem_singleton] at hq
      rcases hq with (hq | hq) | hq
      · exact hr q (List.mem_of_mem_take hq)
      · rw [hq]; exact b1
      · exact hr q (List.mem_of_mem_drop hq)
    · simp only [Nd.putM]
      rw [List.append_assoc, List.pairwise_append]
      refine ⟨hpw.sublist (List.take_sublist _ _), ?_, fun a ha b hb => ?_⟩
      · rw [List.singleton_append, List.pairwise_cons]
        exact ⟨fun q hq => h2 q hq, hpw.sublist (List.drop_sublist _ _)⟩
      · rw [List.singleton_append, List.mem_cons] at hb
        rcases hb with rfl | hb
        · exact h1 a ha
        · exact lessB_trans _ _ _ (h1 a ha) (h2 b hb)
theorem putL_eq (n : Nd) (p : Pr) : putL n.ps p (n.place p.k) = (n.putM p).ps := by
  simp only [putL, Nd.putM, Nd.past, Nd.hit, Bool.and_eq_true, decide_eq_true_eq, beq_iff_eq]
theorem put_same (n : Nd) (p : Pr) : n.put p = n.putR p := by
  rw [Nd.put, Nd.putR, putL_eq]
  cases hl : n.leaf with
  | false => simp
  | true =>
    rw [Bool.and_true, Bool.true_and, putM_right hl p]
    cases hp : rightP p with
    | false => simp
    | true =>
      by_cases hle : (n.putM p).ps.length ≤ 255
      · rw [Bool.true_and]; simp only [hle, decide_true, if_true]; rfl
      · simp only [hle, decide_false, Bool.and_false, if_true, if_false, Bool.false_eq_true]
theorem filter_parts {n : Nd} (h : n.leaf = true) (key : List UInt8) : n.ps.filter (others key) = n.ps.take (n.place key) ++ n.ps.drop (n.past key) ∧ (n.ps.length = (n.ps.take (n.place key) ++ n.ps.drop (n.past key)).length + if n.hit key = true then 1 else 0) := by
  obtain ⟨h1, h2, h3⟩ := leaf_parts h key
  have f1 : (n.ps.take (n.place key)).filter (others key) = n.ps.take (n.place key) := by
    rw [List.filter_eq_self]
    intro q hq
    have := h1 q hq
    simp only [others, decide_eq_true_eq]
    rintro e; rw [e, lessB_irrefl] at this; cases this
  have f2 : (n.ps.drop (n.past key)).filter (others key) = n.ps.drop (n.past key) := by
    rw [List.filter_eq_self]
    intro q hq
    have := h2 q hq
    simp only [others, decide_eq_true_eq]
    rintro e; rw [e, lessB_irrefl] at this; cases this
  rcases h3 with ⟨hh, q, hq, he⟩ | ⟨hh, he⟩
  · constructor
    · conv => lhs; rw [he]
      rw [List.filter_append, List.filter_append, f1, f2]
      have : [q].filter (others key) = [] := by simp [others, hq]
      rw [this, List.append_nil]
    · conv => lhs; rw [he]
      rw [if_pos hh]
      simp only [List.length_append, List.length_cons, List.length_nil]
      omega
  · constructor
    · conv => lhs; rw [he]
      rw [List.filter_append, f1, f2]
    · conv => lhs; rw [he]
      rw [if_neg (by simp [hh])]
      rfl
theorem del_same (n : Nd) (key : List UInt8) : n.del key = n.delP key := by
  rw [Nd.del, Nd.delP]
  cases hl : n.leaf with
  | false => rfl
  | true =>
    obtain ⟨h1, h2⟩ := filter_parts hl key
    simp only [if_true]
    rw [h1, List.append_nil]
    congr 2
    rw [Bool.eq_iff_iff, decide_eq_true_eq, decide_eq_true_eq]
    cases hh : n.hit key with
    | true =>
      have hp : n.past key = n.place key + 1 := by rw [Nd.past, hh]; rfl
      rw [hh, if_pos rfl] at h2
      omega
    | false =>
      have hp : n.past key = n.place key := by rw [Nd.past, hh]; rfl
      rw [hh, if_neg (by simp)] at h2
      omega
end Go.Proofs.Ytalnmaoidaldhaa
