/- The disk's model alone: what is seen is what is kept, the unsynced writes laid over it. -/
import Derived.Test.YtlpgffoeohcegaaDE
namespace Go.Proofs.Ytlpgffoeohcegaa

/-- What is seen is what a sync would keep. -/
structure Dk.Inv (D : Dk) : Prop where
  seen : D.seen = keepAll D.kept (all64 D.uns)
  k64 : ∀ s ∈ D.kept, s.length = 64
  u64 : ∀ x ∈ D.uns, x.1 < D.kept.length ∧ x.2.length = 64

theorem tear_all {bs old : List UInt8} (hb : bs.length = 64) (ho : old.length = 64) : tear bs old 64 = bs := by
  simp [tear, hb, ho, List.take_of_length_le, List.drop_of_length_le]

theorem Dk.Inv.new (n : Nat) : (Dk.new n).Inv := ⟨rfl, fun s hs => by obtain ⟨-, rfl⟩ := List.mem_replicate.1 hs; rfl, fun x hx => nomatch hx⟩

theorem Dk.Inv.length {D : Dk} (h : D.Inv) : D.seen.length = D.kept.length := by rw [h.seen, length_keepAll]

theorem Dk.Inv.write {D : Dk} (h : D.Inv) (i : Nat) (s : List UInt8) (hi : i < D.kept.length) (hs : s.length ≤ 64) : (D.write i s).Inv := by
  refine ⟨?_, h.k64, fun x hx => ?_⟩
  · show D.seen.set i (pad s) = keepAll D.kept (all64 (D.uns ++ [(i, pad s)]))
    have e : all64 (D.uns ++ [(i, pad s)]) = all64 D.uns ++ [((i, pad s), 64)] := by simp [all64]
    rw [e, keepAll_snoc, ← h.seen]
    have hl : (D.seen.getD i []).length = 64 := by
      have hm : D.seen.getD i [] ∈ D.seen := by
        have : i < D.seen.length := by rw [h.length]; exact hi
        simp [List.getD, this]
      rw [h.seen] at hm ⊢
      exact keepAll_64 (all64 D.uns) (fun x hx => by
        simp only [all64, List.mem_map] at hx
        obtain ⟨y, hy, rfl⟩ := hx
        exact ⟨(h.u64 y hy).2, Nat.le_refl _⟩) D.kept (fun x hx => by
        simp only [all64, List.mem_map] at hx
        obtain ⟨y, hy, rfl⟩ := hx
        exact (h.u64 y hy).1) h.k64 _ hm
    show _ = D.seen.set i (tear (pad s) _ 64)
    rw [tear_all (length_pad hs) hl]
  · rcases List.mem_append.1 hx with hx | hx
    · exact h.u64 x hx
    · obtain rfl := List.mem_singleton.1 hx
      exact ⟨hi, length_pad hs⟩

theorem Dk.Inv.wr {D : Dk} (h : D.Inv) (i : Int) (s : List UInt8) : (D.wr i s).Inv := by
  unfold Dk.wr
  split
  · rename_i hh
    exact h.write _ _ (by omega) hh.2.2
  · exact h

theorem Dk.Inv.sync {D : Dk} (h : D.Inv) : D.sync.Inv := by
  refine ⟨?_, ?_, fun x hx => nomatch hx⟩
  · show D.seen = keepAll D.kept (all64 D.uns)
    exact h.seen
  · exact keepAll_64 (all64 D.uns) (fun x hx => by
      simp only [all64, List.mem_map] at hx
      obtain ⟨y, hy, rfl⟩ := hx
      exact ⟨(h.u64 y hy).2, Nat.le_refl _⟩) D.kept (fun x hx => by
      simp only [all64, List.mem_map] at hx
      obtain ⟨y, hy, rfl⟩ := hx
      exact (h.u64 y hy).1) h.k64

/-- A sync keeps what is seen. -/
theorem Dk.Inv.sync_kept {D : Dk} (h : D.Inv) : D.sync.kept = D.seen := h.seen.symm

theorem fallAll_id (S : List (List UInt8)) : ∀ l : List (Nat × List UInt8), fallAll S S l = S
  | [] => rfl
  | x :: l => by
    show fallAll S (S.set x.1 (S.getD x.1 [])) l = S
    have e : S.set x.1 (S.getD x.1 []) = S := by
      apply List.ext_getElem?
      intro j
      rw [List.getElem?_set]
      split
      · rename_i hj; subst hj
        split
        · rename_i hlt; simp [List.getD, hlt]
        · rename_i hlt; rw [List.getElem?_eq_none (by omega)]
      · rfl
    rw [e]
    exact fallAll_id S l

/-- A crash that keeps all of all is a sync: what is seen stays. -/
theorem Dk.Inv.crash_all {D : Dk} (h : D.Inv) : (D.crash (List.replicate D.uns.length 64)).seen = D.seen := by
  have e : D.uns.zip ((List.replicate D.uns.length (64 : Int)).map Int.toNat) = all64 D.uns := by
    rw [List.map_replicate]
    show D.uns.zip (List.replicate D.uns.length 64) = D.uns.map fun x => (x, 64)
    generalize D.uns = l
    induction l with
    | nil => rfl
    | cons x l ih => simp only [List.length_cons, List.replicate_succ, List.zip_cons_cons, List.map_cons, ih]
  show fallAll (keepAll D.kept (D.uns.zip _)) D.seen D.uns = D.seen
  rw [e, ← h.seen]
  exact fallAll_id _ _

theorem keepAll_get (i : Nat) : ∀ (l : List (Nat × List UInt8)) (K : List (List UInt8)), (∀ x ∈ l, x.1 ≠ i) → (keepAll K (all64 l))[i]? = K[i]?
  | [], _, _ => rfl
  | x :: l, K, h => by
    show (keepAll (K.set x.1 _) (all64 l))[i]? = _
    rw [keepAll_get i l _ fun y hy => h y (List.mem_cons_of_mem _ hy), List.getElem?_set_ne (h x List.mem_cons_self)]

theorem fallAll_at (kept : List (List UInt8)) (i : Nat) : ∀ (l : List (Nat × List UInt8)) (S : List (List UInt8)), S.length = kept.length → (∃ x ∈ l, x.1 = i) → (fallAll kept S l)[i]? = kept[i]?
  | [], _, _, h => by obtain ⟨x, hx, -⟩ := h; cases hx
  | x :: l, S, hl, h => by
    show (fallAll kept (S.set x.1 (kept.getD x.1 [])) l)[i]? = _
    by_cases hm : ∃ y ∈ l, y.1 = i
    · exact fallAll_at kept i l _ (by simp [hl]) hm
    · have hx : x.1 = i := by
        obtain ⟨y, hy, he⟩ := h
        rcases List.mem_cons.1 hy with rfl | hy
        · exact he
        · exact absurd ⟨y, hy, he⟩ hm
      have hg : ∀ (l : List (Nat × List UInt8)) (S : List (List UInt8)), (∀ y ∈ l, y.1 ≠ i) → (fallAll kept S l)[i]? = S[i]? := by
        intro l
        induction l with
        | nil => exact fun _ _ => rfl
        | cons z l ih =>
          intro S hz
          show (fallAll kept (S.set z.1 _) l)[i]? = _
          rw [ih _ fun y hy => hz y (List.mem_cons_of_mem _ hy), List.getElem?_set_ne (hz z List.mem_cons_self)]
      rw [hg l _ fun y hy e => hm ⟨y, hy, e⟩]
      subst hx
      by_cases hlt : x.1 < kept.length
      · simp [List.getD, hlt, hl]
      · rw [List.getElem?_eq_none (by simp; omega), List.getElem?_eq_none (by omega)]

/-- A crash that keeps nothing: what was kept is seen. -/
theorem Dk.Inv.crash_none {D : Dk} (h : D.Inv) : (D.crash []).seen = D.kept := by
  have e : crashKept D [] = D.kept := by simp [crashKept, keepAll]
  show fallAll (crashKept D []) D.seen D.uns = D.kept
  rw [e]
  apply List.ext_getElem?
  intro i
  by_cases hm : ∃ x ∈ D.uns, x.1 = i
  · exact fallAll_at D.kept i D.uns D.seen h.length hm
  · have hg : ∀ (l : List (Nat × List UInt8)) (S : List (List UInt8)), (∀ y ∈ l, y.1 ≠ i) → (fallAll D.kept S l)[i]? = S[i]? := by
      intro l
      induction l with
      | nil => exact fun _ _ => rfl
      | cons z l ih =>
        intro S hz
        show (fallAll D.kept (S.set z.1 _) l)[i]? = _
        rw [ih _ fun y hy => hz y (List.mem_cons_of_mem _ hy), List.getElem?_set_ne (hz z List.mem_cons_self)]
    have hn : ∀ y ∈ D.uns, y.1 ≠ i := fun y hy e => hm ⟨y, hy, e⟩
    rw [hg _ _ hn, h.seen, keepAll_get i _ _ hn]

/-- What is seen behind a write hangs on what was seen alone. -/
theorem wr_seen {D D' : Dk} (hs : D.seen = D'.seen) (hk : D.kept.length = D'.kept.length) (i : Int) (s : List UInt8) : (D.wr i s).seen = (D'.wr i s).seen := by
  unfold Dk.wr
  rw [hk]
  split
  · show D.seen.set _ _ = D'.seen.set _ _; rw [hs]
  · exact hs
theorem wr_keeps (D : Dk) (i : Int) (s : List UInt8) : (D.wr i s).kept = D.kept := by unfold Dk.wr; split <;> rfl
end Go.Proofs.Ytlpgffoeohcegaa
