/- A torn store: reckoning; blocks that the law guards beside its disk. -/
import Derived.Test.YtghpcjkjhbafnaaKMB
namespace Go.Proofs.Ytghpcjkjhbafnaa
open Go Go.RowKit Sm

theorem enc_ends (m : Mt) : m.enc.take 8 = putB m.tx 8 ∧ m.enc.drop 56 = putB m.tx 8 := by
  constructor
  · rw [m.enc_form]; exact List.take_left' (by simp)
  · unfold Mt.enc; exact List.drop_left' (by simp)
/-- A torn text whose ends are the same is one of both. -/
theorem torn_is (E old a b : List UInt8) (n : Nat) (hE : E.length = 64) (_ : old.length = 64) (hE1 : E.take 8 = a) (hE2 : E.drop 56 = a) (ho1 : old.take 8 = b) (ho2 : old.drop 56 = b) (hab : a ≠ b) (hn : n ≤ 64)
    (hm : (E.take n ++ old.drop n).take 8 = (E.take n ++ old.drop n).drop 56) : E.take n ++ old.drop n = E ∨ E.take n ++ old.drop n = old := by
  have hl : (E.take n).length = n := by rw [List.length_take]; omega
  by_cases h56 : n ≤ 56
  · have hd : (E.take n ++ old.drop n).drop 56 = b := by
      rw [List.drop_append, List.drop_of_length_le (by omega), List.nil_append, hl, List.drop_drop, ← ho2]
      congr 1
      omega
    by_cases h8 : 8 ≤ n
    · have ht : (E.take n ++ old.drop n).take 8 = a := by
        rw [List.take_append_of_le_length (by omega), List.take_take, Nat.min_eq_left h8, hE1]
      rw [ht, hd] at hm
      exact absurd hm hab
    · right
      rw [hd, ← ho1] at hm
      have h2 := congrArg (List.take n) hm
      rw [List.take_take, Nat.min_eq_left (by omega), List.take_take, Nat.min_eq_left (by omega), List.take_append_of_le_length (by omega), List.take_take, Nat.min_self] at h2
      rw [h2, List.take_append_drop]
  · left
    have ht : (E.take n ++ old.drop n).take 8 = a := by
      rw [List.take_append_of_le_length (by omega), List.take_take, Nat.min_eq_left (by omega), hE1]
    have h5 : (E.take n ++ old.drop n).take 56 = E.take 56 := by
      rw [List.take_append_of_le_length (by omega), List.take_take, Nat.min_eq_left (by omega)]
    rw [ht, ← hE2] at hm
    rw [← List.take_append_drop 56 (E.take n ++ old.drop n), h5, ← hm, List.take_append_drop]

/-- What stands in the sector of a turn: nothing, or a meta of that turn. -/
def SlotOk (s : List UInt8) (j T : Nat) : Prop := s = zero64 ∨ ∃ m : Mt, m.Ok ∧ m.right = true ∧ s = m.enc ∧ m.tx < T ∧ m.tx % 2 = j
theorem SlotOk.len {s : List UInt8} {j T : Nat} (h : SlotOk s j T) : s.length = 64 := by
  rcases h with rfl | ⟨m, -, -, rfl, -⟩
  · rfl
  · exact m.enc_len
theorem SlotOk.held {s : List UInt8} {j T : Nat} (h : SlotOk s j T) (hT : 1 ≤ T) : (heldM s j).tx < T := by
  rcases h with rfl | ⟨m, hm, hr, rfl, hl, rfl⟩
  · rw [zero_held]; exact hT
  · rw [heldM_same m hm hr]; exact hl
/-- What is held of a torn store. -/
theorem torn_held (m : Mt) (hm : m.Ok) (hr : m.right = true) (old : List UInt8) (ho : SlotOk old (m.tx % 2) m.tx) (n : Nat) (hn : n ≤ 64) :
    (heldM (m.enc.take n ++ old.drop n) (m.tx % 2) = m ∧ n ≠ 0) ∨ ((heldM (m.enc.take n ++ old.drop n) (m.tx % 2) = Mt.zero ∨ heldM (m.enc.take n ++ old.drop n) (m.tx % 2) = heldM old (m.tx % 2)) ∧ n ≠ 64) := by
  have h1 : 1 ≤ m.tx := ((Mt.right_iff _).1 hr).1
  have hol := ho.len
  have hne : heldM old (m.tx % 2) ≠ m := fun e => by
    have := ho.held h1
    rw [e] at this
    omega
  obtain ⟨e1, e2⟩ := enc_ends m
  obtain ⟨b, o1, o2, hab⟩ : ∃ b, old.take 8 = b ∧ old.drop 56 = b ∧ putB m.tx 8 ≠ b := by
    have inj : ∀ a b : Nat, a < 18446744073709551616 → b < 18446744073709551616 → putB a 8 = putB b 8 → a = b := fun a b ha hb h => by
      have p8 : (256 : Nat) ^ 8 = 18446744073709551616 := rfl
      rw [← getB_putB a 8 (by decide) (by rw [p8]; exact ha), h, getB_putB b 8 (by decide) (by rw [p8]; exact hb)]
    rcases ho with rfl | ⟨m0, hm0, hr0, rfl, hl, -⟩
    · refine ⟨putB 0 8, by decide +kernel, by decide +kernel, fun h => ?_⟩
      have := inj _ _ hm.tx (by decide) h
      omega
    · obtain ⟨q1, q2⟩ := enc_ends m0
      refine ⟨_, q1, q2, fun h => ?_⟩
      have := inj _ _ hm.tx hm0.tx h
      omega
  by_cases hi : isMt (m.enc.take n ++ old.drop n) = true
  · have hends : (m.enc.take n ++ old.drop n).take 8 = (m.enc.take n ++ old.drop n).drop 56 := by
      have := enc_ends (Mt.of (m.enc.take n ++ old.drop n))
      rw [(isMt_right _ hi).2] at this
      rw [this.1, this.2]
    rcases torn_is m.enc old _ b n m.enc_len hol e1 e2 o1 o2 hab hn hends with h | h
    · left
      rw [h, heldM_same m hm hr]
      refine ⟨rfl, fun h0 => ?_⟩
      subst h0
      rw [List.take_zero, List.nil_append, List.drop_zero] at h
      rw [h] at hne
      exact hne (heldM_same m hm hr)
    · right
      rw [h]
      refine ⟨.inr rfl, fun h0 => ?_⟩
      subst h0
      rw [List.take_of_length_le (by rw [m.enc_len]; exact Nat.le_refl _), List.drop_of_length_le (by omega), List.append_nil] at h
      rw [← h] at hne
      exact hne (heldM_same m hm hr)
  · right
    refine ⟨.inl ?_, fun h0 => ?_⟩
    · unfold heldM
      rw [Bool.not_eq_true] at hi
      rw [hi]
      rfl
    · subst h0
      rw [List.take_of_length_le (by rw [m.enc_len]; exact Nat.le_refl _), List.drop_of_length_le (by omega), List.append_nil, m.back hm hr] at hi
      exact hi rfl

/-- The disk of the law: the last meta that was stored, of Tx T - 1, or none. -/
structure SlotsIs (D : Dk) (T : Nat) (last : Mt) : Prop where
  ok : ∀ j, j < 2 → SlotOk (D.seen.getD (j * 4) []) j T
  last : last = Mt.zero ∨ (last.Ok ∧ last.right = true ∧ last.tx + 1 = T ∧ D.seen.getD (last.tx % 2 * 4) [] = last.enc)
theorem slotsIs_new (n : Nat) (h : 4 < n) (T : Nat) : SlotsIs (Dk.new n) T Mt.zero :=
  ⟨fun j hj => .inl (by
    simp only [Dk.new, List.getD]
    rw [List.getElem?_replicate, if_pos (by omega)]
    rfl), .inl rfl⟩
theorem SlotsIs.store {D : Dk} {T : Nat} {last : Mt} (h : SlotsIs D T last) (hs : D.seen.length = D.kept.length) (hk : 4 < D.kept.length) (m : Mt) (hm : m.Ok) (hr : m.right = true) (ht : m.tx = T) : SlotsIs (stoD D m) (T + 1) m := by
  refine ⟨fun j hj => ?_, .inr ⟨hm, hr, by omega, ?_⟩⟩
  · rw [stoD_seen D hs hk m hr j hj]
    by_cases e : m.tx % 2 = j
    · rw [if_pos e]
      exact .inr ⟨m, hm, hr, rfl, by omega, e⟩
    · rw [if_neg e]
      rcases h.ok j hj with h0 | ⟨m0, a, b, c, d, f⟩
      · exact .inl h0
      · exact .inr ⟨m0, a, b, c, by omega, f⟩
  · rw [stoD_seen D hs hk m hr (m.tx % 2) (Nat.mod_lt _ (by decide)), if_pos rfl]

/-- Of a torn store the one ahead is loaded, or this one. -/
theorem torn_last {D C : Dk} {T : Nat} {last : Mt} (h : SlotsIs D T last) (hl : last ≠ Mt.zero) (hs : 4 < D.seen.length) (m : Mt) (hm : m.Ok) (hr : m.right = true) (ht : m.tx = T) (n : Nat) (hn : n ≤ 64)
    (hC : C.seen = D.seen.set (secM T) (m.enc.take n ++ (D.seen.getD (secM T) []).drop n)) : (lastM C 2 = last ∧ n ≠ 64) ∨ (lastM C 2 = m ∧ n ≠ 0) := by
  rcases h.last with h0 | ⟨lo, lr, lt, ls⟩
  · exact absurd h0 hl
  subst ht
  have hT1 : 1 ≤ last.tx := ((Mt.right_iff _).1 lr).1
  have hold := h.ok (m.tx % 2) (Nat.mod_lt _ (by decide))
  have hsl : last.tx % 2 = 1 - m.tx % 2 := by omega
  have hother : C.seen.getD ((1 - m.tx % 2) * 4) [] = last.enc := by
    rw [hC, ← hsl, ← ls]
    simp only [List.getD]
    rw [List.getElem?_set_ne (by unfold secM; omega)]
  have hthis : C.seen.getD (m.tx % 2 * 4) [] = m.enc.take n ++ (D.seen.getD (m.tx % 2 * 4) []).drop n := by
    rw [hC]
    simp only [List.getD]
    unfold secM
    rw [List.getElem?_set_self (by omega)]
    rfl
  have hlh : heldM last.enc (1 - m.tx % 2) = last := by rw [← hsl]; exact heldM_same last lo lr
  have htorn := torn_held m hm hr (D.seen.getD (m.tx % 2 * 4) []) hold n hn
  have hless : (heldM (D.seen.getD (m.tx % 2 * 4) []) (m.tx % 2)).tx < last.tx := by
    rcases hold with h0 | ⟨m0, a, b, c, d, f⟩
    · rw [h0, zero_held]; exact hT1
    · rw [c, ← f, heldM_same m0 a b]; omega
  have key : ∀ x : Mt, heldM (m.enc.take n ++ (D.seen.getD (m.tx % 2 * 4) []).drop n) (m.tx % 2) = x → (x.tx < last.tx → lastM C 2 = last) ∧ (x = m → lastM C 2 = m) := by
    intro x hx
    have hz : Mt.zero.tx = 0 := rfl
    have hp : m.tx % 2 = 0 ∨ m.tx % 2 = 1 := by omega
    rw [lastM_two]
    rcases hp with hp | hp
    · rw [hp] at hthis hother hlh hx
      rw [hthis, show C.seen.getD (1 * 4) [] = last.enc from hother, hx, show heldM last.enc 1 = last from hlh]
      unfold betterM
      constructor
      · intro hlt
        by_cases hx0 : Mt.zero.tx < x.tx
        · rw [if_pos hx0, if_pos hlt]
        · rw [if_neg hx0, if_pos (by rw [hz]; omega)]
      · intro hxm
        rw [hxm, if_pos (show Mt.zero.tx < m.tx by rw [hz]; omega), if_neg (by omega)]
    · rw [hp] at hthis hother hlh hx
      rw [hthis, show C.seen.getD (0 * 4) [] = last.enc from hother, hx, show heldM last.enc 0 = last from hlh]
      unfold betterM
      rw [if_pos (show Mt.zero.tx < last.tx by rw [hz]; omega)]
      constructor
      · intro hlt
        rw [if_neg (by omega)]
      · intro hxm
        rw [hxm, if_pos (by omega)]
  rcases htorn with ⟨h1, h2⟩ | ⟨h1 | h1, h2⟩
  · exact .inr ⟨(key _ h1).2 rfl, h2⟩
  · exact .inl ⟨(key _ h1).1 (show 0 < last.tx by omega), h2⟩
  · exact .inl ⟨(key _ h1).1 hless, h2⟩

/-! ### Blocks that the law guards -/
def MyP (w : World) (d kb sb : Nat) (P : Nat → Prop) (D : Dk) (A : World) : Prop := ∃ v, DiskAt A d kb sb v D ∧ From w.heap.size d kb sb v ∧ Below w.heap.size w A ∧ ∀ k, P k → k < A.heap.size ∧ ¬ Foot d kb sb v k
section
variable {w A A' : World} {d kb sb : Nat} {D : Dk} {P : Nat → Prop}
theorem MyP.my (h : MyP w d kb sb P D A) : MyD w d kb sb D A := by obtain ⟨v, h1, h2, h3, -⟩ := h; exact ⟨v, h1, h2, h3⟩
theorem MyD.guard (h : MyD w d kb sb D A) : MyP w d kb sb (fun _ => False) D A := by obtain ⟨v, h1, h2, h3⟩ := h; exact ⟨v, h1, h2, h3, fun _ h => h.elim⟩
theorem MyP.in (h : MyP w d kb sb P D A) : Below w.heap.size w A := h.my.in
theorem MyP.less {Q : Nat → Prop} (h : MyP w d kb sb P D A) (hQ : ∀ k, Q k → P k) : MyP w d kb sb Q D A := by obtain ⟨v, h1, h2, h3, h4⟩ := h; exact ⟨v, h1, h2, h3, fun k hk => h4 k (hQ k hk)⟩
theorem MyP.below (h : MyP w d kb sb P D A) (hb : Below A.heap.size A A') : MyP w d kb sb P D A' := by
  obtain ⟨v, hD, hF, hB, hP⟩ := h
  exact ⟨v, hD.kept' (Turned.new hb : Turned (fun _ => False) A A') (fun _ => False.elim), hF, hB.trans (hb.mono hB.size), fun k hk => ⟨Nat.lt_of_lt_of_le (hP k hk).1 hb.size, (hP k hk).2⟩⟩
/-- A new block is guarded, too. -/
theorem MyP.add (h : MyP w d kb sb P D A) (o : Obj) : MyP w d kb sb (fun k => P k ∨ k = A.heap.size) D (A.alloc o) := by
  obtain ⟨v, hD, hF, hB, hP⟩ := h
  refine ⟨v, hD.kept' ((Turned.refl (fun _ => False) A).alloc o) (fun _ => False.elim), hF, below_al hB o, ?_⟩
  rintro k (hk | rfl)
  · exact ⟨by rw [World.size_alloc]; have := (hP k hk).1; omega, (hP k hk).2⟩
  · exact ⟨by rw [World.size_alloc]; omega, fun hf => by have := hD.flt hf; omega⟩
/-- A guarded block is turned. -/
theorem MyP.turned {F : Nat → Prop} (h : MyP w d kb sb P D A) (ht : Turned F A A') (hF : ∀ k, F k → P k ∧ w.heap.size ≤ k) : MyP w d kb sb P D A' := by
  obtain ⟨v, hD, hFr, hB, hP⟩ := h
  exact ⟨v, hD.kept' ht (fun k hk => (hP k (hF k hk).1).2), hFr, hB.trans (ht.toBelow hB.size (fun k _ hk => (hF k hk).2)), fun k hk => ⟨Nat.lt_of_lt_of_le (hP k hk).1 ht.size, (hP k hk).2⟩⟩
theorem MyP.post {e : Ending} {r : Value} {D' : Dk} {v : Value} (_ : DiskAt A d kb sb v D) (hF : From w.heap.size d kb sb v) (hB : Below w.heap.size w A) (hP : ∀ k, P k → k < A.heap.size ∧ ¬ Foot d kb sb v k) (h : DiskPost A d kb sb v D' r e A') :
    e = .returned r ∧ MyP w d kb sb P D' A' ∧ ∀ k, P k → A'.heap[k]? = A.heap[k]? := by
  obtain ⟨he, v', hD', hT, hv⟩ := h
  refine ⟨he, ⟨v', hD', hF.next hB.size hv, hF.below hB (Nat.le_refl _) hT, fun k hk => ⟨Nat.lt_of_lt_of_le (hP k hk).1 hT.size, ?_⟩⟩, fun k hk => hT.block k (hP k hk).1 (hP k hk).2⟩
  rintro (hf | hf | hf | hf)
  · exact (hP k hk).2 (.inl hf)
  · exact (hP k hk).2 (.inr (.inl hf))
  · exact (hP k hk).2 (.inr (.inr (.inl hf)))
  · rcases hv with e | e
    · exact (hP k hk).2 (.inr (.inr (.inr (by rw [← e]; exact hf))))
    · have := e k hf; have := (hP k hk).1; omega
theorem mstore_p (h : MyP w d kb sb P D A) (m : Mt) (hm : m.Ok) (hu : D.uns.length < 1000000000000) (ho : D.ops < 1000000000000000) :
    Calls Try.prog 36 #[.pointer (some ⟨d, 0, none⟩), m.v] A fun e w' => e = .returned (.int .i64 (stoC D m)) ∧ MyP w d kb sb P (stoD D m) w' ∧ ∀ k, P k → w'.heap[k]? = A.heap[k]? := by
  unfold stoC stoD
  cases hr : m.right
  · refine (mstore_bad m hm hr _ A).mono fun e w' ⟨he, hb⟩ => ⟨he, h.below hb, fun k hk => ?_⟩
    obtain ⟨v, -, -, -, hP⟩ := h
    exact hb.block k (hP k hk).1
  · obtain ⟨v, hD, hF, hB, hP⟩ := h
    exact (mstore_good hD m hm hr hu ho).mono fun e w' hp => MyP.post hD hF hB hP hp
theorem msync_p (h : MyP w d kb sb P D A) (ho : D.ops < 1000000000000000) :
    Calls Try.prog 43 #[.pointer (some ⟨d, 0, none⟩)] A fun e w' => e = .returned (.int .i64 0) ∧ MyP w d kb sb P D.sync w' ∧ ∀ k, P k → w'.heap[k]? = A.heap[k]? := by
  obtain ⟨v, hD, hF, hB, hP⟩ := h
  exact (sync_any hD ho).mono fun e w' hp => MyP.post hD hF hB hP hp
theorem mload_p (h : MyP w d kb sb P D A) : Calls Try.prog 40 #[.pointer (some ⟨d, 0, none⟩)] A fun e w' => e = .returned (loadMV D) ∧ MyP w d kb sb P D w' ∧ Below A.heap.size A w' := by
  obtain ⟨v, hD, hF, hB, hP⟩ := h
  exact (mload_any hD).mono fun e w' ⟨he, hb⟩ => ⟨he, MyP.below ⟨v, hD, hF, hB, hP⟩ hb, hb⟩
/-- A crash with one number, in a list just made. -/
theorem mcrash_p (h : MyP w d kb sb P D A) (n : Int) (hu : D.uns.length = 1) :
    (0 ≤ n → n ≤ 64 → Calls Try.prog 44 #[.pointer (some ⟨d, 0, none⟩), .slice (some ⟨A.heap.size, 0, none⟩) 1 1] (A.alloc (.cells #[.int .i64 n] 3)) fun e w' => e = .returned (.int .i64 0) ∧ MyP w d kb sb P (D.crash [n]) w' ∧ ∀ k, P k → w'.heap[k]? = A.heap[k]?)
    ∧ ((n < 0 ∨ 64 < n) → Calls Try.prog 44 #[.pointer (some ⟨d, 0, none⟩), .slice (some ⟨A.heap.size, 0, none⟩) 1 1] (A.alloc (.cells #[.int .i64 n] 3)) fun e w' => e = .returned (.int .i64 2) ∧ Below w.heap.size w w') := by
  have h2 := h.add (.cells #[.int .i64 n] 3)
  obtain ⟨v, hD, hF, hB, hP⟩ := h
  have hB2 : Below w.heap.size w (A.alloc (.cells #[.int .i64 n] 3)) := below_al hB _
  have hD2 : DiskAt (A.alloc (.cells #[.int .i64 n] 3)) d kb sb v D := hD.kept' ((Turned.refl (fun _ => False) A).alloc _) (fun _ => False.elim)
  have hz : Ints (A.alloc (.cells #[.int .i64 n] 3)) (some ⟨A.heap.size, 0, none⟩) [n] := fun _ => ⟨A.heap.size, 0, rfl, fun i hi => by
    have : i = 0 := by simp at hi; omega
    subst this; simp [go_sem]⟩
  have hap : Apart (A.alloc (.cells #[.int .i64 n] 3)) d kb sb v (some ⟨A.heap.size, 0, none⟩) := fun b off e => by
    simp only [Option.some.injEq, Addr.mk.injEq] at e
    obtain ⟨rfl, -⟩ := e
    exact ⟨by simp, fun hf => by have := hD.flt hf; omega⟩
  constructor
  · intro h0 h64
    refine (crash_any hD2 (some ⟨A.heap.size, 0, none⟩) [n] 1 (by simp; omega) hz hap (by rw [allIn_one]; simp [h0, h64])).mono fun e w' hp => ?_
    obtain ⟨he, hM, hk⟩ := MyP.post (P := P) hD2 hF hB2 (fun k hk => ⟨by rw [World.size_alloc]; have := (hP k hk).1; omega, (hP k hk).2⟩) hp
    exact ⟨he, hM, fun k hk2 => (hk k hk2).trans (Below.heap_alloc _ _ _ (hP k hk2).1)⟩
  · intro h0
    refine (crash_wrong hD2 (some ⟨A.heap.size, 0, none⟩) [n] 1 (by simp; omega) hz hap (by rw [allIn_one]; simp; omega)).mono fun e w' ⟨he, hb⟩ => ⟨he, hB2.trans (hb.mono hB2.size)⟩
end
end Go.Proofs.Ytghpcjkjhbafnaa

/- The law of a torn store: MetaTorn. -/
namespace Go.Proofs.Ytghpcjkjhbafnaa
open Go Go.RowKit Sm
attribute [local go_sem] Oper.semAt_some

theorem stoD_inv {D : Dk} (h : D.Inv) (m : Mt) : (stoD D m).Inv := by
  unfold stoD; split
  · exact h.wr _ _
  · exact h
theorem crash_seen (D : Dk) (hI : D.Inv) (h : 4 < D.kept.length) (m : Mt) (hr : m.right = true) (n : Nat) :
    ((stoD D.sync m).crash [(n : Int)]).seen = D.seen.set (secM m.tx) (m.enc.take n ++ (D.seen.getD (secM m.tx) []).drop n) ∧ ((stoD D.sync m).crash [(n : Int)]).kept.length = D.kept.length ∧ (stoD D.sync m).uns.length = 1 := by
  have hl := secM_lt m.tx
  have hk : D.sync.kept = D.seen := hI.seen.symm
  have hkl : D.seen.length = D.kept.length := hI.length
  have hs : stoD D.sync m = D.sync.write (secM m.tx) m.enc := by
    unfold stoD Dk.wr
    rw [if_pos hr, if_pos (show (0 : Int) ≤ ((secM m.tx : Nat) : Int) ∧ ((secM m.tx : Nat) : Int) < (D.sync.kept.length : Int) ∧ m.enc.length ≤ 64 by rw [m.enc_len, hk]; omega), Int.toNat_natCast]
  have hw : D.sync.write (secM m.tx) m.enc = { kept := D.seen, seen := D.seen.set (secM m.tx) m.enc, uns := [(secM m.tx, m.enc)], ops := D.sync.ops + 1 } := by
    unfold Dk.write
    rw [hk, pad_full _ m.enc_len]
    rfl
  rw [hs, hw]
  generalize secM m.tx = i at *
  generalize m.enc = E at *
  have hck : crashKept { kept := D.seen, seen := D.seen.set i E, uns := [(i, E)], ops := D.sync.ops + 1 } [(n : Int)] = D.seen.set i (tear E (D.seen.getD i []) n) := by
    simp [crashKept, keepAll]
  refine ⟨?_, ?_, rfl⟩
  · show fallAll (crashKept _ _) (D.seen.set i E) [(i, E)] = _
    rw [hck]
    show (D.seen.set i E).set i ((D.seen.set i (tear E (D.seen.getD i []) n)).getD i []) = _
    rw [List.set_set]
    congr 1
    simp only [List.getD]
    rw [List.getElem?_set_self (by omega)]
    rfl
  · show (crashKept _ _).length = _
    rw [hck, List.length_set]
    exact hkl

/-- Between two rounds: the disk, the last meta in its block B. -/
def TornI (w : World) (d kb sb B k T : Nat) (last : Mt) (A : World) : Prop := ∃ D, MyP w d kb sb (· = B) D A ∧ D.kept.length = 8 ∧ D.uns.length ≤ k ∧ D.ops ≤ k ∧ D.Inv ∧ SlotsIs D T last ∧ A.heap[B]? = some (.cells #[.int .u64 last.tx, .int .u32 last.root, .int .u32 last.high, .int .u32 last.free] 60 (0, 0))

theorem Metas.kept {w w' : World} {p : Option Addr} {l : List Mt} (h : Metas w p l) (hb : ∀ b off, p = some ⟨b, off, none⟩ → w'.heap[b]? = w.heap[b]?) : Metas w' p l := fun hz => by
  obtain ⟨b, off, hp, hc⟩ := h hz
  refine ⟨b, off, hp, fun i x hx => ?_⟩
  have := hc i x hx
  have e : ∀ o, w'.cell? ⟨b, o, none⟩ = w.cell? ⟨b, o, none⟩ := fun o => World.cell?_of_block (w := w) (hb b off hp)
  rw [e, e, e, e]; exact this

/-- A store of a meta that has just been made, beside the last one's block. -/
theorem torn_store {w A : World} {d kb sb B : Nat} {D : Dk} {o : Obj} (h : MyP w d kb sb (· = B) D A) (hk : 4 < D.kept.length) (m : Mt) (hm : m.Ok) (hu : D.uns.length < 1000000000000) (ho : D.ops < 1000000000000000) (hB : A.heap[B]? = some o) (c : Array Value) (T : TypeId) :
    Calls Try.prog 36 #[.pointer (some ⟨d, 0, none⟩), m.v] (A.alloc (.cells c T)) fun e w' => e = .returned (.int .i64 (if m.right then 0 else 40)) ∧ MyP w d kb sb (fun k => k = B ∨ k = A.heap.size) (stoD D m) w' ∧ w'.heap[B]? = some o ∧ w'.heap[A.heap.size]? = some (.cells c T (0, 0)) := by
  have h2 := h.add (.cells c T)
  have hlt : B < A.heap.size := lt_of_heap hB
  refine (mstore_p h2 m hm hu ho).mono ?_
  rintro e w' ⟨rfl, hM, hP⟩
  refine ⟨by rw [stoC_big D hk], hM, ?_, ?_⟩
  · rw [hP B (.inl rfl), Below.heap_alloc _ _ _ hlt]; exact hB
  · rw [hP A.heap.size (.inr rfl)]; exact heap_alloc_new _ _

/-- What is loaded behind the crash. -/
theorem torn_end {D : Dk} (hI : D.Inv) (h8 : D.kept.length = 8) {T : Nat} {last : Mt} (h : SlotsIs D T last) (hl : last ≠ Mt.zero) (m : Mt) (hm : m.Ok) (hr : m.right = true) (ht : m.tx = T) (n : Nat) (hn : n ≤ 64) :
    ∃ g : Mt, loadMV ((stoD D.sync m).crash [(n : Int)]) = .tuple #[g.v, .int .i64 0] ∧ ((g = last ∧ n ≠ 64) ∨ (g = m ∧ n ≠ 0)) := by
  obtain ⟨c1, c2, -⟩ := crash_seen D hI (by rw [h8]; decide) m hr n
  rw [ht] at c1
  have hh := torn_last h hl (by rw [hI.length, h8]; decide) m hm hr ht n hn c1
  have h1 : 1 ≤ last.tx := by
    rcases h.last with h0 | ⟨-, lr, -⟩
    · exact absurd h0 hl
    · exact ((Mt.right_iff _).1 lr).1
  have h2 : 1 ≤ m.tx := ((Mt.right_iff _).1 hr).1
  rcases hh with ⟨e, hn64⟩ | ⟨e, hn0⟩
  · exact ⟨last, by rw [loadMV_some _ (by rw [c2, h8]; decide) (by rw [e]; exact h1), e], .inl ⟨rfl, hn64⟩⟩
  · exact ⟨m, by rw [loadMV_some _ (by rw [c2, h8]; decide) (by rw [e]; exact h2), e], .inr ⟨rfl, hn0⟩⟩

set_option maxRecDepth 20000 in
set_option maxHeartbeats 8000000 in
theorem metaTorn_any (p : Option Addr) (l : List Mt) (lc : Nat) (now : Mt) (T0 : Nat) (n : Int) (w : World) (hA : Metas w p l) (hp : ∀ a, p = some a → a.block < w.heap.size) (_ : l.length ≤ 9223372036854775807) (hnow : now.Ok) (hT0 : T0 < 18446744073709551616) :
    Calls Try.prog 10 #[.slice p l.length lc, now.v, .int .u64 T0, .int .i64 n] w fun e w' => e = .returned (.bool true) ∧ Below w.heap.size w w' := by
  obtain ⟨X, hX⟩ : ∃ X : Int, (T0 : Int) = X := ⟨_, rfl⟩
  have HX : Veil ((T0 : Int) = X) := ⟨hX⟩
  have HNO : Veil now.Ok := ⟨hnow⟩
  have h3 : X = 0 ∨ (X ≠ 0 ∧ 1152921504606846976 < X) ∨ (X ≠ 0 ∧ ¬ 1152921504606846976 < X) := by omega
  rw [hX]
  clear hX hT0 hnow
  obtain ⟨WB, hWB⟩ : ∃ WB, w.alloc (.cells #[.int .u64 now.tx, .int .u32 now.root, .int .u32 now.high, .int .u32 now.free] 60) = WB := ⟨_, rfl⟩
  have hlw : Veil (w.heap.size < WB.heap.size) := ⟨by rw [← hWB]; simp⟩
  have hwB : Veil (Below w.heap.size w WB) := ⟨by rw [← hWB]; exact below_al (Below.refl _ _) _⟩
  have ST : Veil (∀ W, Below WB.heap.size WB W → W.cell? ⟨w.heap.size, 0, none⟩ = some (.int .u64 now.tx) ∧ W.cell? ⟨w.heap.size, 1, none⟩ = some (.int .u32 now.root) ∧ W.cell? ⟨w.heap.size, 2, none⟩ = some (.int .u32 now.high) ∧ W.cell? ⟨w.heap.size, 3, none⟩ = some (.int .u32 now.free)) := ⟨fun W h => (pack4 ((h.block w.heap.size hlw.out).trans (by rw [← hWB]; exact heap_alloc_new _ _))).1⟩
  have HA : Veil (Metas WB p l) := ⟨hA.kept fun b off e => by rw [← hWB]; exact Below.heap_alloc _ _ _ (hp _ e)⟩
  have HP : Veil (∀ a, p = some a → a.block < WB.heap.size) := ⟨fun a e => Nat.lt_trans (hp a e) hlw.out⟩
  clear hA hp
  have HAn : Veil (∀ (T : Nat) (W : World), Calls Try.prog 42 #[now.v, .int .u64 T] W fun e w' => e = .returned (now.at T).v ∧ Below W.heap.size W w') := ⟨fun T => after_any now T⟩
  rcases h3 with rfl | ⟨h1, h2⟩ | ⟨h1, h2⟩
  · unfold Mt.v
    go_enter Try.func10, Try.ntmps10
    go_wp2_with (first
      | (go_at_call 29; refine (shown4_any _).mono ?_; rintro e w1 ⟨rfl, hb1⟩)
      | (go_at_call 14; refine (new_any 8 (by decide) (by decide) _).mono ?_; intro e w2 hp2; obtain ⟨d, kb, sb, rfl, hM2, -⟩ := MyD.new hb1 hp2; have HM2 : Veil _ := ⟨hM2⟩; clear hM2 hp2))
    go_ret
    exact ⟨rfl, blw_then hwB.out (below_al HM2.out.in _)⟩
  · have h1' : (X == 0) = false := by simpa using h1
    unfold Mt.v
    go_enter Try.func10, Try.ntmps10
    go_wp2_with (first
      | (go_at_call 29; refine (shown4_any _).mono ?_; rintro e w1 ⟨rfl, hb1⟩)
      | (go_at_call 14; refine (new_any 8 (by decide) (by decide) _).mono ?_; intro e w2 hp2; obtain ⟨d, kb, sb, rfl, hM2, -⟩ := MyD.new hb1 hp2; have HM2 : Veil _ := ⟨hM2⟩; clear hM2 hp2))
    go_ret
    exact ⟨rfl, blw_then hwB.out (below_al HM2.out.in _)⟩
  · have h1' : (X == 0) = false := by simpa using h1
    unfold Mt.v
    go_enter Try.func10, Try.ntmps10
    go_wp2_with (first
      | (go_at_call 29; refine (shown4_any _).mono ?_; rintro e w1 ⟨rfl, hb1⟩)
      | (go_at_call 14; refine (new_any 8 (by decide) (by decide) _).mono ?_; intro e w2 hp2; obtain ⟨d, kb, sb, rfl, hM2, -⟩ := MyD.new hb1 hp2; have HM2 : Veil _ := ⟨hM2⟩; clear hM2 hp2)
      | fail)
    obtain ⟨B, hBe⟩ : ∃ B, w2.heap.size = B := ⟨_, rfl⟩
    have hM3 : MyP WB d kb sb (· = B) (Dk.new 8) (w2.alloc (.cells #[.int .u64 0, .int .u32 0, .int .u32 0, .int .u32 0] 60)) := by
      rw [← hBe]
      exact (HM2.out.guard.add _).less fun k hk => .inr hk
    have hBh : (w2.alloc (.cells #[.int .u64 0, .int .u32 0, .int .u32 0, .int .u32 0] 60)).heap[B]? = some (.cells #[.int .u64 0, .int .u32 0, .int .u32 0, .int .u32 0] 60 (0, 0)) := by rw [← hBe]; exact heap_alloc_new _ _
    have HWB : Veil (WB.heap.size ≤ B) := ⟨by rw [← hBe]; exact HM2.out.in.size⟩
    have HI : Veil (TornI WB d kb sb B 0 T0 Mt.zero (w2.alloc (.cells #[.int .u64 0, .int .u32 0, .int .u32 0, .int .u32 0] 60))) := ⟨_, hM3, new_len 8, Nat.le_refl _, Nat.le_refl _, Dk.Inv.new 8, slotsIs_new 8 (by decide) T0, hBh⟩
    have HB : Veil (1 ≤ T0 ∧ T0 ≤ 1152921504606846976 + 0) := ⟨by have := HX.out; omega⟩
    rw [hBe]
    rw [← HX.out]
    generalize w2.alloc (.cells #[.int .u64 0, .int .u32 0, .int .u32 0, .int .u32 0] 60) = w3 at *
    clear h1 h1' h2 HM2 HX hb1 hM3 hBh hBe
    go_loopw [2, 13] (fun tx i w' => ∃ (k T : Nat) (last : Mt), k ≤ l.length ∧ k ≤ 5 ∧ i = .int .i64 k ∧ tx = .int .u64 T ∧ Veil (1 ≤ T ∧ T ≤ 1152921504606846976 + k) ∧ Veil (TornI WB d kb sb B k T last w')) (fun _ i _ => 5 - (intOf i).toNat)
    case atStart => exact ⟨0, T0, Mt.zero, Nat.zero_le _, Nat.zero_le _, rfl, rfl, HB, HI⟩
    case round =>
      obtain ⟨k, T, last, hk, hk8, rfl, rfl, hTb, hI⟩ := hrel
      clear HI HB
      by_cases hin : k < l.length ∧ k < 5
      · obtain ⟨h1, h2⟩ := hin
        obtain ⟨b, off, rfl, hc⟩ := HA.out (by intro h; simp [h] at h1)
        have hbl := HP.out _ rfl
        have hc' := hc k l[k] (List.getElem?_eq_getElem h1)
        generalize l[k] = x at hc'
        obtain ⟨D, hM, hk5, hu, ho, hinv, hsl, hB⟩ := hI.out
        have e : ∀ o, wr.cell? ⟨b, o, none⟩ = WB.cell? ⟨b, o, none⟩ := fun o => World.cell?_of_block (hM.in.block b hbl)
        rw [← e, ← e, ← e, ← e] at hc'
        obtain ⟨hxo, c0, c1, c2, c3⟩ := hc'
        have hm' : (x.at T).Ok := x.at_ok hxo T (by have := hTb.out; omega)
        have HAf : Veil (∀ W, Calls Try.prog 42 #[x.v, .int .u64 T] W fun e w' => e = .returned (x.at T).v ∧ Below W.heap.size W w') := ⟨after_any x T⟩
        have HS : Veil (∀ (A : World) (c : Array Value) (Ty : TypeId) (o : Obj), MyP WB d kb sb (· = B) D A → A.heap[B]? = some o → Calls Try.prog 36 #[.pointer (some ⟨d, 0, none⟩), (x.at T).v] (A.alloc (.cells c Ty)) fun e w' => e = .returned (.int .i64 (if (x.at T).right then 0 else 40)) ∧ MyP WB d kb sb (fun k => k = B ∨ k = A.heap.size) (stoD D (x.at T)) w' ∧ w'.heap[B]? = some o ∧ w'.heap[A.heap.size]? = some (.cells c Ty (0, 0))) := ⟨fun A c Ty o h hB => torn_store h (by rw [hk5]; decide) (x.at T) hm' (by omega) (by omega) hB c Ty⟩
        have hw1 : IntKind.u64.wrap ((T : Int) + 1) = (T : Int) + 1 := by rw [IntKind.wrap_u64]; have := hTb.out; omega
        have HM : Veil _ := ⟨hM⟩
        have HBc : Veil _ := ⟨hB⟩
        have hBlt : B < wr.heap.size := lt_of_heap hB
        have hfew := stoD_few D (x.at T)
        cases hr : (x.at T).right
        · rw [hr] at HS
          have hD' : stoD D (x.at T) = D := by unfold stoD; rw [hr]; rfl
          rw [hD'] at HS
          have HN : Veil (D.kept.length = 8 ∧ D.uns.length ≤ k + 1 ∧ D.ops ≤ k + 1 ∧ D.Inv ∧ SlotsIs D T last) := ⟨hk5, by omega, by omega, hinv, hsl⟩
          clear hc e hbl hm' hM hk5 hu ho hinv hsl hB hr hD' hfew hI hxo
          obtain ⟨tx, a, hh, f⟩ := x
          unfold Mt.at Mt.v at *
          dsimp only at *
          go_wp2_with (first
            | (go_at_call 42; refine (HAf.out _).mono ?_; rintro e w3 ⟨rfl, hb3⟩; have HM3 : Veil _ := ⟨HM.out.below hb3⟩; have HB3 : Veil _ := ⟨(hb3.block B hBlt).trans HBc.out⟩)
            | (go_at_call 36; refine (HS.out _ _ _ _ HM3.out HB3.out).mono ?_; rintro e w4 ⟨rfl, hM4, hB4, -⟩; have HM4 : Veil _ := ⟨hM4.less (Q := (· = B)) fun k hk => .inl hk⟩; have HB4 : Veil _ := ⟨hB4⟩; clear hM4 hB4))
          go_roundw
          case rel => exact ⟨k + 1, T, last, by omega, by omega, by go_num, rfl, ⟨by have := hTb.out; omega⟩, ⟨D, HM4.out, HN.out.1, HN.out.2.1, HN.out.2.2.1, HN.out.2.2.2.1, HN.out.2.2.2.2, HB4.out⟩⟩
          case measure => simp [intOf]; omega
        · rw [hr] at HS
          have HN : Veil ((stoD D (x.at T)).kept.length = 8 ∧ (stoD D (x.at T)).uns.length ≤ k + 1 ∧ (stoD D (x.at T)).ops ≤ k + 1 ∧ (stoD D (x.at T)).Inv ∧ SlotsIs (stoD D (x.at T)) (T + 1) (x.at T)) := ⟨by rw [stoD_kept]; exact hk5, by omega, by omega, stoD_inv hinv _, hsl.store hM.my.ok.len (by rw [hk5]; decide) (x.at T) hm' hr rfl⟩
          generalize stoD D (x.at T) = D' at *
          clear hc e hbl hm' hM hk5 hu ho hinv hsl hB hr hfew hI hxo
          obtain ⟨tx, a, hh, f⟩ := x
          unfold Mt.at Mt.v at *
          dsimp only at *
          go_wp2_with (first
            | (go_at_call 42; refine (HAf.out _).mono ?_; rintro e w3 ⟨rfl, hb3⟩; have HM3 : Veil _ := ⟨HM.out.below hb3⟩; have HB3 : Veil _ := ⟨(hb3.block B hBlt).trans HBc.out⟩)
            | (go_at_call 36; refine (HS.out _ _ _ _ HM3.out HB3.out).mono ?_; rintro e w4 ⟨rfl, hM4, hB4, hX4⟩; have HM4 : Veil _ := ⟨hM4.less (Q := (· = B)) fun k hk => .inl hk⟩; have HB4 : Veil _ := ⟨hB4⟩; obtain ⟨⟨y0, y1, y2, y3⟩, -⟩ := pack4 hX4; obtain ⟨⟨z0, z1, z2, z3⟩, g0, g1, g2, g3⟩ := pack4 hB4; clear hM4 hB4 hX4))
          have hT := ((((Turned.refl (· = B) w4).setCell (p := ⟨B, 0, none⟩) rfl (.int .u64 T)).setCell (p := ⟨B, 1, none⟩) rfl (.int .u32 a)).setCell (p := ⟨B, 2, none⟩) rfl (.int .u32 hh)).setCell (p := ⟨B, 3, none⟩) rfl (.int .u32 f)
          have HM5 : Veil _ := ⟨HM4.out.turned hT (fun k hk => ⟨hk, Nat.le_trans HWB.out (Nat.le_of_eq hk.symm)⟩)⟩
          have HB5 : Veil _ := ⟨set4 HB4.out (.int .u64 T) (.int .u32 a) (.int .u32 hh) (.int .u32 f)⟩
          go_roundw
          case rel => exact ⟨k + 1, T + 1, ⟨T, a, hh, f⟩, by omega, by omega, by go_num, by go_num, ⟨by have := hTb.out; omega⟩, ⟨D', HM5.out, HN.out.1, HN.out.2.1, HN.out.2.2.1, HN.out.2.2.2.1, HN.out.2.2.2.2, HB5.out⟩⟩
          case measure => simp [intOf]; omega
      have hend : (¬ k < l.length) ∨ (k < l.length ∧ ¬ k < 5) := by omega
      clear hin
      obtain ⟨D, hM, hk5, hu, ho, hinv, hsl, hB⟩ := hI.out
      have HM : Veil _ := ⟨hM⟩
      have HBc : Veil _ := ⟨hB⟩
      have hm' : (now.at T).Ok := now.at_ok HNO.out T (by have := hTb.out; omega)
      have HSy : Veil (∀ A, MyP WB d kb sb (· = B) D A → Calls Try.prog 43 #[.pointer (some ⟨d, 0, none⟩)] A fun e w' => e = .returned (.int .i64 0) ∧ MyP WB d kb sb (· = B) D.sync w' ∧ w'.heap[B]? = A.heap[B]?) := ⟨fun A h => (msync_p h (by omega)).mono fun e w' ⟨h1, h2, h3⟩ => ⟨h1, h2, h3 B rfl⟩⟩
      have hsk : D.sync.kept.length = 8 := by show (keepAll D.kept (all64 D.uns)).length = 8; rw [length_keepAll]; exact hk5
      have HS2 : Veil (∀ (A : World) (c : Array Value) (Ty : TypeId) (o : Obj), MyP WB d kb sb (· = B) D.sync A → A.heap[B]? = some o → Calls Try.prog 36 #[.pointer (some ⟨d, 0, none⟩), (now.at T).v] (A.alloc (.cells c Ty)) fun e w' => e = .returned (.int .i64 (if (now.at T).right then 0 else 40)) ∧ MyP WB d kb sb (fun k => k = B ∨ k = A.heap.size) (stoD D.sync (now.at T)) w' ∧ w'.heap[B]? = some o ∧ w'.heap[A.heap.size]? = some (.cells c Ty (0, 0))) := ⟨fun A c Ty o h hB => torn_store h (by rw [hsk]; decide) (now.at T) hm' (by show (0 : Nat) < _; decide) (by show D.ops + 1 < _; omega) hB c Ty⟩
      have HA2 : Veil _ := ⟨HAn.out T⟩
      have hlast := hsl.last
      have HTL : Veil (∀ n : Nat, n ≤ 64 → last ≠ Mt.zero → (now.at T).right = true → ∃ g : Mt, loadMV ((stoD D.sync (now.at T)).crash [(n : Int)]) = .tuple #[g.v, .int .i64 0] ∧ ((g = last ∧ n ≠ 64) ∨ (g = now.at T ∧ n ≠ 0))) := ⟨fun n hn hl hr => torn_end hinv hk5 hsl hl (now.at T) hm' hr rfl n hn⟩
      have HU : Veil ((now.at T).right = true → (stoD D.sync (now.at T)).uns.length = 1) := ⟨fun hr => (crash_seen D hinv (by rw [hk5]; decide) (now.at T) hr 0).2.2⟩
      clear hM hk5 hu ho hinv hsl hB hI hm' hsk
      have hlc : last = Mt.zero ∨ (1 ≤ last.tx ∧ last ≠ Mt.zero ∧ last.tx + 1 = T) := by
        rcases hlast with h0 | ⟨-, lr, lt, -⟩
        · exact .inl h0
        · have := ((Mt.right_iff _).1 lr).1
          exact .inr ⟨this, fun h0 => by rw [h0] at this; exact absurd this (by decide), lt⟩
      clear hlast
      rcases hlc with rfl | ⟨hl1, hl2, hl3⟩
      · clear HTL HU HS2
        obtain ⟨tx, a, hh, f⟩ := now
        unfold Mt.at Mt.v at *
        dsimp only at *
        rcases hend with h1 | ⟨h1, h2⟩
        all_goals
          go_wp2_with (first
            | (go_at_call 43; refine (HSy.out _ HM.out).mono ?_; rintro e w5 ⟨rfl, hM5, hB5⟩; have HM5 : Veil _ := ⟨hM5⟩; have HB5 : Veil _ := ⟨hB5.trans HBc.out⟩; obtain ⟨x0, x1, x2, x3⟩ := ST.out w5 hM5.in; clear hM5 hB5)
            | (go_at_call 42; refine (HA2.out _).mono ?_; rintro e w6 ⟨rfl, hb6⟩; have HM6 : Veil _ := ⟨HM5.out.below hb6⟩; have hl6 : B < w6.heap.size := Nat.lt_of_lt_of_le (lt_of_heap HB5.out) hb6.size; obtain ⟨⟨y0, y1, y2, y3⟩, -⟩ := pack4 ((hb6.block B (lt_of_heap HB5.out)).trans HB5.out)))
          go_ret
          exact ⟨rfl, blw_then hwB.out (below_al HM6.out.in _)⟩
      · have hL0 : ((last.tx : Int) == 0) = false := by simp; omega
        have hne : ((T : Int) == (last.tx : Int)) = false := by simp; omega
        cases hr : (now.at T).right
        · rw [hr] at HS2
          clear HTL HU hr
          obtain ⟨tx, a, hh, f⟩ := now
          unfold Mt.at Mt.v at *
          dsimp only at *
          rcases hend with h1 | ⟨h1, h2⟩
          all_goals
            go_wp2_with (first
              | (go_at_call 43; refine (HSy.out _ HM.out).mono ?_; rintro e w5 ⟨rfl, hM5, hB5⟩; have HM5 : Veil _ := ⟨hM5⟩; have HB5 : Veil _ := ⟨hB5.trans HBc.out⟩; obtain ⟨x0, x1, x2, x3⟩ := ST.out w5 hM5.in; clear hM5 hB5)
              | (go_at_call 42; refine (HA2.out _).mono ?_; rintro e w6 ⟨rfl, hb6⟩; have HM6 : Veil _ := ⟨HM5.out.below hb6⟩; have hl6 : B < w6.heap.size := Nat.lt_of_lt_of_le (lt_of_heap HB5.out) hb6.size; have HB6 : Veil _ := ⟨(hb6.block B (lt_of_heap HB5.out)).trans HB5.out⟩; obtain ⟨⟨y0, y1, y2, y3⟩, -⟩ := pack4 HB6.out)
              | (go_at_call 36; refine (HS2.out _ _ _ _ HM6.out HB6.out).mono ?_; rintro e w7 ⟨rfl, hM7, -⟩; have HM7 : Veil _ := ⟨hM7⟩; clear hM7))
            go_ret
            exact ⟨rfl, blw_then hwB.out HM7.out.in⟩
        · rw [hr] at HS2
          have HU1 : Veil _ := ⟨HU.out hr⟩
          have hn3 : n < 0 ∨ 64 < n ∨ ∃ nn : Nat, nn ≤ 64 ∧ n = nn := by
            by_cases h0 : n < 0
            · exact .inl h0
            · by_cases h64 : 64 < n
              · exact .inr (.inl h64)
              · exact .inr (.inr ⟨n.toNat, by omega, by omega⟩)
          have hB16 : ∀ (A : World) (P : Nat → Prop), MyP WB d kb sb P (stoD D.sync (now.at T)) A → (n < 0 ∨ 64 < n) → Calls Try.prog 44 #[.pointer (some ⟨d, 0, none⟩), .slice (some ⟨A.heap.size, 0, none⟩) 1 1] (A.alloc (.cells #[.int .i64 n] 3)) fun e w' => e = .returned (.int .i64 2) ∧ Below WB.heap.size WB w' := fun A P h hn => (mcrash_p h n HU1.out).2 hn
          have HB16 : Veil _ := ⟨hB16⟩
          clear hB16
          rcases hn3 with hn | hn | ⟨nn, hn, rfl⟩
          · clear HTL HU hr
            obtain ⟨tx, a, hh, f⟩ := now
            unfold Mt.at Mt.v at *
            dsimp only at *
            rcases hend with h1 | ⟨h1, h2⟩
            all_goals
              go_wp2_with (first
                | (go_at_call 43; refine (HSy.out _ HM.out).mono ?_; rintro e w5 ⟨rfl, hM5, hB5⟩; have HM5 : Veil _ := ⟨hM5⟩; have HB5 : Veil _ := ⟨hB5.trans HBc.out⟩; obtain ⟨x0, x1, x2, x3⟩ := ST.out w5 hM5.in; clear hM5 hB5)
                | (go_at_call 42; refine (HA2.out _).mono ?_; rintro e w6 ⟨rfl, hb6⟩; have HM6 : Veil _ := ⟨HM5.out.below hb6⟩; have hl6 : B < w6.heap.size := Nat.lt_of_lt_of_le (lt_of_heap HB5.out) hb6.size; have HB6 : Veil _ := ⟨(hb6.block B (lt_of_heap HB5.out)).trans HB5.out⟩; obtain ⟨⟨y0, y1, y2, y3⟩, -⟩ := pack4 HB6.out)
                | (go_at_call 36; refine (HS2.out _ _ _ _ HM6.out HB6.out).mono ?_; rintro e w7 ⟨rfl, hM7, -⟩; have HM7 : Veil _ := ⟨hM7⟩; clear hM7)
                | (go_at_call 44; refine (HB16.out _ _ HM7.out (.inl hn)).mono ?_; rintro e w8 ⟨rfl, hb8⟩))
              go_ret
              exact ⟨rfl, blw_then hwB.out hb8⟩
          · clear HTL HU hr
            obtain ⟨tx, a, hh, f⟩ := now
            unfold Mt.at Mt.v at *
            dsimp only at *
            rcases hend with h1 | ⟨h1, h2⟩
            all_goals
              go_wp2_with (first
                | (go_at_call 43; refine (HSy.out _ HM.out).mono ?_; rintro e w5 ⟨rfl, hM5, hB5⟩; have HM5 : Veil _ := ⟨hM5⟩; have HB5 : Veil _ := ⟨hB5.trans HBc.out⟩; obtain ⟨x0, x1, x2, x3⟩ := ST.out w5 hM5.in; clear hM5 hB5)
                | (go_at_call 42; refine (HA2.out _).mono ?_; rintro e w6 ⟨rfl, hb6⟩; have HM6 : Veil _ := ⟨HM5.out.below hb6⟩; have hl6 : B < w6.heap.size := Nat.lt_of_lt_of_le (lt_of_heap HB5.out) hb6.size; have HB6 : Veil _ := ⟨(hb6.block B (lt_of_heap HB5.out)).trans HB5.out⟩; obtain ⟨⟨y0, y1, y2, y3⟩, -⟩ := pack4 HB6.out)
                | (go_at_call 36; refine (HS2.out _ _ _ _ HM6.out HB6.out).mono ?_; rintro e w7 ⟨rfl, hM7, -⟩; have HM7 : Veil _ := ⟨hM7⟩; clear hM7)
                | (go_at_call 44; refine (HB16.out _ _ HM7.out (.inr hn)).mono ?_; rintro e w8 ⟨rfl, hb8⟩))
              go_ret
              exact ⟨rfl, blw_then hwB.out hb8⟩
          · obtain ⟨g, hg, hgc⟩ := HTL.out nn hn hl2 hr
            have HCr : Veil (∀ (A : World) (P : Nat → Prop), MyP WB d kb sb P (stoD D.sync (now.at T)) A → Calls Try.prog 44 #[.pointer (some ⟨d, 0, none⟩), .slice (some ⟨A.heap.size, 0, none⟩) 1 1] (A.alloc (.cells #[.int .i64 nn] 3)) fun e w' => e = .returned (.int .i64 0) ∧ MyP WB d kb sb P ((stoD D.sync (now.at T)).crash [(nn : Int)]) w' ∧ ∀ k, P k → w'.heap[k]? = A.heap[k]?) := ⟨fun A P h => (mcrash_p h nn HU1.out).1 (by omega) (by omega)⟩
            have HL : Veil (∀ (A : World) (P : Nat → Prop), MyP WB d kb sb P ((stoD D.sync (now.at T)).crash [(nn : Int)]) A → Calls Try.prog 40 #[.pointer (some ⟨d, 0, none⟩)] A fun e w' => e = .returned (.tuple #[g.v, .int .i64 0]) ∧ MyP WB d kb sb P ((stoD D.sync (now.at T)).crash [(nn : Int)]) w' ∧ Below A.heap.size A w') := ⟨fun A P h => by have := mload_p h; rwa [hg] at this⟩
            clear HTL HU hr hg HB16
            generalize (stoD D.sync (now.at T)).crash [(nn : Int)] = C at *
            have hnn0 : (0 : Int) ≤ nn := by omega
            have hnn64 : (nn : Int) ≤ 64 := by omega
            clear hn
            rcases hgc with ⟨rfl, hx⟩ | ⟨rfl, hx⟩
            · have hn64 : (nn : Int) < 64 := by omega
              clear hx hne
              obtain ⟨tx, a, hh, f⟩ := now
              unfold Mt.at Mt.v at *
              dsimp only at *
              rcases hend with h1 | ⟨h1, h2⟩
              all_goals
                go_wp2_with (first
                  | (go_at_call 43; refine (HSy.out _ HM.out).mono ?_; rintro e w5 ⟨rfl, hM5, hB5⟩; have HM5 : Veil _ := ⟨hM5⟩; have HB5 : Veil _ := ⟨hB5.trans HBc.out⟩; obtain ⟨x0, x1, x2, x3⟩ := ST.out w5 hM5.in; clear hM5 hB5)
                  | (go_at_call 42; refine (HA2.out _).mono ?_; rintro e w6 ⟨rfl, hb6⟩; have HM6 : Veil _ := ⟨HM5.out.below hb6⟩; have hl6 : B < w6.heap.size := Nat.lt_of_lt_of_le (lt_of_heap HB5.out) hb6.size; have HB6 : Veil _ := ⟨(hb6.block B (lt_of_heap HB5.out)).trans HB5.out⟩; obtain ⟨⟨y0, y1, y2, y3⟩, -⟩ := pack4 HB6.out)
                  | (go_at_call 36; refine (HS2.out _ _ _ _ HM6.out HB6.out).mono ?_; rintro e w7 ⟨rfl, hM7, hB7, hX7⟩; have HM7 : Veil _ := ⟨hM7⟩; have HX7 : Veil _ := ⟨And.intro hB7 hX7⟩; clear hM7 hB7 hX7)
                  | (go_at_call 44; refine (HCr.out _ _ HM7.out).mono ?_; rintro e w8 ⟨rfl, hM8, hP8⟩; have HM8 : Veil _ := ⟨hM8⟩; have HX8 : Veil _ := ⟨And.intro ((hP8 B (.inl rfl)).trans HX7.out.1) ((hP8 w6.heap.size (.inr rfl)).trans HX7.out.2)⟩; clear hM8 hP8)
                  | (go_at_call 40; refine (HL.out _ _ HM8.out).mono ?_; rintro e w9 ⟨rfl, hM9, hb9⟩; have HM9 : Veil _ := ⟨hM9⟩; have hl9 : B < w9.heap.size := Nat.lt_of_lt_of_le (lt_of_heap HX8.out.1) hb9.size; have hx9 : w6.heap.size < w9.heap.size := Nat.lt_of_lt_of_le (lt_of_heap HX8.out.2) hb9.size; obtain ⟨⟨z0, z1, z2, z3⟩, -⟩ := pack4 ((hb9.block B (lt_of_heap HX8.out.1)).trans HX8.out.1); obtain ⟨⟨s0, s1, s2, s3⟩, -⟩ := pack4 ((hb9.block w6.heap.size (lt_of_heap HX8.out.2)).trans HX8.out.2); clear hM9 hb9 y0 y1 y2 y3))
                all_goals
                  go_ret
                  exact ⟨rfl, blw_then hwB.out (below_al HM9.out.in _)⟩
            · have hn0 : (0 : Int) < (nn : Int) := by omega
              clear hx
              obtain ⟨tx, a, hh, f⟩ := now
              unfold Mt.at Mt.v at *
              dsimp only at *
              rcases hend with h1 | ⟨h1, h2⟩
              all_goals
                go_wp2_with (first
                  | (go_at_call 43; refine (HSy.out _ HM.out).mono ?_; rintro e w5 ⟨rfl, hM5, hB5⟩; have HM5 : Veil _ := ⟨hM5⟩; have HB5 : Veil _ := ⟨hB5.trans HBc.out⟩; obtain ⟨x0, x1, x2, x3⟩ := ST.out w5 hM5.in; clear hM5 hB5)
                  | (go_at_call 42; refine (HA2.out _).mono ?_; rintro e w6 ⟨rfl, hb6⟩; have HM6 : Veil _ := ⟨HM5.out.below hb6⟩; have hl6 : B < w6.heap.size := Nat.lt_of_lt_of_le (lt_of_heap HB5.out) hb6.size; have HB6 : Veil _ := ⟨(hb6.block B (lt_of_heap HB5.out)).trans HB5.out⟩; obtain ⟨⟨y0, y1, y2, y3⟩, -⟩ := pack4 HB6.out)
                  | (go_at_call 36; refine (HS2.out _ _ _ _ HM6.out HB6.out).mono ?_; rintro e w7 ⟨rfl, hM7, hB7, hX7⟩; have HM7 : Veil _ := ⟨hM7⟩; have HX7 : Veil _ := ⟨And.intro hB7 hX7⟩; clear hM7 hB7 hX7)
                  | (go_at_call 44; refine (HCr.out _ _ HM7.out).mono ?_; rintro e w8 ⟨rfl, hM8, hP8⟩; have HM8 : Veil _ := ⟨hM8⟩; have HX8 : Veil _ := ⟨And.intro ((hP8 B (.inl rfl)).trans HX7.out.1) ((hP8 w6.heap.size (.inr rfl)).trans HX7.out.2)⟩; clear hM8 hP8)
                  | (go_at_call 40; refine (HL.out _ _ HM8.out).mono ?_; rintro e w9 ⟨rfl, hM9, hb9⟩; have HM9 : Veil _ := ⟨hM9⟩; have hl9 : B < w9.heap.size := Nat.lt_of_lt_of_le (lt_of_heap HX8.out.1) hb9.size; have hx9 : w6.heap.size < w9.heap.size := Nat.lt_of_lt_of_le (lt_of_heap HX8.out.2) hb9.size; obtain ⟨⟨z0, z1, z2, z3⟩, -⟩ := pack4 ((hb9.block B (lt_of_heap HX8.out.1)).trans HX8.out.1); obtain ⟨⟨s0, s1, s2, s3⟩, -⟩ := pack4 ((hb9.block w6.heap.size (lt_of_heap HX8.out.2)).trans HX8.out.2); clear hM9 hb9 y0 y1 y2 y3))
                all_goals
                  go_ret
                  exact ⟨rfl, blw_then hwB.out (below_al HM9.out.in _)⟩
end Go.Proofs.Ytghpcjkjhbafnaa
