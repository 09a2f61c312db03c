/- Goods: stacks, which are right, counting, giving, taking, moving: reckoning. -/
import Derived.Test.YtckkiilbabbeaaaDoorKC0
import Derived.Test.YtckkiilbabbeaaaDoorKN0
namespace Go.Proofs.YtckkiilbabbeaaaDoor
open Go Go.RowKit Sm

structure St where
  item : Nat
  n : Int
def St.zero : St := ⟨0, 0⟩
def St.v (s : St) : Value := .agg #[.int .u16 s.item, .int .i64 s.n]
def elS : El St where
  enc s := [.int .u16 s.item, .int .i64 s.n]
  z := 2
  ty := 25
  sl := 38
  bytes := 16
  zero := .agg #[.int .u16 0, .int .i64 0]
  d := St.zero
  len _ := rfl
  one x v hv := by
    simp only [List.mem_cons, List.not_mem_nil, or_false] at hv
    rcases hv with rfl | rfl <;> rfl
  pos := by decide
  under := by kernel_rfl
  info := by kernel_rfl
  zlen := rfl
  few := by decide

def amt1 (n : Int) : Bool := decide (1 ≤ n ∧ n ≤ 1152921504606846976)
theorem amt1_iff (n : Int) : amt1 n = true ↔ (1 ≤ n ∧ n ≤ 1152921504606846976) := by unfold amt1; exact decide_eq_true_iff
/-- May the stack of this place stand there? -/
def okAt (l : List St) (i : Nat) : Bool := amt1 (l.getD i St.zero).n && (decide (i = 0) || decide ((l.getD (i - 1) St.zero).item < (l.getD i St.zero).item))
def rightG (l : List St) : Bool := decide (l.length ≤ 20) && (List.range l.length).all (okAt l)
def countG (l : List St) (item : Nat) : Int :=
  match l with
  | [] => 0
  | s :: r => if s.item = item then s.n else countG r item
def withX (s : St) : List St → Bool → List St
  | [], d => if d then [] else [s]
  | x :: r, d =>
    if d = false ∧ s.item ≤ x.item then s :: (if x.item = s.item then withX s r true else x :: withX s r true)
    else if x.item = s.item then withX s r d else x :: withX s r d
def withG (l : List St) (s : St) : List St := withX s l (decide (s.n = 0))
def giveG (l : List St) (s : St) : List St × Int :=
  if rightG l && amt1 s.n then
    (if countG l s.item + s.n ≤ 1152921504606846976 then (if countG l s.item = 0 ∧ l.length = 20 then ([], 121) else (withG l ⟨s.item, countG l s.item + s.n⟩, 0)) else ([], 111))
  else ([], 120)
def takeG (l : List St) (s : St) : List St × Int :=
  if rightG l && amt1 s.n then (if s.n ≤ countG l s.item then (withG l ⟨s.item, countG l s.item - s.n⟩, 0) else ([], 122)) else ([], 120)
def moveG (a b : List St) (s : St) : List St × List St × Int :=
  if (takeG a s).2 = 0 then (if (giveG b s).2 = 0 then ((takeG a s).1, (giveG b s).1, 0) else ([], [], (giveG b s).2)) else ([], [], (takeG a s).2)

/-! ### In order -/
def Sorted (l : List St) : Prop := l.Pairwise fun a b => a.item < b.item
structure GoodsOk (l : List St) : Prop where
  few : l.length ≤ 20
  amt : ∀ s ∈ l, 1 ≤ s.n ∧ s.n ≤ 1152921504606846976
  srt : Sorted l
theorem rightG_iff (l : List St) : rightG l = true ↔ GoodsOk l := by
  unfold rightG
  rw [Bool.and_eq_true, decide_eq_true_iff, List.all_eq_true]
  have key : ∀ i, i < l.length → ∃ h : i < l.length, l.getD i St.zero = l[i] := fun i h => ⟨h, by simp [List.getD, h]⟩
  constructor
  · rintro ⟨h1, h2⟩
    have each : ∀ i, i < l.length → okAt l i = true := fun i hi => h2 i (List.mem_range.2 hi)
    refine ⟨h1, fun s hs => ?_, ?_⟩
    · obtain ⟨i, hi, rfl⟩ := List.getElem_of_mem hs
      have := each i hi
      unfold okAt at this
      rw [Bool.and_eq_true, amt1_iff, (key i hi).2] at this
      exact this.1
    · unfold Sorted
      rw [List.pairwise_iff_getElem]
      intro i j hi hj hij
      induction j with
      | zero => omega
      | succ j ih =>
        have hjj := each (j + 1) hj
        unfold okAt at hjj
        rw [Bool.and_eq_true, Bool.or_eq_true, decide_eq_true_iff, decide_eq_true_iff, Nat.add_sub_cancel, (key (j + 1) hj).2, (key j (by omega)).2] at hjj
        rcases Nat.lt_or_ge i j with h | h
        · have := ih (by omega) h
          omega
        · obtain rfl : i = j := by omega
          omega
  · rintro ⟨h1, h2, h3⟩
    refine ⟨h1, fun i hi => ?_⟩
    have hi := List.mem_range.1 hi
    unfold okAt
    rw [Bool.and_eq_true, amt1_iff, (key i hi).2, Bool.or_eq_true, decide_eq_true_iff, decide_eq_true_iff]
    refine ⟨h2 _ (List.getElem_mem hi), ?_⟩
    by_cases h0 : i = 0
    · exact .inl h0
    · refine .inr ?_
      rw [(key (i - 1) (by omega)).2]
      exact (List.pairwise_iff_getElem.1 h3) (i - 1) i (by omega) hi (by omega)

def lo (l : List St) (i : Nat) : List St := l.filter fun s => decide (s.item < i)
def hi (l : List St) (i : Nat) : List St := l.filter fun s => decide (i < s.item)
theorem withX_true (s : St) : ∀ l : List St, withX s l true = l.filter fun x => decide (x.item ≠ s.item)
  | [] => rfl
  | x :: r => by
    unfold withX
    rw [if_neg (by simp), List.filter_cons, withX_true s r]
    by_cases h : x.item = s.item
    · rw [if_pos h, if_neg (by simp [h])]
    · rw [if_neg h, if_pos (by simp [h])]
theorem filter_none {l : List St} {p : St → Bool} (h : ∀ x ∈ l, p x = false) : l.filter p = [] := by
  rw [List.filter_eq_nil_iff]
  intro x hx
  rw [h x hx]
  decide
theorem filter_all {l : List St} {p : St → Bool} (h : ∀ x ∈ l, p x = true) : l.filter p = l := List.filter_eq_self.2 h
theorem withX_false (s : St) : ∀ l : List St, Sorted l → withX s l false = lo l s.item ++ s :: hi l s.item
  | [], _ => rfl
  | x :: r, h => by
    obtain ⟨h1, h2⟩ := List.pairwise_cons.1 h
    unfold withX lo hi
    by_cases hx : s.item ≤ x.item
    · have e : (r.filter fun y => decide (y.item ≠ s.item)) = r := filter_all fun y hy => by have := h1 y hy; simp; omega
      have e2 : (r.filter fun y => decide (s.item < y.item)) = r := filter_all fun y hy => by have := h1 y hy; simp; omega
      have e3 : (r.filter fun y => decide (y.item < s.item)) = [] := filter_none fun y hy => by have := h1 y hy; simp; omega
      rw [if_pos ⟨rfl, hx⟩, withX_true, e]
      by_cases hh : x.item = s.item
      · rw [if_pos hh, List.filter_cons, if_neg (by simp; omega), List.filter_cons, if_neg (by simp; omega), e3, e2]; rfl
      · rw [if_neg hh, List.filter_cons, if_neg (by simp; omega), List.filter_cons, if_pos (by simp; omega), e3, e2]; rfl
    · rw [if_neg (by simp [hx]), if_neg (by omega), List.filter_cons, if_pos (by simp; omega), List.filter_cons, if_neg (by simp; omega), withX_false s r h2]
      rfl
theorem ne_split (l : List St) (i : Nat) (h : Sorted l) : (l.filter fun x => decide (x.item ≠ i)) = lo l i ++ hi l i := by
  induction l with
  | nil => rfl
  | cons x r ih =>
    obtain ⟨h1, h2⟩ := List.pairwise_cons.1 h
    unfold lo hi
    rw [List.filter_cons, List.filter_cons, List.filter_cons]
    rcases Nat.lt_trichotomy x.item i with hx | hx | hx
    · rw [if_pos (by simp; omega), if_pos (by simp; omega), if_neg (by simp; omega), ih h2]; rfl
    · rw [if_neg (by simp; omega), if_neg (by simp; omega), if_neg (by simp; omega), ih h2]; rfl
    · rw [if_pos (by simp; omega), if_neg (by simp; omega), if_pos (by simp; omega)]
      rw [filter_none (l := r) (p := fun s => decide (s.item < i)) (fun y hy => by have := h1 y hy; simp; omega), List.nil_append]
      congr 1
      rw [filter_all (l := r) (p := fun x => decide (x.item ≠ i)) (fun y hy => by have := h1 y hy; simp; omega), filter_all (l := r) (p := fun s => decide (i < s.item)) (fun y hy => by have := h1 y hy; simp; omega)]
theorem withG_zero (l : List St) (i : Nat) (h : Sorted l) : withG l ⟨i, 0⟩ = lo l i ++ hi l i := by
  unfold withG
  rw [decide_eq_true rfl, withX_true]
  exact ne_split l i h
theorem withG_some (l : List St) (i : Nat) (n : Int) (hn : n ≠ 0) (h : Sorted l) : withG l ⟨i, n⟩ = lo l i ++ ⟨i, n⟩ :: hi l i := by
  unfold withG
  rw [decide_eq_false hn]
  exact withX_false _ l h
/-- Goods are what is below, the stack itself, and what is above. -/
theorem goods_parts (l : List St) (i : Nat) (h : GoodsOk l) : (countG l i = 0 ∧ l = lo l i ++ hi l i) ∨ (1 ≤ countG l i ∧ countG l i ≤ 1152921504606846976 ∧ l = lo l i ++ ⟨i, countG l i⟩ :: hi l i) := by
  obtain ⟨-, ha, hs⟩ := h
  induction l with
  | nil => exact .inl ⟨rfl, rfl⟩
  | cons x r ih =>
    obtain ⟨h1, h2⟩ := List.pairwise_cons.1 hs
    have ih := ih (fun s hs => ha s (List.mem_cons_of_mem _ hs)) h2
    unfold lo hi countG
    rcases Nat.lt_trichotomy x.item i with hx | hx | hx
    · rw [if_neg (by omega), List.filter_cons, if_pos (by simp; omega), List.filter_cons, if_neg (by simp; omega)]
      rcases ih with ⟨e1, e2⟩ | ⟨e1, e2, e3⟩
      · exact .inl ⟨e1, by rw [List.cons_append]; congr 1⟩
      · exact .inr ⟨e1, e2, by rw [List.cons_append]; congr 1⟩
    · rw [if_pos hx, List.filter_cons, if_neg (by simp; omega), List.filter_cons, if_neg (by simp; omega)]
      have hxn := ha x List.mem_cons_self
      refine .inr ⟨hxn.1, hxn.2, ?_⟩
      rw [filter_none (l := r) (p := fun s => decide (s.item < i)) (fun y hy => by have := h1 y hy; simp; omega), List.nil_append, filter_all (l := r) (p := fun s => decide (i < s.item)) (fun y hy => by have := h1 y hy; simp; omega)]
      congr 1
      obtain ⟨a, b⟩ := x
      dsimp only at hx ⊢
      rw [hx]
    · have e1 : ∀ q : List St, (∀ y ∈ q, i < y.item) → countG q i = 0 := by
        intro q
        induction q with
        | nil => intro _; rfl
        | cons y t iht =>
          intro hq
          unfold countG
          rw [if_neg (by have := hq y List.mem_cons_self; omega)]
          exact iht fun z hz => hq z (List.mem_cons_of_mem _ hz)
      rw [if_neg (by omega), List.filter_cons, if_neg (by simp; omega), List.filter_cons, if_pos (by simp; omega)]
      refine .inl ⟨e1 r (fun y hy => by have := h1 y hy; omega), ?_⟩
      rw [filter_none (l := r) (p := fun s => decide (s.item < i)) (fun y hy => by have := h1 y hy; simp; omega), List.nil_append, filter_all (l := r) (p := fun s => decide (i < s.item)) (fun y hy => by have := h1 y hy; simp; omega)]
theorem lo_lt (l : List St) (i : Nat) : ∀ s ∈ lo l i, s.item < i := fun s hs => by simpa [lo] using (List.mem_filter.1 hs).2
theorem hi_lt (l : List St) (i : Nat) : ∀ s ∈ hi l i, i < s.item := fun s hs => by simpa [hi] using (List.mem_filter.1 hs).2
theorem lo_mem (l : List St) (i : Nat) : ∀ s ∈ lo l i, s ∈ l := fun _ hs => (List.mem_filter.1 hs).1
theorem hi_mem (l : List St) (i : Nat) : ∀ s ∈ hi l i, s ∈ l := fun _ hs => (List.mem_filter.1 hs).1
theorem lo_sorted {l : List St} (h : Sorted l) (i : Nat) : Sorted (lo l i) := h.filter _
theorem hi_sorted {l : List St} (h : Sorted l) (i : Nat) : Sorted (hi l i) := h.filter _
theorem count_append (a b : List St) (i : Nat) (h : ∀ s ∈ a, s.item ≠ i) : countG (a ++ b) i = countG b i := by
  induction a with
  | nil => rfl
  | cons x r ih =>
    rw [List.cons_append]
    show (if x.item = i then x.n else countG (r ++ b) i) = _
    rw [if_neg (h x List.mem_cons_self), ih fun s hs => h s (List.mem_cons_of_mem _ hs)]
theorem count_none (a : List St) (i : Nat) (h : ∀ s ∈ a, s.item ≠ i) : countG a i = 0 := by
  have := count_append a [] i h
  rw [List.append_nil] at this
  exact this
theorem count_cons (s : St) (r : List St) (i : Nat) : countG (s :: r) i = if s.item = i then s.n else countG r i := rfl
/-- What stands between is sorted. -/
theorem mid_sorted {l : List St} (h : Sorted l) (i : Nat) (n : Int) : Sorted (lo l i ++ ⟨i, n⟩ :: hi l i) := by
  unfold Sorted
  rw [List.pairwise_append]
  refine ⟨lo_sorted h i, List.pairwise_cons.2 ⟨fun s hs => hi_lt l i s hs, hi_sorted h i⟩, fun a ha b hb => ?_⟩
  have h1 := lo_lt l i a ha
  rcases List.mem_cons.1 hb with rfl | hb
  · exact h1
  · have := hi_lt l i b hb; omega
theorem gap_sorted {l : List St} (h : Sorted l) (i : Nat) : Sorted (lo l i ++ hi l i) := by
  unfold Sorted
  rw [List.pairwise_append]
  refine ⟨lo_sorted h i, hi_sorted h i, fun a ha b hb => ?_⟩
  have h1 := lo_lt l i a ha
  have := hi_lt l i b hb
  omega
theorem count_mid (l : List St) (i : Nat) (n : Int) : countG (lo l i ++ ⟨i, n⟩ :: hi l i) i = n := by
  rw [count_append _ _ _ (fun s hs => by have := lo_lt l i s hs; omega), count_cons, if_pos rfl]
theorem count_gap (l : List St) (i : Nat) : countG (lo l i ++ hi l i) i = 0 := by
  rw [count_append _ _ _ (fun s hs => by have := lo_lt l i s hs; omega), count_none _ _ (fun s hs => by have := hi_lt l i s hs; omega)]
/-- All others stay. -/
theorem count_other (A B : List St) (i j : Nat) (n : Int) (hj : j ≠ i) : countG (A ++ ⟨i, n⟩ :: B) j = countG (A ++ B) j := by
  induction A with
  | nil =>
    rw [List.nil_append, List.nil_append, count_cons, if_neg (by dsimp only; omega)]
  | cons x r ih =>
    rw [List.cons_append, List.cons_append, count_cons, count_cons, ih]
end Go.Proofs.YtckkiilbabbeaaaDoor

/- Goods: what giving and taking keep: reckoning. -/
namespace Go.Proofs.YtckkiilbabbeaaaDoor
open Go Go.RowKit Sm

theorem giveG_ok (l : List St) (s : St) (h : (giveG l s).2 = 0) : rightG l = true ∧ amt1 s.n = true ∧ countG l s.item + s.n ≤ 1152921504606846976 ∧ ¬ (countG l s.item = 0 ∧ l.length = 20) ∧ giveG l s = (withG l ⟨s.item, countG l s.item + s.n⟩, 0) := by
  unfold giveG at h ⊢
  by_cases h1 : (rightG l && amt1 s.n) = true
  · rw [if_pos h1] at h ⊢
    by_cases h2 : countG l s.item + s.n ≤ 1152921504606846976
    · rw [if_pos h2] at h ⊢
      by_cases h3 : countG l s.item = 0 ∧ l.length = 20
      · rw [if_pos h3] at h; exact absurd h (by decide)
      · rw [if_neg h3]
        rw [Bool.and_eq_true] at h1
        exact ⟨h1.1, h1.2, h2, h3, rfl⟩
    · rw [if_neg h2] at h; exact absurd h (by decide)
  · rw [if_neg h1] at h; exact absurd h (by decide)
theorem takeG_ok (l : List St) (s : St) (h : (takeG l s).2 = 0) : rightG l = true ∧ amt1 s.n = true ∧ s.n ≤ countG l s.item ∧ takeG l s = (withG l ⟨s.item, countG l s.item - s.n⟩, 0) := by
  unfold takeG at h ⊢
  by_cases h1 : (rightG l && amt1 s.n) = true
  · rw [if_pos h1] at h ⊢
    by_cases h2 : s.n ≤ countG l s.item
    · rw [if_pos h2]
      rw [Bool.and_eq_true] at h1
      exact ⟨h1.1, h1.2, h2, rfl⟩
    · rw [if_neg h2] at h; exact absurd h (by decide)
  · rw [if_neg h1] at h; exact absurd h (by decide)
theorem giveG_of (l : List St) (s : St) (h1 : rightG l = true) (h2 : amt1 s.n = true) (h3 : countG l s.item + s.n ≤ 1152921504606846976) (h4 : ¬ (countG l s.item = 0 ∧ l.length = 20)) : giveG l s = (withG l ⟨s.item, countG l s.item + s.n⟩, 0) := by
  unfold giveG
  rw [if_pos (by rw [h1, h2]; rfl), if_pos h3, if_neg h4]
theorem takeG_of (l : List St) (s : St) (h1 : rightG l = true) (h2 : amt1 s.n = true) (h3 : s.n ≤ countG l s.item) : takeG l s = (withG l ⟨s.item, countG l s.item - s.n⟩, 0) := by
  unfold takeG
  rw [if_pos (by rw [h1, h2]; rfl), if_pos h3]
theorem giveG_err (l : List St) (s : St) (h : (giveG l s).2 ≠ 0) : (giveG l s).1 = [] := by
  unfold giveG at h ⊢
  by_cases h1 : (rightG l && amt1 s.n) = true
  · rw [if_pos h1] at h ⊢
    by_cases h2 : countG l s.item + s.n ≤ 1152921504606846976
    · rw [if_pos h2] at h ⊢
      by_cases h3 : countG l s.item = 0 ∧ l.length = 20
      · rw [if_pos h3]
      · rw [if_neg h3] at h; exact absurd rfl h
    · rw [if_neg h2]
  · rw [if_neg h1]
theorem takeG_err (l : List St) (s : St) (h : (takeG l s).2 ≠ 0) : (takeG l s).1 = [] := by
  unfold takeG at h ⊢
  by_cases h1 : (rightG l && amt1 s.n) = true
  · rw [if_pos h1] at h ⊢
    by_cases h2 : s.n ≤ countG l s.item
    · rw [if_pos h2] at h; exact absurd rfl h
    · rw [if_neg h2]
  · rw [if_neg h1]
/-- Goods with another stack of an item: right, so many, all others as before. -/
structure WithOk (l r : List St) (i : Nat) (n : Int) : Prop where
  ok : GoodsOk r
  cnt : countG r i = n
  oth : ∀ j, j ≠ i → countG r j = countG l j
theorem lo_with (l : List St) (i : Nat) (n : Int) : lo (lo l i ++ ⟨i, n⟩ :: hi l i) i = lo l i ∧ hi (lo l i ++ ⟨i, n⟩ :: hi l i) i = hi l i := by
  constructor
  · unfold lo
    rw [List.filter_append, List.filter_cons, if_neg (by simp)]
    rw [filter_all (fun y hy => by have := lo_lt l i y hy; simpa using this)]
    have e : ((hi l i).filter fun s => decide (s.item < i)) = [] := filter_none fun y hy => by have := hi_lt l i y hy; simp; omega
    rw [e, List.append_nil]
  · unfold hi
    rw [List.filter_append, List.filter_cons, if_neg (by simp)]
    have e : ((lo l i).filter fun s => decide (i < s.item)) = [] := filter_none fun y hy => by have := lo_lt l i y hy; simp; omega
    rw [e, List.nil_append]
    exact filter_all (fun y hy => by have := hi_lt l i y hy; simpa using this)
theorem lo_gap (l : List St) (i : Nat) : lo (lo l i ++ hi l i) i = lo l i ∧ hi (lo l i ++ hi l i) i = hi l i := by
  constructor
  · unfold lo
    rw [List.filter_append, filter_all (fun y hy => by have := lo_lt l i y hy; simpa using this)]
    have e : ((hi l i).filter fun s => decide (s.item < i)) = [] := filter_none fun y hy => by have := hi_lt l i y hy; simp; omega
    rw [e, List.append_nil]
  · unfold hi
    rw [List.filter_append]
    have e : ((lo l i).filter fun s => decide (i < s.item)) = [] := filter_none fun y hy => by have := lo_lt l i y hy; simp; omega
    rw [e, List.nil_append]
    exact filter_all (fun y hy => by have := hi_lt l i y hy; simpa using this)
theorem others_mid (l : List St) (i j : Nat) (n : Int) (h : GoodsOk l) (hj : j ≠ i) : countG (lo l i ++ ⟨i, n⟩ :: hi l i) j = countG l j := by
  rw [count_other _ _ i j n hj]
  rcases goods_parts l i h with ⟨-, h2⟩ | ⟨-, -, h2⟩
  · rw [← h2]
  · conv => rhs; rw [h2]
    rw [count_other _ _ i j _ hj]
theorem others_gap (l : List St) (i j : Nat) (h : GoodsOk l) (hj : j ≠ i) : countG (lo l i ++ hi l i) j = countG l j := by
  have := others_mid l i j 1 h hj
  rwa [count_other _ _ i j 1 hj] at this
theorem mem_parts {l : List St} {i : Nat} {s : St} (h : s ∈ lo l i ∨ s ∈ hi l i) : s ∈ l := by
  rcases h with h | h
  · exact lo_mem l i s h
  · exact hi_mem l i s h
theorem with_mid (l : List St) (i : Nat) (n : Int) (h : GoodsOk l) (hn : 1 ≤ n ∧ n ≤ 1152921504606846976) (hroom : ¬ (countG l i = 0 ∧ l.length = 20)) : withG l ⟨i, n⟩ = lo l i ++ ⟨i, n⟩ :: hi l i ∧ WithOk l (lo l i ++ ⟨i, n⟩ :: hi l i) i n := by
  refine ⟨withG_some l i n (by omega) h.srt, ⟨?_, ?_, mid_sorted h.srt i n⟩, count_mid l i n, fun j hj => others_mid l i j n h hj⟩
  · have h20 := h.few
    rcases goods_parts l i h with ⟨h1, h2⟩ | ⟨h1, -, h2⟩
    · have hl : l.length ≠ 20 := fun hh => hroom ⟨h1, hh⟩
      have e := congrArg List.length h2
      simp only [List.length_append, List.length_cons] at e ⊢
      omega
    · have e := congrArg List.length h2
      simp only [List.length_append, List.length_cons] at e ⊢
      omega
  · intro s hs
    rcases List.mem_append.1 hs with hs | hs
    · exact h.amt s (lo_mem l i s hs)
    · rcases List.mem_cons.1 hs with rfl | hs
      · exact hn
      · exact h.amt s (hi_mem l i s hs)
theorem with_gap (l : List St) (i : Nat) (h : GoodsOk l) : withG l ⟨i, 0⟩ = lo l i ++ hi l i ∧ WithOk l (lo l i ++ hi l i) i 0 := by
  refine ⟨withG_zero l i h.srt, ⟨?_, ?_, gap_sorted h.srt i⟩, count_gap l i, fun j hj => others_gap l i j h hj⟩
  · have h20 := h.few
    rcases goods_parts l i h with ⟨-, h2⟩ | ⟨-, -, h2⟩
    · have e := congrArg List.length h2
      simp only [List.length_append] at e ⊢
      omega
    · have e := congrArg List.length h2
      simp only [List.length_append, List.length_cons] at e ⊢
      omega
  · intro s hs
    rcases List.mem_append.1 hs with hs | hs
    · exact h.amt s (lo_mem l i s hs)
    · exact h.amt s (hi_mem l i s hs)
theorem count_nn (l : List St) (i : Nat) (h : GoodsOk l) : 0 ≤ countG l i ∧ countG l i ≤ 1152921504606846976 := by
  rcases goods_parts l i h with ⟨h1, -⟩ | ⟨h1, h2, -⟩
  · rw [h1]; omega
  · omega
theorem give_keeps (l : List St) (s : St) (h : (giveG l s).2 = 0) : WithOk l (giveG l s).1 s.item (countG l s.item + s.n) := by
  obtain ⟨h1, h2, h3, h4, h5⟩ := giveG_ok l s h
  have hg := (rightG_iff l).1 h1
  have hn := count_nn l s.item hg
  rw [amt1_iff] at h2
  rw [h5]
  obtain ⟨e1, e2⟩ := with_mid l s.item (countG l s.item + s.n) hg (by omega) h4
  dsimp only
  rw [e1]
  exact e2
theorem take_keeps (l : List St) (s : St) (h : (takeG l s).2 = 0) : WithOk l (takeG l s).1 s.item (countG l s.item - s.n) := by
  obtain ⟨h1, h2, h3, h4⟩ := takeG_ok l s h
  have hg := (rightG_iff l).1 h1
  have hn := count_nn l s.item hg
  rw [amt1_iff] at h2
  rw [h4]
  dsimp only
  by_cases hz : countG l s.item - s.n = 0
  · rw [hz]
    obtain ⟨e1, e2⟩ := with_gap l s.item hg
    rw [e1]
    exact e2
  · obtain ⟨e1, e2⟩ := with_mid l s.item (countG l s.item - s.n) hg (by omega) (by omega)
    rw [e1]
    exact e2
/-- What is given and taken again is what it was. -/
theorem give_take (l : List St) (s : St) (h : (giveG l s).2 = 0) : takeG (giveG l s).1 s = (l, 0) := by
  obtain ⟨h1, h2, h3, h4, h5⟩ := giveG_ok l s h
  have hk := give_keeps l s h
  have hg := (rightG_iff l).1 h1
  have hn := count_nn l s.item hg
  have ha := (amt1_iff s.n).1 h2
  have hr := (rightG_iff _).2 hk.ok
  rw [takeG_of _ _ hr h2 (by rw [hk.cnt]; omega), hk.cnt, Int.add_sub_cancel]
  obtain ⟨e1, -⟩ := with_mid l s.item (countG l s.item + s.n) hg (by omega) h4
  obtain ⟨q1, q2⟩ := lo_with l s.item (countG l s.item + s.n)
  have hkk := hk.ok
  rw [h5] at hkk ⊢
  dsimp only at hkk ⊢
  rw [e1] at hkk ⊢
  congr 1
  rcases goods_parts l s.item hg with ⟨z, hl⟩ | ⟨z, -, hl⟩
  · rw [z] at q1 q2 hkk ⊢
    rw [withG_zero _ _ hkk.srt, q1, q2]
    exact hl.symm
  · rw [withG_some _ _ _ (by omega) hkk.srt, q1, q2]
    exact hl.symm
/-- What is taken and given again is what it was. -/
theorem take_give (l : List St) (s : St) (h : (takeG l s).2 = 0) : giveG (takeG l s).1 s = (l, 0) := by
  obtain ⟨h1, h2, h3, h4⟩ := takeG_ok l s h
  have hk := take_keeps l s h
  have hg := (rightG_iff l).1 h1
  have hn := count_nn l s.item hg
  have ha := (amt1_iff s.n).1 h2
  have hr := (rightG_iff _).2 hk.ok
  have hpos : 1 ≤ countG l s.item := by omega
  have hl : l = lo l s.item ++ ⟨s.item, countG l s.item⟩ :: hi l s.item := by
    rcases goods_parts l s.item hg with ⟨z, -⟩ | ⟨-, -, hl⟩
    · omega
    · exact hl
  have hcnt := hk.cnt
  have hfin : ¬ (countG l s.item - s.n = 0 ∧ (takeG l s).1.length = 20) := by
    rintro ⟨hz, h20⟩
    rw [h4] at h20
    dsimp only at h20
    rw [hz, (with_gap l s.item hg).1] at h20
    have e := congrArg List.length hl
    have := hg.few
    simp only [List.length_append, List.length_cons] at e h20
    omega
  rw [giveG_of _ _ hr h2 (by rw [hcnt]; omega) (by rw [hcnt]; exact hfin), hcnt, Int.sub_add_cancel]
  have hkk := hk.ok
  rw [h4] at hkk ⊢
  dsimp only at hkk ⊢
  congr 1
  by_cases hz : countG l s.item - s.n = 0
  · rw [hz] at hkk ⊢
    obtain ⟨e1, -⟩ := with_gap l s.item hg
    obtain ⟨q1, q2⟩ := lo_gap l s.item
    rw [e1] at hkk ⊢
    rw [withG_some _ _ _ (by omega) hkk.srt, q1, q2, ← hl]
  · obtain ⟨e1, -⟩ := with_mid l s.item (countG l s.item - s.n) hg (by omega) (by omega)
    obtain ⟨q1, q2⟩ := lo_with l s.item (countG l s.item - s.n)
    rw [e1] at hkk ⊢
    rw [withG_some _ _ _ (by omega) hkk.srt, q1, q2, ← hl]
/-- Given in two parts is given at once. -/
theorem give_twice (l : List St) (i : Nat) (n m : Int) (h : (giveG l ⟨i, n⟩).2 = 0) (g : (giveG (giveG l ⟨i, n⟩).1 ⟨i, m⟩).2 = 0) : giveG l ⟨i, n + m⟩ = giveG (giveG l ⟨i, n⟩).1 ⟨i, m⟩ := by
  obtain ⟨h1, h2, h3, h4, h5⟩ := giveG_ok l ⟨i, n⟩ h
  obtain ⟨g1, g2, g3, g4, g5⟩ := giveG_ok _ ⟨i, m⟩ g
  have hk := give_keeps l ⟨i, n⟩ h
  have hg := (rightG_iff l).1 h1
  have hn := count_nn l i hg
  dsimp only at *
  have hcnt := hk.cnt
  rw [hcnt] at g3
  have a2 := (amt1_iff n).1 h2
  have b2 := (amt1_iff m).1 g2
  have hnm : amt1 (n + m) = true := (amt1_iff _).2 (by omega)
  rw [g5, hcnt, giveG_of l ⟨i, n + m⟩ h1 hnm (by dsimp only; omega) h4, h5]
  dsimp only
  congr 1
  obtain ⟨e1, -⟩ := with_mid l i (countG l i + n) hg (by omega) h4
  obtain ⟨e3, -⟩ := with_mid l i (countG l i + (n + m)) hg (by omega) h4
  obtain ⟨q1, q2⟩ := lo_with l i (countG l i + n)
  rw [e3, e1, withG_some _ _ _ (by omega) (mid_sorted hg.srt i _), q1, q2, Int.add_assoc]
theorem sizes_ok (l : List St) (s : St) : (giveG l s).1.length ≤ 20 ∧ (takeG l s).1.length ≤ 20 := by
  constructor
  · by_cases h : (giveG l s).2 = 0
    · exact (give_keeps l s h).ok.few
    · rw [giveG_err l s h]; exact Nat.zero_le _
  · by_cases h : (takeG l s).2 = 0
    · exact (take_keeps l s h).ok.few
    · rw [takeG_err l s h]; exact Nat.zero_le _
theorem moveG_ok (a b : List St) (s : St) (h : (moveG a b s).2.2 = 0) : (takeG a s).2 = 0 ∧ (giveG b s).2 = 0 ∧ moveG a b s = ((takeG a s).1, (giveG b s).1, 0) := by
  unfold moveG at h ⊢
  by_cases h1 : (takeG a s).2 = 0
  · rw [if_pos h1] at h ⊢
    by_cases h2 : (giveG b s).2 = 0
    · rw [if_pos h2]; exact ⟨h1, h2, rfl⟩
    · rw [if_neg h2] at h; exact absurd h h2
  · rw [if_neg h1] at h; exact absurd h h1
theorem moveG_err (a b : List St) (s : St) (h : (moveG a b s).2.2 ≠ 0) : (moveG a b s).1 = [] ∧ (moveG a b s).2.1 = [] := by
  unfold moveG at h ⊢
  by_cases h1 : (takeG a s).2 = 0
  · rw [if_pos h1] at h ⊢
    by_cases h2 : (giveG b s).2 = 0
    · rw [if_pos h2] at h; exact absurd rfl h
    · rw [if_neg h2]; exact ⟨rfl, rfl⟩
  · rw [if_neg h1]; exact ⟨rfl, rfl⟩
end Go.Proofs.YtckkiilbabbeaaaDoor

/- Goods, by the program: reckoning: Items that rise from a least one on, parts of goods, where a place is. -/
namespace Go.Proofs.YtckkiilbabbeaaaDoor
open Go Go.RowKit Sm

/-- Items are those of two bytes. -/
def GdW (l : List St) : Prop := ∀ s ∈ l, s.item < 65536
theorem GdW.take {l : List St} (h : GdW l) (n : Nat) : GdW (l.take n) := fun s hs => h s (List.mem_of_mem_take hs)
theorem GdW.nil : GdW [] := fun _ h => by cases h
theorem GdW.at' {l : List St} (h : GdW l) {k : Nat} (hk : k < l.length) : (l.getD k St.zero).item < 65536 := by
  have e : l.getD k St.zero = l[k] := by simp [List.getD, hk]
  rw [e]
  exact h _ (List.getElem_mem hk)
theorem withX_mem (s x : St) : ∀ (l : List St) (d : Bool), x ∈ withX s l d → x = s ∨ x ∈ l
  | [], d, h => by
    unfold withX at h
    cases d
    · simp at h; exact .inl h
    · simp at h
  | y :: r, d, h => by
    unfold withX at h
    split at h
    · rcases List.mem_cons.1 h with h | h
      · exact .inl h
      · split at h
        · rcases withX_mem s x r true h with h | h
          · exact .inl h
          · exact .inr (List.mem_cons_of_mem _ h)
        · rcases List.mem_cons.1 h with h | h
          · exact .inr (by rw [h]; exact List.mem_cons_self)
          · rcases withX_mem s x r true h with h | h
            · exact .inl h
            · exact .inr (List.mem_cons_of_mem _ h)
    · split at h
      · rcases withX_mem s x r d h with h | h
        · exact .inl h
        · exact .inr (List.mem_cons_of_mem _ h)
      · rcases List.mem_cons.1 h with h | h
        · exact .inr (by rw [h]; exact List.mem_cons_self)
        · rcases withX_mem s x r d h with h | h
          · exact .inl h
          · exact .inr (List.mem_cons_of_mem _ h)
theorem withG_w {l : List St} {s : St} (h : GdW l) (hs : s.item < 65536) : GdW (withG l s) := fun x hx => by
  rcases withX_mem _ _ _ _ hx with h' | h'
  · rw [h']; exact hs
  · exact h x h'
theorem giveG_w {l : List St} {s : St} (h : GdW l) (hs : s.item < 65536) : GdW (giveG l s).1 := by
  by_cases hh : (giveG l s).2 = 0
  · rw [(giveG_ok l s hh).2.2.2.2]; exact withG_w h hs
  · rw [giveG_err l s hh]; exact GdW.nil
theorem takeG_w {l : List St} {s : St} (h : GdW l) (hs : s.item < 65536) : GdW (takeG l s).1 := by
  by_cases hh : (takeG l s).2 = 0
  · rw [(takeG_ok l s hh).2.2.2]; exact withG_w h hs
  · rw [takeG_err l s hh]; exact GdW.nil
theorem moveG_w {a b : List St} {s : St} (h : GdW a) (h' : GdW b) (hs : s.item < 65536) : GdW (moveG a b s).1 ∧ GdW (moveG a b s).2.1 := by
  by_cases hh : (moveG a b s).2.2 = 0
  · rw [(moveG_ok a b s hh).2.2]; exact ⟨takeG_w h hs, giveG_w h' hs⟩
  · rw [(moveG_err a b s hh).1, (moveG_err a b s hh).2]; exact ⟨GdW.nil, GdW.nil⟩

/-! ### Rising -/
def risG : Nat → List St → Bool
  | _, [] => true
  | k, s :: r => decide (k ≤ s.item) && risG (s.item + 1) r
theorem risG_iff : ∀ (l : List St) (k : Nat), risG k l = true ↔ (Sorted l ∧ ∀ s ∈ l, k ≤ s.item)
  | [], k => by simp [risG, Sorted]
  | s :: r, k => by
    rw [risG, Bool.and_eq_true, decide_eq_true_iff, risG_iff r (s.item + 1)]
    unfold Sorted
    rw [List.pairwise_cons]
    constructor
    · rintro ⟨h1, h2, h3⟩
      refine ⟨⟨fun x hx => h3 x hx, h2⟩, fun x hx => ?_⟩
      rcases List.mem_cons.1 hx with rfl | hx
      · exact h1
      · have := h3 x hx; omega
    · rintro ⟨⟨h1, h2⟩, h3⟩
      exact ⟨h3 s List.mem_cons_self, h2, fun x hx => h1 x hx⟩
def nsG (l : List St) : List Int := l.map St.n
theorem nsG_take (l : List St) (k : Nat) (h : k < l.length) : nsG (l.take (k + 1)) = nsG (l.take k) ++ [(l.getD k St.zero).n] := by
  unfold nsG
  rw [List.take_succ_eq_append_getElem h, List.map_append]
  simp [List.getD, h]
/-- Are these goods, and these numbers beside them stacks' Counts? -/
def rightC (l : List St) (C : List Int) : Bool := decide (l.length ≤ 20) && (risG 0 l && (C ++ nsG l).all amt1)
theorem rightC_eq (l : List St) (C : List Int) : rightC l C = (rightG l && C.all amt1) := by
  rw [Bool.eq_iff_iff]
  unfold rightC
  rw [Bool.and_eq_true, Bool.and_eq_true, Bool.and_eq_true, decide_eq_true_iff, risG_iff, rightG_iff, List.all_append, Bool.and_eq_true]
  constructor
  · rintro ⟨h1, ⟨h2, -⟩, h3, h4⟩
    refine ⟨⟨h1, fun s hs => ?_, h2⟩, h3⟩
    exact (amt1_iff _).1 (List.all_eq_true.1 h4 _ (List.mem_map_of_mem hs))
  · rintro ⟨⟨h1, h2, h3⟩, h4⟩
    refine ⟨h1, ⟨h3, fun _ _ => Nat.zero_le _⟩, h4, List.all_eq_true.2 fun x hx => ?_⟩
    obtain ⟨s, hs, rfl⟩ := List.mem_map.1 hx
    exact (amt1_iff _).2 (h2 s hs)

/-! ### Where a place is -/
theorem idx_take (l : List St) (i : Nat) (h : Sorted l) : l.take (l.findIdx fun s => decide (i ≤ s.item)) = lo l i := by
  induction l with
  | nil => rfl
  | cons x r ih =>
    obtain ⟨h1, h2⟩ := List.pairwise_cons.1 h
    have ih := ih h2
    unfold lo at ih ⊢
    rw [List.findIdx_cons]
    by_cases hx : i ≤ x.item
    · rw [decide_eq_true hx, List.filter_cons, if_neg (by simp; omega), filter_none (fun y hy => by have := h1 y hy; simp; omega)]
      rfl
    · rw [decide_eq_false hx, List.filter_cons, if_pos (by simp; omega)]
      show List.take (_ + 1) _ = _
      rw [List.take_succ_cons, ih]
theorem idx_drop (l : List St) (i : Nat) (h : Sorted l) : l.drop (l.findIdx fun s => decide (i + 1 ≤ s.item)) = hi l i := by
  induction l with
  | nil => rfl
  | cons x r ih =>
    obtain ⟨h1, h2⟩ := List.pairwise_cons.1 h
    have ih := ih h2
    unfold hi at ih ⊢
    rw [List.findIdx_cons]
    by_cases hx : i + 1 ≤ x.item
    · rw [decide_eq_true hx, List.filter_cons, if_pos (by simp; omega), filter_all (fun y hy => by have := h1 y hy; simp; omega)]
      rfl
    · rw [decide_eq_false hx, List.filter_cons, if_neg (by simp; omega)]
      show List.drop (_ + 1) _ = _
      rw [List.drop_succ_cons, ih]
/-- Goods where all there is of an item is this stack. -/
def stackedG (l : List St) (s : St) : List St := l.take (l.findIdx fun x => decide (s.item ≤ x.item)) ++ (if s.n = 0 then [] else [s]) ++ l.drop (l.findIdx fun x => decide (s.item + 1 ≤ x.item))
theorem stackedG_eq (l : List St) (s : St) (h : Sorted l) : stackedG l s = withG l s := by
  obtain ⟨i, n⟩ := s
  unfold stackedG
  dsimp only
  rw [idx_take l i h, idx_drop l i h]
  by_cases hn : n = 0
  · subst hn
    rw [if_pos rfl, withG_zero l i h]
    simp
  · rw [if_neg hn, withG_some l i n hn h]
    simp
theorem count_idx (l : List St) (i : Nat) : countG l i = (l.getD (l.findIdx fun s => decide (s.item = i)) St.zero).n := by
  induction l with
  | nil => rfl
  | cons x r ih =>
    unfold countG
    rw [List.findIdx_cons]
    by_cases hx : x.item = i
    · rw [if_pos hx, decide_eq_true hx]
      rfl
    · rw [if_neg hx, decide_eq_false hx, ih]
      rfl
end Go.Proofs.YtckkiilbabbeaaaDoor
