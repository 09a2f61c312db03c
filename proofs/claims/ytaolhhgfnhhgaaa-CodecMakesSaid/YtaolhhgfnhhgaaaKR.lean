/- A range over a function whose rounds are known by their number: the iterator's contract, the caller's law, the way out past the marks. -/
import Derived.RangeFuncNested
import Derived.RangeFuncLeaves
import Derived.Test.YtaolhhgfnhhgaaaKG
import Derived.Test.YtaolhhgfnhhgaaaKD0
namespace Go.Proofs.Ytaolhhgfnhhgaaa
open Go Go.RowKit

/-- W' is W but for new blocks, and for blocks from B on that hold no cells. -/
structure Booked (B : Nat) (W W' : World) : Prop where
  os : W'.os = W.os
  tape : W'.tape = W.tape
  output : W'.output = W.output
  size : W.heap.size ≤ W'.heap.size
  block : ∀ k o, W.heap[k]? = some o → (k < B ∨ o.isCells = true) → W'.heap[k]? = some o

section
variable {B : Nat} {W W' W'' : World}
theorem Booked.refl (B : Nat) (W : World) : Booked B W W := ⟨rfl, rfl, rfl, Nat.le_refl _, fun _ _ h _ => h⟩
theorem Booked.trans (h : Booked B W W') (k : Booked B W' W'') : Booked B W W'' :=
  ⟨k.os.trans h.os, k.tape.trans h.tape, k.output.trans h.output, Nat.le_trans h.size k.size, fun i o hi ho => k.block i o (h.block i o hi ho) ho⟩
theorem Booked.putObj (W : World) {l : Nat} {o : Obj} (hl : W.heap[l]? = some o) (ho : o.isCells = false) (hB : B ≤ l) (o' : Obj) : Booked B W (W.putObj l o') :=
  ⟨rfl, rfl, rfl, by simp, fun k x hk hx => by
    have hne : k ≠ l := fun e => by
      subst e
      rw [hl] at hk
      cases hk
      rcases hx with hx | hx
      · omega
      · rw [ho] at hx; cases hx
    rw [World.putObj_heap_other hne]; exact hk⟩
theorem Booked.below (h : Below W.heap.size W W') : Booked B W W' :=
  ⟨h.os, h.tape, h.output, h.size, fun k o hk _ => by rw [h.block k (Array.getElem?_eq_some_iff.1 hk).1]; exact hk⟩
theorem Booked.heap (h : Booked B W W') {k : Nat} {c : Array Value} {t : TypeId} {fr : Nat × Nat} (hk : W.heap[k]? = some (.cells c t fr)) : W'.heap[k]? = some (.cells c t fr) := h.block k _ hk (.inr rfl)
theorem Booked.old (h : Booked B W W') {k : Nat} {o : Obj} (hk : W.heap[k]? = some o) (hB : k < B) : W'.heap[k]? = some o := h.block k o hk (.inl hB)
/-- What had turned of a world that ended at or ahead of B. -/
theorem Booked.turned {F : Nat → Prop} {w0 : World} (h : Booked B W W') (ht : Turned F w0 W) (hB : w0.heap.size ≤ B) : Turned F w0 W' :=
  ⟨h.os.trans ht.os, h.tape.trans ht.tape, h.output.trans ht.output, Nat.le_trans ht.size h.size, fun k hk hf => by
    rw [← ht.block k hk hf]
    have hlt : k < W.heap.size := Nat.lt_of_lt_of_le hk ht.size
    rw [h.block k W.heap[k] (by simp [hlt]) (.inl (by omega))]
    simp [hlt]⟩
theorem Booked.ownsRow (h : Booked B W W') {base e size n : Nat} {v : Value} {xs : List Value} (hr : W.ownsRow base e size v n xs) : W'.ownsRow base e size v n xs := by
  obtain ⟨h1, h2⟩ := hr
  refine ⟨h1, ?_⟩
  rcases h2 with h2 | ⟨g, cap, cur, hv, hg, hh, r⟩
  · exact Or.inl h2
  · exact Or.inr ⟨g, cap, cur, hv, hg, h.heap hh, r⟩
end

/-- An iterator: it hands N rounds to whatever yield, the k-th of 'encs k', as long as what it reads stands. -/
def Seq (P : Program) (gf : Nat) (lb : Array Value) (encs : Nat → Array Value) (N : Nat) (Fact : World → Prop) : Prop :=
  ∀ (l n : Nat) (J Jx : Nat → World → Prop) (W : World),
    (∀ k A A', J k A → Below A.heap.size A A' → J k A') → (∀ k A A', Jx k A → Below A.heap.size A A' → Jx k A') → (∀ k A, J k A → Fact A) →
    (∀ k A, k < N → J k A → YieldAt Fence.wide n P l (encs k) A fun e A' => (e = .returned (.bool true) ∧ J (k + 1) A') ∨ (e = .returned (.bool false) ∧ Jx k A')) →
    J 0 W → CallsIn Fence.wide (n + 1) P gf (#[.func (.yield l) #[] #[]] ++ lb) W fun e W' => (∃ v, e = .returned v) ∧ (J N W' ∨ ∃ k, k < N ∧ Jx k W')

/-- How the body of a round may be left. -/
def RoundQ (B : Nat) (I : World → Prop) (Ix : Code → World → Prop) (A : World) : Exit → Act → World → Prop
  | .normal, _, A' => KeepsFrom B A A' ∧ I A'
  | .ret, _, A' => KeepsFrom B A A' ∧ Ix .ret A'
  | .exit id, _, A' => KeepsFrom B A A' ∧ Ix (.exit id) A'
  | .goto t, _, A' => KeepsFrom B A A' ∧ Ix (.goto t) A'
  | .panic _, _, _ => False
  | .outgrown, _, _ => False

variable {P : Program}

theorem wp_range_seq {g : Operand} {ps : Array Tmp} {assign body : Code} {Q : Exit → Act → World → Prop} {a : Act} {w : World}
    {gf : Nat} {lb : Array Value} (hg : a.eval g = .func (.func gf) #[] lb) (eg : ∀ args w, (callFunc gf args).run P w = .ok (.enter gf args) w)
    {encs : Nat → Array Value} {N : Nat} {Fact : World → Prop} (hseq : Seq P gf lb encs N Fact) (hps : ∀ k, (encs k).size = ps.size)
    (I : Nat → World → Prop) (Ix : Code → Nat → World → Prop) (hI : ∀ k A A', I k A → Booked w.heap.size A A' → I k A') (hIx : ∀ c k A A', Ix c k A → Booked w.heap.size A A' → Ix c k A')
    (hF : ∀ k A, I k A → Fact A) (h0 : I 0 w)
    (hround : ∀ (l n k : Nat) (A : World), w.heap.size ≤ l → k < N → I k A → assign.wpIn (Fence.wide.inRound l) n P (Exit.then (fun a₁ A₁ => KeepsFrom w.heap.size A A₁ ∧ ∀ A₂, Booked w.heap.size A₁ A₂ → A₂.heap.size = A₁.heap.size → body.wpIn (Fence.wide.inRound l) n P (RoundQ w.heap.size (I (k + 1)) (fun c => Ix c k) A₂) a₁ A₂) (fun _ _ _ => False))
      { tmps := (ps.toList.zip (encs k).toList).foldl (fun t x => t.setIfInBounds x.1 x.2) a.tmps, defers := [] } A)
    (hdone : ∀ (D : Nat) (A : World), w.heap.size ≤ D → I N A → A.heap[D]? = some (.deferred (some [])) → Q .normal { a with defers := { target := .collected D, args := #[] } :: a.defers } A)
    (hstop : ∀ (D : Nat) (c : Code) (k : Nat) (A : World), w.heap.size ≤ D → k < N → Ix c k A → A.heap[D]? = some (.deferred (some [])) → c.wp P Q { a with defers := { target := .collected D, args := #[] } :: a.defers } A) :
    (Code.rangeFunc g ps assign body).wp P Q a w := by
  rw [← wpIn_wide (n := 2)]
  refine wpIn_rangeFunc fun fn _ => ?_
  obtain ⟨rec, hrec⟩ : ∃ rec : LoopState → Option Code → Loop, rec = fun st pe => { state := st, pending := pe, fn, tmps := a.tmps, params := ps, assign, body, defers := w.heap.size } := ⟨_, rfl⟩
  obtain ⟨W1, hW1⟩ : ∃ W1, (w.alloc (.deferred (some []))).alloc (.loop (rec .ready none)) = W1 := ⟨_, rfl⟩
  have hL1 : W1.heap[w.heap.size + 1]? = some (.loop (rec .ready none)) := by
    rw [← hW1]; have := World.alloc_heap_new (w.alloc (.deferred (some []))) (.loop (rec .ready none)); rwa [World.size_alloc] at this
  have hK1 : W1.heap[w.heap.size]? = some (.deferred (some [])) := by
    rw [← hW1]; exact (Below.heap_alloc _ _ _ (by simp)).trans (World.alloc_heap_new w _)
  have hB1 : Booked w.heap.size w W1 := by rw [← hW1]; exact Booked.below (below_al (below_al (Below.refl _ _) _) _)
  have hI1 : I 0 W1 := hI _ _ _ h0 hB1
  refine ⟨w.heap.size + 1, [{ target := .collected w.heap.size, args := #[] }], W1, { target := .fn (.func gf) lb, args := #[.func (.yield (w.heap.size + 1)) #[] #[]] }, W1, gf, #[.func (.yield (w.heap.size + 1)) #[] #[]] ++ lb, W1, ?_, ?_, fun _ _ => trivial, ?_, fun hd => by simp [Fence.wide] at hd, ?_⟩
  · rw [← hW1, hrec]; exact run_enterLoop_outer _ _ _ _ _
  · simp only [resolve, hg]
    simp [go_sem]
  · simp [invoke, go_sem, eg]
  · have hroundE : ∀ (jump : Option Code) (A2 A3 : World), A2.heap[w.heap.size + 1]? = some (.loop (rec .busy none)) → A2.heap[w.heap.size]? = some (.deferred (some [])) → KeepsFrom w.heap.size A2 A3 →
        (Instr.endRound (w.heap.size + 1) jump).run P A3 = .ok (.bool jump.isNone) (A3.putObj (w.heap.size + 1) (.loop (rec (if jump.isNone then .ready else .done) jump))) ∧
        A3.heap[w.heap.size + 1]? = some (.loop (rec .busy none)) ∧
        (A3.putObj (w.heap.size + 1) (.loop (rec (if jump.isNone then .ready else .done) jump))).heap[w.heap.size + 1]? = some (.loop (rec (if jump.isNone then .ready else .done) jump)) ∧
        (A3.putObj (w.heap.size + 1) (.loop (rec (if jump.isNone then .ready else .done) jump))).heap[w.heap.size]? = some (.deferred (some [])) := fun jump A2 A3 hl hk hkeep => by
      have hl3 := hkeep.same _ _ (by omega) hl rfl
      have hr := run_endRound (P := P) jump hl3
      rw [hrec] at hr ⊢
      exact ⟨hr, by rw [hrec] at hl3; exact hl3, World.putObj_heap_same (Array.getElem?_eq_some_iff.1 hl3).1, (World.putObj_heap_other (by omega)).trans (hkeep.same _ _ (Nat.le_refl _) hk rfl)⟩
    refine (hseq (w.heap.size + 1) 0
      (fun k A => I k A ∧ A.heap[w.heap.size + 1]? = some (.loop (rec .ready none)) ∧ A.heap[w.heap.size]? = some (.deferred (some [])))
      (fun k A => ∃ c, Ix c k A ∧ A.heap[w.heap.size + 1]? = some (.loop (rec .done (some c))) ∧ A.heap[w.heap.size]? = some (.deferred (some [])))
      W1 ?_ ?_ (fun k A h => hF k A h.1) ?_ ⟨hI1, hL1, hK1⟩).mono ?_
    · rintro k A A' ⟨h1, h2, h3⟩ hb
      exact ⟨hI _ _ _ h1 (Booked.below hb), by rw [hb.block _ (Array.getElem?_eq_some_iff.1 h2).1]; exact h2, by rw [hb.block _ (Array.getElem?_eq_some_iff.1 h3).1]; exact h3⟩
    · rintro k A A' ⟨c, h1, h2, h3⟩ hb
      exact ⟨c, hIx _ _ _ _ h1 (Booked.below hb), by rw [hb.block _ (Array.getElem?_eq_some_iff.1 h2).1]; exact h2, by rw [hb.block _ (Array.getElem?_eq_some_iff.1 h3).1]; exact h3⟩
    · -- one round
      rintro k A hlt ⟨hi, hl, hk⟩
      have hy := run_yield (P := P) (args := encs k) hl (by rw [hrec]; exact hps k)
      rw [hrec] at hy
      have htm : (ps.zip (encs k)).foldl (fun t x => t.setIfInBounds x.1 x.2) a.tmps = (ps.toList.zip (encs k).toList).foldl (fun t x => t.setIfInBounds x.1 x.2) a.tmps := by rw [← Array.foldl_toList, Array.toList_zip]
      simp only [] at hy
      rw [htm] at hy
      refine ⟨fn, _, assign, body, hy, roundIn_of_wpIn trivial (Code.wpIn_mono ?_ (hround (w.heap.size + 1) 0 k A (by omega) hlt hi))⟩
      intro e a1 A1 h
      cases e <;> try exact h
      obtain ⟨hkeep, hbody⟩ := h
      have hl1 := hkeep.same _ _ (by omega) hl rfl
      have hk1 := hkeep.same _ _ (Nat.le_refl _) hk rfl
      refine ⟨_, run_beginRound hl1 (by rw [hrec]), ?_⟩
      have hl2 : (A1.putObj (w.heap.size + 1) (.loop { rec .ready none with state := .busy })).heap[w.heap.size + 1]? = some (.loop (rec .busy none)) := by
        rw [World.putObj_heap_same (Array.getElem?_eq_some_iff.1 hl1).1, hrec]
      have hk2 : (A1.putObj (w.heap.size + 1) (.loop { rec .ready none with state := .busy })).heap[w.heap.size]? = some (.deferred (some [])) := (World.putObj_heap_other (by omega)).trans hk1
      refine Code.wpIn_mono ?_ (hbody _ (Booked.putObj A1 hl1 rfl (by omega) _) (by simp))
      intro e a3 A3 h3
      cases e with
      | normal =>
        obtain ⟨hkp, hi3⟩ := h3
        obtain ⟨hr, hl3, hl4, hk4⟩ := hroundE none _ A3 hl2 hk2 hkp
        exact ⟨_, _, hr, .inl ⟨rfl, hI _ _ _ hi3 (Booked.putObj A3 hl3 rfl (by omega) _), hl4, hk4⟩⟩
      | ret =>
        obtain ⟨hkp, hi3⟩ := h3
        obtain ⟨hr, hl3, hl4, hk4⟩ := hroundE (some .ret) _ A3 hl2 hk2 hkp
        exact ⟨_, _, hr, .inr ⟨rfl, _, hIx _ _ _ _ hi3 (Booked.putObj A3 hl3 rfl (by omega) _), hl4, hk4⟩⟩
      | exit id =>
        obtain ⟨hkp, hi3⟩ := h3
        obtain ⟨hr, hl3, hl4, hk4⟩ := hroundE (some (.exit id)) _ A3 hl2 hk2 hkp
        exact ⟨_, _, hr, .inr ⟨rfl, _, hIx _ _ _ _ hi3 (Booked.putObj A3 hl3 rfl (by omega) _), hl4, hk4⟩⟩
      | goto t =>
        obtain ⟨hkp, hi3⟩ := h3
        obtain ⟨hr, hl3, hl4, hk4⟩ := hroundE (some (.goto t)) _ A3 hl2 hk2 hkp
        exact ⟨_, _, hr, .inr ⟨rfl, _, hIx _ _ _ _ hi3 (Booked.putObj A3 hl3 rfl (by omega) _), hl4, hk4⟩⟩
      | panic ch => exact h3.elim
      | outgrown => exact h3.elim
    · -- behind the iterator
      rintro e W2 ⟨⟨v, rfl⟩, (⟨hi, hl, hk⟩ | ⟨k, hlt, c, hi, hl, hk⟩)⟩
      · have hend := run_endLoop (P := P) hl (by rw [hrec]; simp)
        rw [hrec] at hend
        exact ⟨none, _, hend, hdone _ _ (Nat.le_refl _) (hI _ _ _ hi (Booked.putObj W2 hl rfl (by omega) _)) ((World.putObj_heap_other (by omega)).trans hk)⟩
      · have hend := run_endLoop (P := P) hl (by rw [hrec]; simp)
        rw [hrec] at hend
        exact ⟨some c, _, hend, wpIn_wide.2 (hstop _ c k _ (Nat.le_refl _) hlt (hIx _ _ _ _ hi (Booked.putObj W2 hl rfl (by omega) _)) ((World.putObj_heap_other (by omega)).trans hk))⟩

/-- The same where a round may leave the loop's block by a break: both ways come to E. -/
theorem wp_range_break {g : Operand} {ps : Array Tmp} {assign body : Code} {id : Nat} {Q : Exit → Act → World → Prop} {a : Act} {w : World}
    {gf : Nat} {lb : Array Value} (hg : a.eval g = .func (.func gf) #[] lb) (eg : ∀ args w, (callFunc gf args).run P w = .ok (.enter gf args) w)
    {encs : Nat → Array Value} {N : Nat} {Fact : World → Prop} (hseq : Seq P gf lb encs N Fact) (hps : ∀ k, (encs k).size = ps.size)
    (I : Nat → World → Prop) (E : World → Prop) (hI : ∀ k A A', I k A → Booked w.heap.size A A' → I k A') (hE : ∀ A A', E A → Booked w.heap.size A A' → E A')
    (hF : ∀ k A, I k A → Fact A) (h0 : I 0 w) (hN : ∀ A, I N A → E A)
    (hround : ∀ (l n k : Nat) (A : World), w.heap.size ≤ l → k < N → I k A → assign.wpIn (Fence.wide.inRound l) n P (Exit.then (fun a₁ A₁ => KeepsFrom w.heap.size A A₁ ∧ ∀ A₂, Booked w.heap.size A₁ A₂ → A₂.heap.size = A₁.heap.size → body.wpIn (Fence.wide.inRound l) n P (RoundQ w.heap.size (I (k + 1)) (fun c A => c = .exit id ∧ E A) A₂) a₁ A₂) (fun _ _ _ => False))
      { tmps := (ps.toList.zip (encs k).toList).foldl (fun t x => t.setIfInBounds x.1 x.2) a.tmps, defers := [] } A)
    (hend : ∀ (D : Nat) (A : World), w.heap.size ≤ D → E A → A.heap[D]? = some (.deferred (some [])) → Q .normal { a with defers := { target := .collected D, args := #[] } :: a.defers } A) :
    (Code.rangeFunc g ps assign body).wp P (Exit.inBlock id Q) a w :=
  wp_range_seq hg eg hseq hps I (fun c _ A => c = .exit id ∧ E A) hI (fun _ _ A A' h hb => ⟨h.1, hE A A' h.2 hb⟩) hF h0 hround
    (fun D A hD hi hd => by simpa [Exit.inBlock] using hend D A hD (hN A hi) hd)
    (fun D c k A hD _ h hd => by
      obtain ⟨rfl, he⟩ := h
      exact wp_exit (by simpa [Exit.inBlock] using hend D A hD he hd))

/-! ### A function's way out past one mark, past two -/
/-- A function that holds a range over a function: its contract from its body, walked plainly. -/
theorem calls_of_wp_marks {f : FuncId} {fn : Func} {c : Code} {args : Array Value} {w : World} {R : Ending → World → Prop} (hf : P.funcs[f]? = some fn) (hb : fn.body = some c)
    (h : c.wp P (bodyPostM Fence.wide 0 P fn R) { tmps := args ++ Array.replicate (fn.ntmps - args.size) undef, defers := [] } w) : Calls P f args w R :=
  (callsIn_wide (n := 0)).1 (callsIn_of_wp_marks hf hb trivial (wpIn_wide.2 h))

theorem leaves_none {fn : Func} {tmps : Array Value} {R : Ending → World → Prop} {w : World} {v : Value} (hr : (results fn tmps).run P w = .ok v w) (h : R (.returned v) w) : LeavesInM Fence.wide 0 P fn tmps R [] .returning w :=
  ⟨v, hr, h⟩
theorem leaves_mark {fn : Func} {tmps : Array Value} {R : Ending → World → Prop} {w : World} {D B : Nat} {ds : List Deferred} (hD : w.heap[D]? = some (.deferred (some []))) (hB : B ≤ D)
    (h : ∀ w', Booked B w w' → (∀ k, k ≠ D → w'.heap[k]? = w.heap[k]?) → LeavesInM Fence.wide 0 P fn tmps R ds .returning w') : LeavesInM Fence.wide 0 P fn tmps R ({ target := .collected D, args := #[] } :: ds) .returning w :=
  ⟨by simp, .inl ⟨D, _, rfl, run_takeDeferred hD, h _ (Booked.putObj w hD rfl hB _) fun _ hk => World.putObj_heap_other hk⟩⟩
end Go.Proofs.Ytaolhhgfnhhgaaa
