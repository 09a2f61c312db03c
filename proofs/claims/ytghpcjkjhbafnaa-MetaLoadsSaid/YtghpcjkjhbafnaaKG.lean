/- Regions that draw their order, in one walk: a head of quiet operations and of changers that can come in one order alone, then a tail in one order. And: what is walked plainly holds in a round of a loop over a function, too. -/
import Derived.StillTailTactics
import Derived.OrdersHeld
import Derived.OrdersIn
import Derived.TacticsIn
import Derived.Deep.MidRow
namespace Go.Proofs.Ytghpcjkjhbafnaa
open Go

section
variable {P : Program} {ops : Array Oper} {md : Region.Mode} {Q : Exit → Act → World → Prop} {S : World → Prop}

/-- The head in whatever order, S kept; then L. -/
def wpAnyC (P : Program) (md : Region.Mode) (ops : Array Oper) (Q : Exit → Act → World → Prop) (S : World → Prop) (n : Nat) (L : Array Bool → Act → World → Prop) : Nat → Array Bool → Act → World → Prop
  | 0, listed, a, w => L listed a w
  | f + 1, listed, a, w =>
    Region.ready md ops listed ≠ [] ∧ ∀ i ∈ Region.ready md ops listed, i < n ∧ wpOp P ops Q i (fun a' w' => S w' ∧ wpAnyC P md ops Q S n L f (listed.setIfInBounds i true) a' w') a w

theorem wpAny_of_C {n g : Nat} {L : Array Bool → Act → World → Prop} (hL : ∀ listed a w, L listed a w → wpAny P md ops Q g listed a w) :
    ∀ (f : Nat) (listed : Array Bool) (a : Act) (w : World), wpAnyC P md ops Q S n L f listed a w → wpAny P md ops Q (f + g) listed a w
  | 0, listed, a, w, h => by rw [Nat.zero_add]; exact hL _ _ _ h
  | f + 1, listed, a, w, h => by
    rw [show f + 1 + g = (f + g) + 1 by omega]
    exact ⟨fun h0 => absurd h0 h.1, fun i hi => wpOp_mono (fun a' w' h' => wpAny_of_C hL f _ a' w' h'.2) (h.2 i hi).2⟩

theorem wpAnyC_first {n i : Nat} {oi : Oper} {v : Value} {L : Array Bool → Act → World → Prop} (hi : ops[i]? = some oi) (hsel : ∀ (j : Nat) (o : Oper) cs b, ops[j]? = some o → o.op ≠ .select cs b)
    (hs : Region.sinkB md ops n = true) (hc : Region.chainB md ops n = true) (hn : n < ops.size) (hin : i < n) (hQ : ∀ c a w, Q (.panic c) (a.put oi.dst v) w → Q (.panic c) a w)
    (hdone : ∀ listed a w, L listed a w → ∀ j ∈ Region.ready md ops listed, n ≤ j) :
    ∀ (f : Nat) (listed : Array Bool) (a : Act) (w : World), HeadInv md ops n listed →
      (∀ j oj, ops[j]? = some oj → j ≠ i → listed.getD j true = false → (∀ e ∈ oj.after, Region.binds md e = true → e.on ≠ i) → oi.apart ops oj = true) →
      i ∈ Region.ready md ops listed → YieldsIf P ops S oi v a → S w →
      wpAnyC P md ops Q S n L f (listed.setIfInBounds i true) (a.put oi.dst v) w → wpAnyC P md ops Q S n L (f + 1) listed a w := by
  intro f
  induction f with
  | zero =>
    intro listed a w inv _ hr hy hS H
    have hun := (mem_ready.1 hr).1
    refine ⟨fun h => (by rw [h] at hr; cases hr), fun j hj => ?_⟩
    have hjn : j < n := by
      rcases Nat.lt_or_ge j n with h | h
      · exact h
      · exact absurd hj (tail_waits hs hc hn inv _ i rfl hin hun j h)
    refine ⟨hjn, ?_⟩
    by_cases hji : j = i
    · subst hji; exact hy.wpOp hi hS ⟨hS, H⟩
    · have := hdone _ _ _ H j (ready_mono hj hji)
      omega
  | succ f ih =>
    intro listed a w inv hfree hr hy hS H
    have hun := (mem_ready.1 hr).1
    refine ⟨fun h => (by rw [h] at hr; cases hr), fun j hj => ?_⟩
    have hjn : j < n := by
      rcases Nat.lt_or_ge j n with h | h
      · exact h
      · exact absurd hj (tail_waits hs hc hn inv _ i rfl hin hun j h)
    refine ⟨hjn, ?_⟩
    by_cases hji : j = i
    · subst hji; exact hy.wpOp hi hS ⟨hS, H⟩
    · have h1 := (H.2 j (ready_mono hj hji)).2
      obtain ⟨hjun, oj, hoj, hall⟩ := mem_ready.1 hj
      have hnot : ∀ e ∈ oj.after, Region.binds md e = true → e.on ≠ i := fun e he hb heq => by
        have h1 := hall e he hb
        rw [heq, getD_both hun] at h1
        cases h1
      have h2 := wpOp_putIf hoj (hfree j oj hoj hji hjun hnot) (fun cs b => hsel i oi cs b hi) (fun cs b => hsel j oj cs b hoj) hQ hy h1
      have hfree' : ∀ k ok, ops[k]? = some ok → k ≠ i → (listed.setIfInBounds j true).getD k true = false →
          (∀ e ∈ ok.after, Region.binds md e = true → e.on ≠ i) → oi.apart ops ok = true := fun k ok hk hki hun hno => by
        refine hfree k ok hk hki ?_ hno
        by_cases hjk : j = k
        · subst hjk; exact hjun
        · rw [getD_set_ne true hjk] at hun; exact hun
      refine wpOp_mono (fun a' w' h3 => ⟨h3.2.1, ih (listed.setIfInBounds j true) a' w' (inv.set hj hjn) hfree' (ready_mono hr (Ne.symm hji)) h3.1 h3.2.1 ?_⟩) h2
      rw [Array.setIfInBounds_comm _ _ hji]
      exact h3.2.2

/-- The walk of a head: 'true': a quiet operation, taken first; 'false': a changer, the one that may come up. -/
def wpPlan (P : Program) (ops : Array Oper) (Q : Exit → Act → World → Prop) (S : World → Prop) (L : Act → World → Prop) : List (Bool × Oper) → Act → World → Prop
  | [], a, w => L a w
  | (true, o) :: r, a, w => ∃ v, YieldsIf P ops S o v a ∧ wpPlan P ops Q S L r (a.put o.dst v) w
  | (false, o) :: r, a, w => wpList P ops (fun e a' w' => match e with | .normal => S w' ∧ wpPlan P ops Q S L r a' w' | e => Q e a' w') [o] a w

def Region.planB (md : Region.Mode) (ops : Array Oper) (n g : Nat) : List (Bool × Nat) → Array Bool → Bool
  | [], listed => Region.seqB md ops g n listed
  | (true, i) :: r, listed => decide (i < n) && (Region.ready md ops listed).contains i && Region.free md ops listed i && Region.planB md ops n g r (listed.setIfInBounds i true)
  | (false, i) :: r, listed => decide (i < n) && decide (Region.ready md ops listed = [i]) && Region.planB md ops n g r (listed.setIfInBounds i true)

theorem seqB_ge {g k : Nat} {listed : Array Bool} (h : Region.seqB md ops g k listed = true) : ∀ j ∈ Region.ready md ops listed, k ≤ j := seqB_ready h

/-- The plan's operations, by their numbers. -/
def planOps (ops : Array Oper) (pl : List (Bool × Nat)) : List (Bool × Oper) := pl.filterMap fun (b, i) => (ops[i]?).map (b, ·)

theorem wpAnyC_plan {n g : Nat} {L : Act → World → Prop} (hsel : Region.noSelect ops = true) (hs : Region.sinkB md ops n = true) (hc : Region.chainB md ops n = true) (hn : n < ops.size) (hQ : ∀ c d v a w, Q (.panic c) (a.put d v) w → Q (.panic c) a w) (hO : ∀ a w, ¬ Q .outgrown a w) :
    ∀ (pl : List (Bool × Nat)) (listed : Array Bool) (a : Act) (w : World), HeadInv md ops n listed → Region.planB md ops n g pl listed = true → S w → wpPlan P ops Q S L (planOps ops pl) a w →
    wpAnyC P md ops Q S n (fun listed' a' w' => Region.seqB md ops g n listed' = true ∧ L a' w') pl.length listed a w
  | [], _, _, _, _, hB, _, h => ⟨by simpa [Region.planB] using hB, h⟩
  | (true, i) :: pl, listed, a, w, inv, hB, hS, h => by
    simp only [Region.planB, Bool.and_eq_true, decide_eq_true_eq] at hB
    obtain ⟨⟨⟨hin, hr⟩, hf⟩, hB'⟩ := hB
    have hr' : i ∈ Region.ready md ops listed := by simpa using hr
    obtain ⟨_, oi, hi, _⟩ := mem_ready.1 hr'
    simp only [planOps, List.filterMap_cons, hi, Option.map_some, wpPlan] at h
    obtain ⟨v, hy, hK⟩ := h
    exact wpAnyC_first hi (Region.noSelect_spec hsel) hs hc hn hin (fun c a w => hQ c _ _ a w) (fun listed' a' w' hL => seqB_ge hL.1) pl.length listed a w inv (Region.free_spec hi hf) hr' hy hS
      (wpAnyC_plan hsel hs hc hn hQ hO pl _ _ _ (inv.set hr' hin) hB' hS hK)
  | (false, i) :: pl, listed, a, w, inv, hB, hS, h => by
    simp only [Region.planB, Bool.and_eq_true, decide_eq_true_eq] at hB
    obtain ⟨⟨hin, hr⟩, hB'⟩ := hB
    have hr' : i ∈ Region.ready md ops listed := by rw [hr]; exact List.mem_singleton.2 rfl
    obtain ⟨_, oi, hi, _⟩ := mem_ready.1 hr'
    simp only [planOps, List.filterMap_cons, hi, Option.map_some, wpPlan] at h
    refine ⟨fun h0 => (by rw [h0] at hr; cases hr), fun j hj => ?_⟩
    rw [hr] at hj
    obtain rfl : j = i := by simpa using hj
    refine ⟨hin, ?_⟩
    unfold wpOp
    simp only [hi]
    simp only [wpList] at h
    split
    · rename_i hw
      simp only [hw, if_true] at h
      rcases h with h | ⟨_, a', w', h⟩
      · refine .inl ?_
        unfold Oper.wp at *
        generalize (execOp a.eval oi).run P w = r at *
        cases r with
        | ok x w' =>
          cases x <;> simp only [Oper.upon] at h ⊢
          case value u => exact ⟨h.1, wpAnyC_plan hsel hs hc hn hQ hO pl _ _ _ (inv.set hr' hin) hB' h.1 h.2⟩
          case skip => exact ⟨h.1, wpAnyC_plan hsel hs hc hn hQ hO pl _ _ _ (inv.set hr' hin) hB' h.1 h.2⟩
          case defer d => exact ⟨h.1, wpAnyC_plan hsel hs hc hn hQ hO pl _ _ _ (inv.set hr' hin) hB' h.1 h.2⟩
          case enter f args =>
            refine Calls.mono h fun e w'' he => ?_
            cases e with
            | returned u => exact ⟨he.1, wpAnyC_plan hsel hs hc hn hQ hO pl _ _ _ (inv.set hr' hin) hB' he.1 he.2⟩
            | panicked c => exact he
            | outgrown => obtain ⟨a', w', h'⟩ := he; exact absurd h' (hO a' w')
          case row row args => exact Rows.mono h fun u w'' he => ⟨he.1, wpAnyC_plan hsel hs hc hn hQ hO pl _ _ _ (inv.set hr' hin) hB' he.1 he.2⟩
        | halt x w' =>
          cases x <;> simp only [Oper.upon] at h ⊢
          case panic u => exact h
      · exact absurd h (hO a' w')
    · rename_i hw
      simp only [hw] at h
      exact ⟨h.1, wpAnyC_plan hsel hs hc hn hQ hO pl _ _ _ (inv.set hr' hin) hB' h.1 h.2⟩

/-- All that is asked of the region's text. -/
def Region.planAllB (md : Region.Mode) (ops : Array Oper) (n : Nat) (pl : List (Bool × Nat)) : Bool :=
  Region.noSelect ops && decide (n < ops.size) && decide (pl.length = n) && Region.sinkB md ops n && Region.chainB md ops n && Region.planB md ops n (ops.size - n) pl (Array.replicate ops.size false)

theorem wpAny_of_plan {l : List Oper} (n : Nat) (pl : List (Bool × Nat)) (hB : Region.planAllB .any l.toArray n pl = true) (hQ : ∀ c d v a w, Q (.panic c) (a.put d v) w → Q (.panic c) a w) (hO : ∀ a w, ¬ Q .outgrown a w)
    (S : World → Prop) {a : Act} {w : World} (hS : S w) (h : wpPlan P l.toArray Q S (fun a' w' => wpList P l.toArray Q (l.drop n) a' w') (planOps l.toArray pl) a w) :
    wpAny P .any l.toArray Q l.toArray.size (Array.replicate l.toArray.size false) a w := by
  simp only [Region.planAllB, Bool.and_eq_true, decide_eq_true_eq] at hB
  obtain ⟨⟨⟨⟨⟨hsel, hn⟩, hpl⟩, hs⟩, hc⟩, hplan⟩ := hB
  have hdl : (l.drop n).length = l.toArray.size - n := by simp
  have inv0 : HeadInv .any l.toArray n (Array.replicate l.toArray.size false) :=
    ⟨by simp, fun j oj _ hl => (by rw [getD_replicate_false] at hl; cases hl), fun t _ ht => getD_in (by simpa using ht) (getD_replicate_false _ _)⟩
  have H := wpAnyC_plan (P := P) (Q := Q) (S := S) (md := .any) (g := l.toArray.size - n) (L := fun a' w' => wpList P l.toArray Q (l.drop n) a' w') hsel hs hc hn hQ hO pl _ a w inv0 hplan hS h
  have := wpAny_of_C (Q := Q) (g := l.toArray.size - n) (fun listed a' w' hL => by
    have := wpAny_of_seq (md := .any) (Q' := Q) (l.drop n) n listed a' w' (fun j => by simp [List.getElem?_drop]) (by rw [hdl]; exact hL.1) hL.2
    rwa [hdl] at this) _ _ _ _ H
  rw [hpl, show n + (l.toArray.size - n) = l.toArray.size by omega] at this
  exact this

/-- THE LAW. -/
theorem wp_region_plan {id : Nat} {a : Act} {w : World} {l : List Oper} (n : Nat) (pl : List (Bool × Nat)) (hm : P.follows .mixedOrders = true) (hB : Region.planAllB .any l.toArray n pl = true) (hQ : ∀ c d v a w, Q (.panic c) (a.put d v) w → Q (.panic c) a w) (hO : ∀ a w, ¬ Q .outgrown a w)
    (S : World → Prop) (W : World) (hW : w.drew = W) (hS : S W) (h : wpPlan P l.toArray Q S (fun a' w' => wpList P l.toArray Q (l.drop n) a' w') (planOps l.toArray pl) a W) : (Code.region id l.toArray true).wp P Q a w := by
  subst hW
  exact wp_region_any hm (wpAny_of_plan n pl hB hQ hO S hS h)

/-- All but the last operations leave the world alone, the last come in one order: one walk, in a world of its own name. -/
theorem wp_region_tail {id : Nat} {a : Act} {w : World} {l : List Oper} (n : Nat) (hm : P.follows .mixedOrders = true) (hB : Region.lexTailB .any l.toArray n = true) (W : World) (hW : w.drew = W)
    (h : wpStill P l.toArray W (fun a' => wpList P l.toArray Q (l.drop n) a' W) (l.take n) a) : (Code.region id l.toArray true).wp P Q a w := by
  subst hW
  exact wp_region_still_tail n hm hB h

theorem wpAny_tail {w : World} {a : Act} {l : List Oper} (n : Nat) (hB : Region.lexTailB .any l.toArray n = true)
    (h : wpStill P l.toArray w (fun a' => wpList P l.toArray Q (l.drop n) a' w) (l.take n) a) : wpAny P .any l.toArray Q l.toArray.size (Array.replicate l.toArray.size false) a w := by
  simp only [Region.lexTailB, Bool.and_eq_true, decide_eq_true_eq] at hB
  obtain ⟨⟨⟨⟨hsel, hn⟩, hs⟩, hc⟩, hlex⟩ := hB
  have hn' : n < l.length := by simpa using hn
  have htl : (l.take n).length = n := by simp; omega
  have hdl : (l.drop n).length = l.toArray.size - n := by simp
  have inv0 : HeadInv .any l.toArray n (Array.replicate l.toArray.size false) :=
    ⟨by simp, fun j oj _ hl => (by rw [getD_replicate_false] at hl; cases hl), fun t _ ht => getD_in (by simpa using ht) (getD_replicate_false _ _)⟩
  have H := wpAnyL_lex (md := .any) (g := l.toArray.size - n) hsel hs hc hn (l.take n) 0 _ a (fun j hj => by
    have hj' : j < n := by rw [htl] at hj; exact hj
    simp [hj']) (by simpa using htl) inv0 (by rw [htl]; exact hlex) h
  have := wpAny_of_head (Q' := Q) (g := l.toArray.size - n) (fun listed a' hL => by
    have := wpAny_of_seq (md := .any) (Q' := Q) (l.drop n) n listed a' w (fun j => by simp [List.getElem?_drop]) (by rw [hdl]; exact hL.1) hL.2
    rwa [hdl] at this) _ _ _ H
  rw [htl, show n + (l.toArray.size - n) = l.toArray.size by omega] at this
  exact this
end

/-! ### Into a round -/
section
variable {P : Program} {ops : Array Oper} {Q : Exit → Act → World → Prop} {l : Nat} {n : Nat}

def noDefer (o : Oper) : Bool := match o.op with | .defer _ => false | _ => true

theorem semAt_noDefer (o : Oper) (h : noDefer o = true) (ro : Option Nat) (ρ : Operand → Value) : Oper.semAt ro ρ o = execOp ρ o :=
  Oper.semAt_eq ro ρ o fun c e => by simp [noDefer, e] at h

theorem uponIn_of_upon (o : Oper) (a : Act) (K K' : Act → World → Prop) (hK : ∀ a w, K a w → K' a w) (r : Result Next) (h : o.upon P a K Q r) : o.uponIn (Fence.wide.inRound l) n P a K' Q r := by
  cases r with
  | ok x w' =>
    cases x <;> simp only [Oper.upon, Oper.uponIn] at h ⊢
    case value u => exact hK _ _ h
    case skip => exact hK _ _ h
    case defer d => exact hK _ _ h
    case enter f args =>
      refine ⟨fun hd => by simp [Fence.wide] at hd, ?_⟩
      have h' := (callsIn_wide (n := n - 1)).2 h
      refine ⟨trivial, fun cs hr => ?_⟩
      obtain ⟨e, w2, fr, hR, hs, hf⟩ := h'.2 cs (room_wide _)
      refine ⟨e, w2, fr, ?_, hs, hf⟩
      cases e with
      | returned v => exact hK _ _ hR
      | panicked c => exact hR
      | outgrown => exact hR
    case row row args =>
      refine ⟨fun hd => by simp [Fence.wide] at hd, fun c cs _ => ?_⟩
      obtain ⟨v, w2, hR, hs⟩ := h c cs
      exact ⟨v, w2, hK _ _ hR, stepsIn_wide.2 hs⟩
  | halt x w' =>
    cases x <;> simp only [Oper.upon, Oper.uponIn] at h ⊢
    case panic u => exact h

theorem wpIn_of_wp (o : Oper) (hd : noDefer o = true) (a : Act) (w : World) (K K' : Act → World → Prop) (hK : ∀ a w, K a w → K' a w) (h : o.wp P a w K Q) : o.wpIn (Fence.wide.inRound l) n P a w K' Q := by
  refine ⟨fun _ _ => trivial, ?_⟩
  rw [semAt_noDefer o hd]
  exact uponIn_of_upon o a K K' hK _ h

theorem wpListIn_of_wpList (hO : ∀ a w, ¬ Q .outgrown a w) : ∀ (ol : List Oper), (∀ o ∈ ol, noDefer o = true) → ∀ (a : Act) (w : World), wpList P ops Q ol a w → wpListIn (Fence.wide.inRound l) n P ops Q ol a w
  | [], _, _, _, h => h
  | o :: r, hd, a, w, h => by
    have ih := wpListIn_of_wpList hO r (fun x hx => hd x (List.mem_cons_of_mem _ hx))
    simp only [wpList, wpListIn] at h ⊢
    split
    · rename_i hw
      simp only [hw, if_true] at h
      rcases h with h | ⟨_, a', w', h⟩
      · exact wpIn_of_wp o (hd o List.mem_cons_self) a w _ _ ih h
      · exact absurd h (hO a' w')
    · rename_i hw
      simp only [hw] at h
      exact ⟨fun _ _ => trivial, ih _ _ h⟩

theorem wpOpIn_of_wpOp (hO : ∀ a w, ¬ Q .outgrown a w) (i : Nat) (hd : ∀ o ∈ ops.toList, noDefer o = true) (K K' : Act → World → Prop) (hK : ∀ a w, K a w → K' a w) (a : Act) (w : World) (h : wpOp P ops Q i K a w) : wpOpIn (Fence.wide.inRound l) n P ops Q i K' a w := by
  unfold wpOp at h
  unfold wpOpIn
  split
  · rename_i ho; simp only [ho] at h; exact hK _ _ h
  · rename_i o ho
    simp only [ho] at h
    split
    · rename_i hw
      simp only [hw, if_true] at h
      rcases h with h | ⟨_, a', w', h⟩
      · exact wpIn_of_wp o (hd o (List.mem_of_getElem? (i := i) (by simpa using ho))) a w _ _ hK h
      · exact absurd h (hO a' w')
    · rename_i hw
      simp only [hw] at h
      exact ⟨fun _ _ => trivial, hK _ _ h⟩

theorem wpAnyIn_of_wpAny (hO : ∀ a w, ¬ Q .outgrown a w) (hd : ∀ o ∈ ops.toList, noDefer o = true) (md : Region.Mode) : ∀ (f : Nat) (listed : Array Bool) (a : Act) (w : World), wpAny P md ops Q f listed a w → wpAnyIn (Fence.wide.inRound l) n P md ops Q f listed a w
  | 0, _, _, _, h => h
  | f + 1, _, _, _, h => ⟨h.1, fun i hi => wpOpIn_of_wpOp hO i hd _ _ (fun a w => wpAnyIn_of_wpAny hO hd md f _ a w) _ _ (h.2 i hi)⟩

/-- A plain region in a round, walked plainly. -/
theorem wpIn_region_plain {id : Nat} {a : Act} {w : World} {ol : List Oper} (hO : ∀ a w, ¬ Q .outgrown a w) (hd : ol.all noDefer = true) (h : wpList P ol.toArray Q ol a w) : (Code.region id ol.toArray false).wpIn (Fence.wide.inRound l) n P Q a w :=
  wpIn_region_lit (wpListIn_of_wpList hO ol (fun o ho => (List.all_eq_true.1 hd) o ho) a w h)

/-- A region that draws, in a round. -/
theorem wpIn_region_tail {id : Nat} {a : Act} {w : World} {ol : List Oper} (k : Nat) (hm : P.follows .mixedOrders = true) (hB : Region.lexTailB .any ol.toArray k = true) (hO : ∀ a w, ¬ Q .outgrown a w) (hd : ol.all noDefer = true) (W : World) (hW : w.drew = W)
    (h : wpStill P ol.toArray W (fun a' => wpList P ol.toArray Q (ol.drop k) a' W) (ol.take k) a) : (Code.region id ol.toArray true).wpIn (Fence.wide.inRound l) n P Q a w := by
  subst hW
  exact wpIn_region_any hm (wpAnyIn_of_wpAny hO (fun o ho => (List.all_eq_true.1 hd) o (by simpa using ho)) _ _ _ _ _ (wpAny_tail k hB h))

theorem wpIn_region_plan {id : Nat} {a : Act} {w : World} {ol : List Oper} (k : Nat) (pl : List (Bool × Nat)) (hm : P.follows .mixedOrders = true) (hB : Region.planAllB .any ol.toArray k pl = true) (hQ : ∀ c d v a w, Q (.panic c) (a.put d v) w → Q (.panic c) a w) (hO : ∀ a w, ¬ Q .outgrown a w) (hd : ol.all noDefer = true)
    (S : World → Prop) (W : World) (hW : w.drew = W) (hS : S W) (h : wpPlan P ol.toArray Q S (fun a' w' => wpList P ol.toArray Q (ol.drop k) a' w') (planOps ol.toArray pl) a W) : (Code.region id ol.toArray true).wpIn (Fence.wide.inRound l) n P Q a w := by
  subst hW
  exact wpIn_region_any hm (wpAnyIn_of_wpAny hO (fun o ho => (List.all_eq_true.1 hd) o (by simpa using ho)) _ _ _ _ _ (wpAny_of_plan k pl hB hQ hO S hS h))
end

/-! ### One operation, walked plainly: in a round, and at the wide fence -/
theorem uponIn_of_upon_wide (o : Oper) (a : Act) (K K' : Act → World → Prop) (hK : ∀ a w, K a w → K' a w) {P : Program} {Q : Exit → Act → World → Prop} {n : Nat} (r : Result Next) (h : o.upon P a K Q r) : o.uponIn Fence.wide n P a K' Q r := by
  cases r with
  | ok x w' =>
    cases x <;> simp only [Oper.upon, Oper.uponIn] at h ⊢
    case value u => exact hK _ _ h
    case skip => exact hK _ _ h
    case defer d => exact hK _ _ h
    case enter f args =>
      refine ⟨fun hd => by simp [Fence.wide] at hd, (callsIn_wide (n := n - 1)).2 (h.mono fun e w2 hR => ?_)⟩
      cases e with
      | returned v => exact hK _ _ hR
      | panicked c => exact hR
      | outgrown => exact hR
    case row row args =>
      refine ⟨fun hd => by simp [Fence.wide] at hd, fun c cs _ => ?_⟩
      obtain ⟨v, w2, hR, hs⟩ := h c cs
      exact ⟨v, w2, hK _ _ hR, stepsIn_wide.2 hs⟩
  | halt x w' =>
    cases x <;> simp only [Oper.upon, Oper.uponIn] at h ⊢
    case panic u => exact h

/-- What one operation walked plainly must come to. -/
def One (K : Act → World → Prop) : Exit → Act → World → Prop
  | .normal, a, w => K a w
  | _, _, _ => False
theorem one_normal {K : Act → World → Prop} {a : Act} {w : World} (h : K a w) : One K .normal a w := h

section
variable {P : Program} {ops : Array Oper} {Q : Exit → Act → World → Prop} {n : Nat} {o : Oper} {rest : List Oper} {a : Act} {w : World}
theorem one_wp {K : Act → World → Prop} (h : wpList P ops (One K) [o] a w) : if Region.wanted o (yielded ops a.tmps) then o.wp P a w K (One K) else K (a.put o.dst undef) w := by
  simp only [wpList] at h
  split at h
  · rename_i hw
    rw [if_pos hw]
    rcases h with h | ⟨_, a', w', h⟩
    · exact h
    · exact h.elim
  · rename_i hw
    rw [if_neg hw]
    exact h
theorem wp_one_imp {K : Act → World → Prop} (h : o.wp P a w K (One K)) : o.wp P a w K Q := by
  unfold Oper.wp at *
  generalize (execOp a.eval o).run P w = r at *
  cases r with
  | ok x w' =>
    cases x <;> simp only [Oper.upon] at h ⊢ <;> try exact h
    case enter f args =>
      refine Calls.mono h fun e w2 hR => ?_
      cases e with
      | returned v => exact hR
      | panicked c => exact (hR : False).elim
      | outgrown => obtain ⟨_, _, h⟩ := hR; exact h.elim
  | halt x w' =>
    cases x <;> simp only [Oper.upon] at h ⊢
    case panic u => exact (h : False).elim
theorem listIn_op {l : Nat} (hd : noDefer o = true) (h : ∀ K : Act → World → Prop, (∀ a w, wpListIn (Fence.wide.inRound l) n P ops Q rest a w → K a w) → wpList P ops (One K) [o] a w) : wpListIn (Fence.wide.inRound l) n P ops Q (o :: rest) a w := by
  have h' := one_wp (h _ fun _ _ h => h)
  simp only [wpListIn]
  split
  · rename_i hw
    rw [if_pos hw] at h'
    exact wpIn_of_wp o hd a w _ _ (fun _ _ h => h) (wp_one_imp h')
  · rename_i hw
    rw [if_neg hw] at h'
    exact ⟨fun _ _ => trivial, h'⟩
theorem listIn_op_wide (h : ∀ K : Act → World → Prop, (∀ a w, wpListIn Fence.wide n P ops Q rest a w → K a w) → wpList P ops (One K) [o] a w) : wpListIn Fence.wide n P ops Q (o :: rest) a w := by
  have h' := one_wp (h _ fun _ _ h => h)
  simp only [wpListIn]
  split
  · rename_i hw
    rw [if_pos hw] at h'
    refine ⟨fun _ _ => trivial, ?_⟩
    exact uponIn_of_upon_wide o a _ _ (fun _ _ h => h) _ (wp_one_imp h')
  · rename_i hw
    rw [if_neg hw] at h'
    exact ⟨fun _ _ => trivial, h'⟩
end

/-! ### The same for a region that ends normally alone: nothing is asked of what it may otherwise end in -/
def Only (Q : Exit → Act → World → Prop) : Exit → Act → World → Prop
  | .normal, a, w => Q .normal a w
  | _, _, _ => False
theorem only_normal {Q : Exit → Act → World → Prop} {a : Act} {w : World} (h : Q .normal a w) : Only Q .normal a w := h
theorem Only.imp {Q : Exit → Act → World → Prop} : ∀ (e : Exit) (a : Act) (w : World), Only Q e a w → Q e a w := fun e a w h => by
  cases e <;> first | exact h | exact (h : False).elim

section
variable {P : Program} {Q : Exit → Act → World → Prop} {id : Nat} {a : Act} {w : World} {ol : List Oper}
theorem region_tail (k : Nat) (hm : P.follows .mixedOrders = true) (hB : Region.lexTailB .any ol.toArray k = true) (W : World) (hW : w.drew = W)
    (h : wpStill P ol.toArray W (fun a' => wpList P ol.toArray (Only Q) (ol.drop k) a' W) (ol.take k) a) : (Code.region id ol.toArray true).wp P Q a w :=
  Code.wp_mono Only.imp (wp_region_tail k hm hB W hW h)
theorem region_plan (k : Nat) (pl : List (Bool × Nat)) (hm : P.follows .mixedOrders = true) (hB : Region.planAllB .any ol.toArray k pl = true) (S : World → Prop) (W : World) (hW : w.drew = W) (hS : S W)
    (h : wpPlan P ol.toArray (Only Q) S (fun a' w' => wpList P ol.toArray (Only Q) (ol.drop k) a' w') (planOps ol.toArray pl) a W) : (Code.region id ol.toArray true).wp P Q a w :=
  Code.wp_mono Only.imp (wp_region_plan k pl hm hB (fun _ _ _ _ _ h => h) (fun _ _ h => h) S W hW hS h)
variable {l n : Nat}
theorem region_plain_in (hd : ol.all noDefer = true) (h : wpList P ol.toArray (Only Q) ol a w) : (Code.region id ol.toArray false).wpIn (Fence.wide.inRound l) n P Q a w :=
  Code.wpIn_mono Only.imp (wpIn_region_plain (fun _ _ h => h) hd h)
theorem region_tail_in (k : Nat) (hm : P.follows .mixedOrders = true) (hB : Region.lexTailB .any ol.toArray k = true) (hd : ol.all noDefer = true) (W : World) (hW : w.drew = W)
    (h : wpStill P ol.toArray W (fun a' => wpList P ol.toArray (Only Q) (ol.drop k) a' W) (ol.take k) a) : (Code.region id ol.toArray true).wpIn (Fence.wide.inRound l) n P Q a w :=
  Code.wpIn_mono Only.imp (wpIn_region_tail k hm hB (fun _ _ h => h) hd W hW h)
theorem region_plan_in (k : Nat) (pl : List (Bool × Nat)) (hm : P.follows .mixedOrders = true) (hB : Region.planAllB .any ol.toArray k pl = true) (hd : ol.all noDefer = true) (S : World → Prop) (W : World) (hW : w.drew = W) (hS : S W)
    (h : wpPlan P ol.toArray (Only Q) S (fun a' w' => wpList P ol.toArray (Only Q) (ol.drop k) a' w') (planOps ol.toArray pl) a W) : (Code.region id ol.toArray true).wpIn (Fence.wide.inRound l) n P Q a w :=
  Code.wpIn_mono Only.imp (wpIn_region_plan k pl hm hB (fun _ _ _ _ _ h => h) (fun _ _ h => h) hd S W hW hS h)
end

/-! ### The steps of a plan -/
section
variable {P : Program} {ops : Array Oper} {Q : Exit → Act → World → Prop} {S : World → Prop} {L : Act → World → Prop} {r : List (Bool × Oper)} {o : Oper} {a : Act} {w : World}
theorem wpPlan_nil (h : L a w) : wpPlan P ops Q S L [] a w := h
/-- A quiet operation. -/
theorem plan_quiet (hg : o.guard = none) (v : Value) (hv : ∀ w, S w → (execOp a.eval o).run P w = .ok (.value v) w) (h : ∀ K : Act → Prop, (∀ a, wpPlan P ops Q S L r a w → K a) → K (a.put o.dst v)) : wpPlan P ops Q S L ((true, o) :: r) a w :=
  ⟨v, .inl ⟨by simp [Region.wanted, hg], hv⟩, h _ fun _ h => h⟩
/-- A load of a whole array or struct. -/
theorem plan_load_mid (hg : o.guard = none) (ty : TypeId) (x : Operand) (ho : o.op = .load ty x) (b of : Nat) (hx : a.eval x = .pointer (some ⟨b, of, none⟩)) (cs : List Value) (d : TypeDesc) (hS : ∀ w, S w → w.rangeAt b of cs)
    (hu : P.underlying ty = some d) (hd : d.isRow = true) (hi : (P.info? ty).map (·.size) = some cs.length) (h : ∀ K : Act → Prop, (∀ a, wpPlan P ops Q S L r a w → K a) → K (a.put o.dst (.agg cs.toArray))) : wpPlan P ops Q S L ((true, o) :: r) a w :=
  ⟨_, yieldsIf_load_mid (by simp [Region.wanted, hg]) ty x ho b of hx cs d hS hu hd hi, h _ fun _ h => h⟩
/-- A changer: walked by itself; S anew behind it. -/
theorem plan_change (h : ∀ K : Act → World → Prop, (∀ a w, S w → wpPlan P ops Q S L r a w → K a w) → wpList P ops (fun e a' w' => match e with | .normal => K a' w' | e => Q e a' w') [o] a w) : wpPlan P ops Q S L ((false, o) :: r) a w :=
  h _ fun _ _ hS hp => ⟨hS, hp⟩
end
end Go.Proofs.Ytghpcjkjhbafnaa
