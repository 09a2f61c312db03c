/- Regions that draw their order, in one walk: a head of quiet operations and of changers that can come in one order alone, then a tail in one order. And: what is walked plainly holds in a round of a loop over a function, too. -/
import Derived.StillTailTactics
import Derived.OrdersHeld
import Derived.OrdersIn
import Derived.TacticsIn
import Derived.Deep.MidRow
namespace Go.Proofs.Ytaolhhgfnhhgaaa
open Go

section
variable {P : Program} {ops : Array Oper} {md : Region.Mode} {Q : Exit → Act → World → Prop} {S : World → Prop}

/-- The head in whatever order, S kept; then L. -/
def wpAnyC (P : Program) (md : Region.Mode) (ops : Array Oper) (Q : Exit → Act → World → Prop) (S : World → Prop) (n : Nat) (L : Array Bool → Act → World → Prop) : Nat → Array Bool → Act → World → Prop
  | 0, listed, a, w => L listed a w
  | f + 1, listed, a, w =>
    Region.ready md ops listed ≠ [] ∧ ∀ i ∈ Region.ready md ops listed, i < n ∧ wpOp P ops Q i (fun a' w' => S w' ∧ wpAnyC P md ops Q S n L f (listed.setIfInBounds i true) a' w') a w

theorem wpAny_of_C {n g : Nat} {L : Array Bool → Act → World → Prop} (hL : ∀ listed a w, L listed a w → wpAny P md ops Q g listed a w) :
    ∀ (f : Nat) (listed : Array Bool) (a : Act) (w : World), wpAnyC P md ops Q S n L f listed a w → wpAny P md ops Q (f + g) listed a w
  | 0, listed, a, w, h => by rw [Nat.zero_add]; exact hL _ _ _ h
  | f + 1, listed, a, w, h => by
    rw [show f + 1 + g = (f + g) + 1 by omega]
    exact ⟨fun h0 => absurd h0 h.1, fun i hi => wpOp_mono (fun a' w' h' => wpAny_of_C hL f _ a' w' h'.2) (h.2 i hi).2⟩

theorem wpAnyC_first {n i : Nat} {oi : Oper} {v : Value} {L : Array Bool → Act → World → Prop} (hi : ops[i]? = some oi) (hsel : ∀ (j : Nat) (o : Oper) cs b, ops[j]? = some o → o.op ≠ .select cs b)
    (hs : Region.sinkB md ops n = true) (hc : Region.chainB md ops n = true) (hn : n < ops.size) (hin : i < n) (hQ : ∀ c a w, Q (.panic c) (a.put oi.dst v) w → Q (.panic c) a w)
    (hdone : ∀ listed a w, L listed a w → ∀ j ∈ Region.ready md ops listed, n ≤ j) :
    ∀ (f : Nat) (listed : Array Bool) (a : Act) (w : World), HeadInv md ops n listed →
      (∀ j oj, ops[j]? = some oj → j ≠ i → listed.getD j true = false → (∀ e ∈ oj.after, Region.binds md e = true → e.on ≠ i) → oi.apart ops oj = true) →
      i ∈ Region.ready md ops listed → YieldsIf P ops S oi v a → S w →
      wpAnyC P md ops Q S n L f (listed.setIfInBounds i true) (a.put oi.dst v) w → wpAnyC P md ops Q S n L (f + 1) listed a w := by
  intro f
  induction f with
  | zero =>
    intro listed a w inv _ hr hy hS H
    have hun := (mem_ready.1 hr).1
    refine ⟨fun h => (by rw [h] at hr; cases hr), fun j hj => ?_⟩
    have hjn : j < n := by
      rcases Nat.lt_or_ge j n with h | h
      · exact h
      · exact absurd hj (tail_waits hs hc hn inv _ i rfl hin hun j h)
    refine ⟨hjn, ?_⟩
    by_cases hji : j = i
    · subst hji; exact hy.wpOp hi hS ⟨hS, H⟩
    · have := hdone _ _ _ H j (ready_mono hj hji)
      omega
  | succ f ih =>
    intro listed a w inv hfree hr hy hS H
    have hun := (mem_ready.1 hr).1
    refine ⟨fun h => (by rw [h] at hr; cases hr), fun j hj => ?_⟩
    have hjn : j < n := by
      rcases Nat.lt_or_ge j n with h | h
      · exact h
      · exact absurd hj (tail_waits hs hc hn inv _ i rfl hin hun j h)
    refine ⟨hjn, ?_⟩
    by_cases hji : j = i
    · subst hji; exact hy.wpOp hi hS ⟨hS, H⟩
    · have h1 := (H.2 j (ready_mono hj hji)).2
      obtain ⟨hjun, oj, hoj, hall⟩ := mem_ready.1 hj
      have hnot : ∀ e ∈ oj.after, Region.binds md e = true → e.on ≠ i := fun e he hb heq => by
        have h1 := hall e he hb
        rw [heq, getD_both hun] at h1
        cases h1
      have h2 := wpOp_putIf hoj (hfree j oj hoj hji hjun hnot) (fun cs b => hsel i oi cs b hi) (fun cs b => hsel j oj cs b hoj) hQ hy h1
      have hfree' : ∀ k ok, ops[k]? = some ok → k ≠ i → (listed.setIfInBounds j true).getD k true = false →
          (∀ e ∈ ok.after, Region.binds md e = true → e.on ≠ i) → oi.apart ops ok = true := fun k ok hk hki hun hno => by
        refine hfree k ok hk hki ?_ hno
        by_cases hjk : j = k
        · subst hjk; exact hjun
        · rw [getD_set_ne true hjk] at hun; exact hun
      refine wpOp_mono (fun a' w' h3 => ⟨h3.2.1, ih (listed.setIfInBounds j true) a' w' (inv.set hj hjn) hfree' (ready_mono hr (Ne.symm hji)) h3.1 h3.2.1 ?_⟩) h2
      rw [Array.setIfInBounds_comm _ _ hji]
      exact h3.2.2

/-- The walk of a head: 'true': a quiet operation, taken first; 'false': a changer, the one that may come up. -/
def wpPlan (P : Program) (ops : Array Oper) (Q : Exit → Act → World → Prop) (S : World → Prop) (L : Act → World → Prop) : List (Bool × Oper) → Act → World → Prop
  | [], a, w => L a w
  | (true, o) :: r, a, w => ∃ v, YieldsIf P ops S o v a ∧ wpPlan P ops Q S L r (a.put o.dst v) w
  | (false, o) :: r, a, w => wpList P ops (fun e a' w' => match e with | .normal => S w' ∧ wpPlan P ops Q S L r a' w' | e => Q e a' w') [o] a w

def Region.planB (md : Region.Mode) (ops : Array Oper) (n g : Nat) : List (Bool × Nat) → Array Bool → Bool
  | [], listed => Region.seqB md ops g n listed
  | (true, i) :: r, listed => decide (i < n) && (Region.ready md ops listed).contains i && Region.free md ops listed i && Region.planB md ops n g r (listed.setIfInBounds i true)
  | (false, i) :: r, listed => decide (i < n) && decide (Region.ready md ops listed = [i]) && Region.planB md ops n g r (listed.setIfInBounds i true)

theorem seqB_ge {g k : Nat} {listed : Array Bool} (h : Region.seqB md ops g k listed = true) : ∀ j ∈ Region.ready md ops listed, k ≤ j := seqB_ready h

/-- The plan's operations, by their numbers. -/
def planOps (ops : Array Oper) (pl : List (Bool × Nat)) : List (Bool × Oper) := pl.filterMap fun (b, i) => (ops[i]?).map (b, ·)

theorem wpAnyC_plan {n g : Nat} {L : Act → World → Prop} (hsel : Region.noSelect ops = true) (hs : Region.sinkB md ops n = true) (hc : Region.chainB md ops n = true) (hn : n < ops.size) (hQ : ∀ c d v a w, Q (.panic c) (a.put d v) w → Q (.panic c) a w) (hO : ∀ a w, ¬ Q .outgrown a w) :
    ∀ (pl : List (Bool × Nat)) (listed : Array Bool) (a : Act) (w : World), HeadInv md ops n listed → Region.planB md ops n g pl listed = true → S w → wpPlan P ops Q S L (planOps ops pl) a w →
    wpAnyC P md ops Q S n (fun listed' a' w' => Region.seqB md ops g n listed' = true ∧ L a' w') pl.length listed a w
  | [], _, _, _, _, hB, _, h => ⟨by simpa [Region.planB] using hB, h⟩
  | (true, i) :: pl, listed, a, w, inv, hB, hS, h => by
    simp only [Region.planB, Bool.and_eq_true, decide_eq_true_eq] at hB
    obtain ⟨⟨⟨hin, hr⟩, hf⟩, hB'⟩ := hB
    have hr' : i ∈ Region.ready md ops listed := by simpa using hr
    obtain ⟨_, oi, hi, _⟩ := mem_ready.1 hr'
    simp only [planOps, List.filterMap_cons, hi, Option.map_some, wpPlan] at h
    obtain ⟨v, hy, hK⟩ := h
    exact wpAnyC_first hi (Region.noSelect_spec hsel) hs hc hn hin (fun c a w => hQ c _ _ a w) (fun listed' a' w' hL => seqB_ge hL.1) pl.length listed a w inv (Region.free_spec hi hf) hr' hy hS
      (wpAnyC_plan hsel hs hc hn hQ hO pl _ _ _ (inv.set hr' hin) hB' hS hK)
  | (false, i) :: pl, listed, a, w, inv, hB, hS, h => by
    simp only [Region.planB, Bool.and_eq_true, decide_eq_true_eq] at hB
    obtain ⟨⟨hin, hr⟩, hB'⟩ := hB
    have hr' : i ∈ Region.ready md ops listed := by rw [hr]; exact List.mem_singleton.2 rfl
    obtain ⟨_, oi, hi, _⟩ := mem_ready.1 hr'
    simp only [planOps, List.filterMap_cons, hi, Option.map_some, wpPlan] at h
    refine ⟨fun h0 => (by rw [h0] at hr; cases hr), fun j hj => ?_⟩
    rw [hr] at hj
    obtain rfl : j = i := by simpa using hj
    refine ⟨hin, ?_⟩
    unfold wpOp
    simp only [hi]
    simp only [wpList] at h
    split
    · rename_i hw
      simp only [hw, if_true] at h
      rcases h with h | ⟨_, a', w', h⟩
      · refine .inl ?_
        unfold Oper.wp at *
        generalize (execOp a.eval oi).run P w = r at *
        cases r with
        | ok x w' =>
          cases x <;> simp only [Oper.upon] at h ⊢
          case value u => exact ⟨h.1, wpAnyC_plan hsel hs hc hn hQ hO pl _ _ _ (inv.set hr' hin) hB' h.1 h.2⟩
          case skip => exact ⟨h.1, wpAnyC_plan hsel hs hc hn hQ hO pl _ _ _ (inv.set hr' hin) hB' h.1 h.2⟩
          case defer d => exact ⟨h.1, wpAnyC_plan hsel hs hc hn hQ hO pl _ _ _ (inv.set hr' hin) hB' h.1 h.2⟩
          case enter f args =>
            refine Calls.mono h fun e w'' he => ?_
            cases e with
            | returned u => exact ⟨he.1, wpAnyC_plan hsel hs hc hn hQ hO pl _ _ _ (inv.set hr' hin) hB' he.1 he.2⟩
            | panicked c => exact he
            | outgrown => obtain ⟨a', w', h'⟩ := he; exact absurd h' (hO a' w')
          case row row args => exact Rows.mono h fun u w'' he => ⟨he.1, wpAnyC_plan hsel hs hc hn hQ hO pl _ _ _ (inv.set hr' hin) hB' he.1 he.2⟩
        | halt x w' =>
          cases x <;> simp only [Oper.upon] at h ⊢
          case panic u => exact h
      · exact absurd h (hO a' w')
    · rename_i hw
      simp only [hw] at h
      exact ⟨h.1, wpAnyC_plan hsel hs hc hn hQ hO pl _ _ _ (inv.set hr' hin) hB' h.1 h.2⟩

/-- All that is asked of the region's text. -/
def Region.planAllB (md : Region.Mode) (ops : Array Oper) (n : Nat) (pl : List (Bool × Nat)) : Bool :=
  Region.noSelect ops && decide (n < ops.size) && decide (pl.length = n) && Region.sinkB md ops n && Region.chainB md ops n && Region.planB md ops n (ops.size - n) pl (Array.replicate ops.size false)

theorem wpAny_of_plan {l : List Oper} (n : Nat) (pl : List (Bool × Nat)) (hB : Region.planAllB .any l.toArray n pl = true) (hQ : ∀ c d v a w, Q (.panic c) (a.put d v) w → Q (.panic c) a w) (hO : ∀ a w, ¬ Q .outgrown a w)
    (S : World → Prop) {a : Act} {w : World} (hS : S w) (h : wpPlan P l.toArray Q S (fun a' w' => wpList P l.toArray Q (l.drop n) a' w') (planOps l.toArray pl) a w) :
    wpAny P .any l.toArray Q l.toArray.size (Array.replicate l.toArray.size false) a w := by
  simp only [Region.planAllB, Bool.and_eq_true, decide_eq_true_eq] at hB
  obtain ⟨⟨⟨⟨⟨hsel, hn⟩, hpl⟩, hs⟩, hc⟩, hplan⟩ := hB
  have hdl : (l.drop n).length = l.toArray.size - n := by simp
  have inv0 : HeadInv .any l.toArray n (Array.replicate l.toArray.size false) :=
    ⟨by simp, fun j oj _ hl => (by rw [getD_replicate_false] at hl; cases hl), fun t _ ht => getD_in (by simpa using ht) (getD_replicate_false _ _)⟩
  have H := wpAnyC_plan (P := P) (Q := Q) (S := S) (md := .any) (g := l.toArray.size - n) (L := fun a' w' => wpList P l.toArray Q (l.drop n) a' w') hsel hs hc hn hQ hO pl _ a w inv0 hplan hS h
  have := wpAny_of_C (Q := Q) (g := l.toArray.size - n) (fun listed a' w' hL => by
    have := wpAny_of_seq (md := .any) (Q' := Q) (l.drop n) n listed a' w' (fun j => by simp [List.getElem?_drop]) (by rw [hdl]; exact hL.1) hL.2
    rwa [hdl] at this) _ _ _ _ H
  rw [hpl, show n + (l.toArray.size - n) = l.toArray.size by omega] at this
  exact this

/-- THE LAW. -/
theorem wp_region_plan {id : Nat} {a : Act} {w : World} {l : List Oper} (n : Nat) (pl : List (Bool × Nat)) (hm : P.follows .mixedOrders = true) (hB : Region.planAllB .any l.toArray n pl = true) (hQ : ∀ c d v a w, Q (.panic c) (a.put d v) w → Q (.panic c) a w) (hO : ∀ a w, ¬ Q .outgrown a w)
    (S : World → Prop) (W : World) (hW : w.drew = W) (hS : S W) (h : wpPlan P l.toArray Q S (fun a' w' => wpList P l.toArray Q (l.drop n) a' w') (planOps l.toArray pl) a W) : (Code.region id l.toArray true).wp P Q a w := by
  subst hW
  exact wp_region_any hm (wpAny_of_plan n pl hB hQ hO S hS h)

/-- All but the last operations leave the world alone, the last come in one order: one walk, in a world of its own name. -/
theorem wp_region_tail {id : Nat} {a : Act} {w : World} {l : List Oper} (n : Nat) (hm : P.follows .mixedOrders = true) (hB : Region.lexTailB .any l.toArray n = true) (W : World) (hW : w.drew = W)
    (h : wpStill P l.toArray W (fun a' => wpList P l.toArray Q (l.drop n) a' W) (l.take n) a) : (Code.region id l.toArray true).wp P Q a w := by
  subst hW
  exact wp_region_still_tail n hm hB h

theorem wpAny_tail {w : World} {a : Act} {l : List Oper} (n : Nat) (hB : Region.lexTailB .any l.toArray n = true)
    (h : wpStill P l.toArray w (fun a' => wpList P l.toArray Q (l.drop n) a' w) (l.take n) a) : wpAny P .any l.toArray Q l.toArray.size (Array.replicate l.toArray.size false) a w := by
  simp only [Region.lexTailB, Bool.and_eq_true, decide_eq_true_eq] at hB
  obtain ⟨⟨⟨⟨hsel, hn⟩, hs⟩, hc⟩, hlex⟩ := hB
  have hn' : n < l.length := by simpa using hn
  have htl : (l.take n).length = n := by simp; omega
  have hdl : (l.drop n).length = l.toArray.size - n := by simp
  have inv0 : HeadInv .any l.toArray n (Array.replicate l.toArray.size false) :=
    ⟨by simp, fun j oj _ hl => (by rw [getD_replicate_false] at hl; cases hl), fun t _ ht => getD_in (by simpa using ht) (getD_replicate_false _ _)⟩
  have H := wpAnyL_lex (md := .any) (g := l.toArray.size - n) hsel hs hc hn (l.take n) 0 _ a (fun j hj => by
    have hj' : j < n := by rw [htl] at hj; exact hj
    simp [hj']) (by simpa using htl) inv0 (by rw [htl]; exact hlex) h
  have := wpAny_of_head (Q' := Q) (g := l.toArray.size - n) (fun listed a' hL => by
    have := wpAny_of_seq (md := .any) (Q' := Q) (l.drop n) n listed a' w (fun j => by simp [List.getElem?_drop]) (by rw [hdl]; exact hL.1) hL.2
    rwa [hdl] at this) _ _ _ H
  rw [htl, show n + (l.toArray.size - n) = l.toArray.size by omega] at this
  exact this
end

/-! ### Into a round -/
section
variable {P : Program} {ops : Array Oper} {Q : Exit → Act → World → Prop} {l : Nat} {n : Nat}

def noDefer (o : Oper) : Bool := match o.op with | .defer _ => false | _ => true

theorem semAt_noDefer (o : Oper) (h : noDefer o = true) (ro : Option Nat) (ρ : Operand → Value) : Oper.semAt ro ρ o = execOp ρ o :=
  Oper.semAt_eq ro ρ o fun c e => by simp [noDefer, e] at h

theorem uponIn_of_upon (o : Oper) (a : Act) (K K' : Act → World → Prop) (hK : ∀ a w, K a w → K' a w) (r : Result Next) (h : o.upon P a K Q r) : o.uponIn (Fence.wide.inRound l) n P a K' Q r := by
  cases r with
  | ok x w' =>
    cases x <;> simp only [Oper.upon, Oper.uponIn] at h ⊢
    case value u => exact hK _ _ h
    case skip => exact hK _ _ h
    case defer d => exact hK _ _ h
    case enter f args =>
      refine ⟨fun hd => by simp [Fence.wide] at hd, ?_⟩
      have h' := (callsIn_wide (n := n - 1)).2 h
      refine ⟨trivial, fun cs hr => ?_⟩
      obtain ⟨e, w2, fr, hR, hs, hf⟩ := h'.2 cs (room_wide _)
      refine ⟨e, w2, fr, ?_, hs, hf⟩
      cases e with
      | returned v => exact hK _ _ hR
      | panicked c => exact hR
      | outgrown => exact hR
    case row row args =>
      refine ⟨fun hd => by simp [Fence.wide] at hd, fun c cs _ => ?_⟩
      obtain ⟨v, w2, hR, hs⟩ := h c cs
      exact ⟨v, w2, hK _ _ hR, stepsIn_wide.2 hs⟩
  | halt x w' =>
    cases x <;> simp only [Oper.upon, Oper.uponIn] at h ⊢
    case panic u => exact h

theorem wpIn_of_wp (o : Oper) (hd : noDefer o = true) (a : Act) (w : World) (K K' : Act → World → Prop) (hK : ∀ a w, K a w → K' a w) (h : o.wp P a w K Q) : o.wpIn (Fence.wide.inRound l) n P a w K' Q := by
  refine ⟨fun _ _ => trivial, ?_⟩
  rw [semAt_noDefer o hd]
  exact uponIn_of_upon o a K K' hK _ h

theorem wpListIn_of_wpList (hO : ∀ a w, ¬ Q .outgrown a w) : ∀ (ol : List Oper), (∀ o ∈ ol, noDefer o = true) → ∀ (a : Act) (w : World), wpList P ops Q ol a w → wpListIn (Fence.wide.inRound l) n P ops Q ol a w
  | [], _, _, _, h => h
  | o :: r, hd, a, w, h => by
    have ih := wpListIn_of_wpList hO r (fun x hx => hd x (List.mem_cons_of_mem _ hx))
    simp only [wpList, wpListIn] at h ⊢
    split
    · rename_i hw
      simp only [hw, if_true] at h
      rcases h with h | ⟨_, a', w', h⟩
      · exact wpIn_of_wp o (hd o List.mem_cons_self) a w _ _ ih h
      · exact absurd h (hO a' w')
    · rename_i hw
      simp only [hw] at h
      exact ⟨fun _ _ => trivial, ih _ _ h⟩

theorem wpOpIn_of_wpOp (hO : ∀ a w, ¬ Q .outgrown a w) (i : Nat) (hd : ∀ o ∈ ops.toList, noDefer o = true) (K K' : Act → World → Prop) (hK : ∀ a w, K a w → K' a w) (a : Act) (w : World) (h : wpOp P ops Q i K a w) : wpOpIn (Fence.wide.inRound l) n P ops Q i K' a w := by
  unfold wpOp at h
  unfold wpOpIn
  split
  · rename_i ho; simp only [ho] at h; exact hK _ _ h
  · rename_i o ho
    simp only [ho] at h
    split
    · rename_i hw
      simp only [hw, if_true] at h
      rcases h with h | ⟨_, a', w', h⟩
      · exact wpIn_of_wp o (hd o (List.mem_of_getElem? (i := i) (by simpa using ho))) a w _ _ hK h
      · exact absurd h (hO a' w')
    · rename_i hw
      simp only [hw] at h
      exact ⟨fun _ _ => trivial, hK _ _ h⟩

theorem wpAnyIn_of_wpAny (hO : ∀ a w, ¬ Q .outgrown a w) (hd : ∀ o ∈ ops.toList, noDefer o = true) (md : Region.Mode) : ∀ (f : Nat) (listed : Array Bool) (a : Act) (w : World), wpAny P md ops Q f listed a w → wpAnyIn (Fence.wide.inRound l) n P md ops Q f listed a w
  | 0, _, _, _, h => h
  | f + 1, _, _, _, h => ⟨h.1, fun i hi => wpOpIn_of_wpOp hO i hd _ _ (fun a w => wpAnyIn_of_wpAny hO hd md f _ a w) _ _ (h.2 i hi)⟩

/-- A plain region in a round, walked plainly. -/
theorem wpIn_region_plain {id : Nat} {a : Act} {w : World} {ol : List Oper} (hO : ∀ a w, ¬ Q .outgrown a w) (hd : ol.all noDefer = true) (h : wpList P ol.toArray Q ol a w) : (Code.region id ol.toArray false).wpIn (Fence.wide.inRound l) n P Q a w :=
  wpIn_region_lit (wpListIn_of_wpList hO ol (fun o ho => (List.all_eq_true.1 hd) o ho) a w h)

/-- A region that draws, in a round. -/
theorem wpIn_region_tail {id : Nat} {a : Act} {w : World} {ol : List Oper} (k : Nat) (hm : P.follows .mixedOrders = true) (hB : Region.lexTailB .any ol.toArray k = true) (hO : ∀ a w, ¬ Q .outgrown a w) (hd : ol.all noDefer = true) (W : World) (hW : w.drew = W)
    (h : wpStill P ol.toArray W (fun a' => wpList P ol.toArray Q (ol.drop k) a' W) (ol.take k) a) : (Code.region id ol.toArray true).wpIn (Fence.wide.inRound l) n P Q a w := by
  subst hW
  exact wpIn_region_any hm (wpAnyIn_of_wpAny hO (fun o ho => (List.all_eq_true.1 hd) o (by simpa using ho)) _ _ _ _ _ (wpAny_tail k hB h))

theorem wpIn_region_plan {id : Nat} {a : Act} {w : World} {ol : List Oper} (k : Nat) (pl : List (Bool × Nat)) (hm : P.follows .mixedOrders = true) (hB : Region.planAllB .any ol.toArray k pl = true) (hQ : ∀ c d v a w, Q (.panic c) (a.put d v) w → Q (.panic c) a w) (hO : ∀ a w, ¬ Q .outgrown a w) (hd : ol.all noDefer = true)
    (S : World → Prop) (W : World) (hW : w.drew = W) (hS : S W) (h : wpPlan P ol.toArray Q S (fun a' w' => wpList P ol.toArray Q (ol.drop k) a' w') (planOps ol.toArray pl) a W) : (Code.region id ol.toArray true).wpIn (Fence.wide.inRound l) n P Q a w := by
  subst hW
  exact wpIn_region_any hm (wpAnyIn_of_wpAny hO (fun o ho => (List.all_eq_true.1 hd) o (by simpa using ho)) _ _ _ _ _ (wpAny_of_plan k pl hB hQ hO S hS h))
end

/-! ### One operation, walked plainly: in a round, and at the wide fence -/
theorem uponIn_of_upon_wide (o : Oper) (a : Act) (K K' : Act → World → Prop) (hK : ∀ a w, K a w → K' a w) {P : Program} {Q : Exit → Act → World → Prop} {n : Nat} (r : Result Next) (h : o.upon P a K Q r) : o.uponIn Fence.wide n P a K' Q r := by
  cases r with
  | ok x w' =>
    cases x <;> simp only [Oper.upon, Oper.uponIn] at h ⊢
    case value u => exact hK _ _ h
    case skip => exact hK _ _ h
    case defer d => exact hK _ _ h
    case enter f args =>
      refine ⟨fun hd => by simp [Fence.wide] at hd, (callsIn_wide (n := n - 1)).2 (h.mono fun e w2 hR => ?_)⟩
      cases e with
      | returned v => exact hK _ _ hR
      | panicked c => exact hR
      | outgrown => exact hR
    case row row args =>
      refine ⟨fun hd => by simp [Fence.wide] at hd, fun c cs _ => ?_⟩
      obtain ⟨v, w2, hR, hs⟩ := h c cs
      exact ⟨v, w2, hK _ _ hR, stepsIn_wide.2 hs⟩
  | halt x w' =>
    cases x <;> simp only [Oper.upon, Oper.uponIn] at h ⊢
    case panic u => exact h

/-- What one operation walked plainly must come to. -/
def One (K : Act → World → Prop) : Exit → Act → World → Prop
  | .normal, a, w => K a w
  | _, _, _ => False
theorem one_normal {K : Act → World → Prop} {a : Act} {w : World} (h : K a w) : One K .normal a w := h

section
variable {P : Program} {ops : Array Oper} {Q : Exit → Act → World → Prop} {n : Nat} {o : Oper} {rest : List Oper} {a : Act} {w : World}
theorem one_wp {K : Act → World → Prop} (h : wpList P ops (One K) [o] a w) : if Region.wanted o (yielded ops a.tmps) then o.wp P a w K (One K) else K (a.put o.dst undef) w := by
  simp only [wpList] at h
  split at h
  · rename_i hw
    rw [if_pos hw]
    rcases h with h | ⟨_, a', w', h⟩
    · exact h
    · exact h.elim
  · rename_i hw
    rw [if_neg hw]
    exact h
theorem wp_one_imp {K : Act → World → Prop} (h : o.wp P a w K (One K)) : o.wp P a w K Q := by
  unfold Oper.wp at *
  generalize (execOp a.eval o).run P w = r at *
  cases r with
  | ok x w' =>
    cases x <;> simp only [Oper.upon] at h ⊢ <;> try exact h
    case enter f args =>
      refine Calls.mono h fun e w2 hR => ?_
      cases e with
      | returned v => exact hR
      | panicked c => exact (hR : False).elim
      | outgrown => obtain ⟨_, _, h⟩ := hR; exact h.elim
  | halt x w' =>
    cases x <;> simp only [Oper.upon] at h ⊢
    case panic u => exact (h : False).elim
theorem listIn_op {l : Nat} (hd : noDefer o = true) (h : ∀ K : Act → World → Prop, (∀ a w, wpListIn (Fence.wide.inRound l) n P ops Q rest a w → K a w) → wpList P ops (One K) [o] a w) : wpListIn (Fence.wide.inRound l) n P ops Q (o :: rest) a w := by
  have h' := one_wp (h _ fun _ _ h => h)
  simp only [wpListIn]
  split
  · rename_i hw
    rw [if_pos hw] at h'
    exact wpIn_of_wp o hd a w _ _ (fun _ _ h => h) (wp_one_imp h')
  · rename_i hw
    rw [if_neg hw] at h'
    exact ⟨fun _ _ => trivial, h'⟩
theorem listIn_op_wide (h : ∀ K : Act → World → Prop, (∀ a w, wpListIn Fence.wide n P ops Q rest a w → K a w) → wpList P ops (One K) [o] a w) : wpListIn Fence.wide n P ops Q (o :: rest) a w := by
  have h' := one_wp (h _ fun _ _ h => h)
  simp only [wpListIn]
  split
  · rename_i hw
    rw [if_pos hw] at h'
    refine ⟨fun _ _ => trivial, ?_⟩
    exact uponIn_of_upon_wide o a _ _ (fun _ _ h => h) _ (wp_one_imp h')
  · rename_i hw
    rw [if_neg hw] at h'
    exact ⟨fun _ _ => trivial, h'⟩
end

/-! ### The same for a region that ends normally alone: nothing is asked of what it may otherwise end in -/
def Only (Q : Exit → Act → World → Prop) : Exit → Act → World → Prop
  | .normal, a, w => Q .normal a w
  | _, _, _ => False
theorem only_normal {Q : Exit → Act → World → Prop} {a : Act} {w : World} (h : Q .normal a w) : Only Q .normal a w := h
theorem Only.imp {Q : Exit → Act → World → Prop} : ∀ (e : Exit) (a : Act) (w : World), Only Q e a w → Q e a w := fun e a w h => by
  cases e <;> first | exact h | exact (h : False).elim

section
variable {P : Program} {Q : Exit → Act → World → Prop} {id : Nat} {a : Act} {w : World} {ol : List Oper}
theorem region_tail (k : Nat) (hm : P.follows .mixedOrders = true) (hB : Region.lexTailB .any ol.toArray k = true) (W : World) (hW : w.drew = W)
    (h : wpStill P ol.toArray W (fun a' => wpList P ol.toArray (Only Q) (ol.drop k) a' W) (ol.take k) a) : (Code.region id ol.toArray true).wp P Q a w :=
  Code.wp_mono Only.imp (wp_region_tail k hm hB W hW h)
theorem region_plan (k : Nat) (pl : List (Bool × Nat)) (hm : P.follows .mixedOrders = true) (hB : Region.planAllB .any ol.toArray k pl = true) (S : World → Prop) (W : World) (hW : w.drew = W) (hS : S W)
    (h : wpPlan P ol.toArray (Only Q) S (fun a' w' => wpList P ol.toArray (Only Q) (ol.drop k) a' w') (planOps ol.toArray pl) a W) : (Code.region id ol.toArray true).wp P Q a w :=
  Code.wp_mono Only.imp (wp_region_plan k pl hm hB (fun _ _ _ _ _ h => h) (fun _ _ h => h) S W hW hS h)
variable {l n : Nat}
theorem region_plain_in (hd : ol.all noDefer = true) (h : wpList P ol.toArray (Only Q) ol a w) : (Code.region id ol.toArray false).wpIn (Fence.wide.inRound l) n P Q a w :=
  Code.wpIn_mono Only.imp (wpIn_region_plain (fun _ _ h => h) hd h)
theorem region_tail_in (k : Nat) (hm : P.follows .mixedOrders = true) (hB : Region.lexTailB .any ol.toArray k = true) (hd : ol.all noDefer = true) (W : World) (hW : w.drew = W)
    (h : wpStill P ol.toArray W (fun a' => wpList P ol.toArray (Only Q) (ol.drop k) a' W) (ol.take k) a) : (Code.region id ol.toArray true).wpIn (Fence.wide.inRound l) n P Q a w :=
  Code.wpIn_mono Only.imp (wpIn_region_tail k hm hB (fun _ _ h => h) hd W hW h)
theorem region_plan_in (k : Nat) (pl : List (Bool × Nat)) (hm : P.follows .mixedOrders = true) (hB : Region.planAllB .any ol.toArray k pl = true) (hd : ol.all noDefer = true) (S : World → Prop) (W : World) (hW : w.drew = W) (hS : S W)
    (h : wpPlan P ol.toArray (Only Q) S (fun a' w' => wpList P ol.toArray (Only Q) (ol.drop k) a' w') (planOps ol.toArray pl) a W) : (Code.region id ol.toArray true).wpIn (Fence.wide.inRound l) n P Q a w :=
  Code.wpIn_mono Only.imp (wpIn_region_plan k pl hm hB (fun _ _ _ _ _ h => h) (fun _ _ h => h) hd S W hW hS h)
end

/-! ### The steps of a plan -/
section
variable {P : Program} {ops : Array Oper} {Q : Exit → Act → World → Prop} {S : World → Prop} {L : Act → World → Prop} {r : List (Bool × Oper)} {o : Oper} {a : Act} {w : World}
theorem wpPlan_nil (h : L a w) : wpPlan P ops Q S L [] a w := h
/-- A quiet operation. -/
theorem plan_quiet (hg : o.guard = none) (v : Value) (hv : ∀ w, S w → (execOp a.eval o).run P w = .ok (.value v) w) (h : ∀ K : Act → Prop, (∀ a, wpPlan P ops Q S L r a w → K a) → K (a.put o.dst v)) : wpPlan P ops Q S L ((true, o) :: r) a w :=
  ⟨v, .inl ⟨by simp [Region.wanted, hg], hv⟩, h _ fun _ h => h⟩
/-- A load of a whole array or struct. -/
theorem plan_load_mid (hg : o.guard = none) (ty : TypeId) (x : Operand) (ho : o.op = .load ty x) (b of : Nat) (hx : a.eval x = .pointer (some ⟨b, of, none⟩)) (cs : List Value) (d : TypeDesc) (hS : ∀ w, S w → w.rangeAt b of cs)
    (hu : P.underlying ty = some d) (hd : d.isRow = true) (hi : (P.info? ty).map (·.size) = some cs.length) (h : ∀ K : Act → Prop, (∀ a, wpPlan P ops Q S L r a w → K a) → K (a.put o.dst (.agg cs.toArray))) : wpPlan P ops Q S L ((true, o) :: r) a w :=
  ⟨_, yieldsIf_load_mid (by simp [Region.wanted, hg]) ty x ho b of hx cs d hS hu hd hi, h _ fun _ h => h⟩
/-- A changer: walked by itself; S anew behind it. -/
theorem plan_change (h : ∀ K : Act → World → Prop, (∀ a w, S w → wpPlan P ops Q S L r a w → K a w) → wpList P ops (fun e a' w' => match e with | .normal => K a' w' | e => Q e a' w') [o] a w) : wpPlan P ops Q S L ((false, o) :: r) a w :=
  h _ fun _ _ hS hp => ⟨hS, hp⟩
end
end Go.Proofs.Ytaolhhgfnhhgaaa

/- Regions that draw their order, each operation walked once: what it yields is told for itself, whatever else was done ahead of it; then a tail in one order. -/
namespace Go.Proofs.Ytaolhhgfnhhgaaa
open Go

def dstAt (ops : Array Oper) (j : Nat) : Option Tmp := (ops[j]?).bind (·.dst)
/-- What an operation has left. -/
def slotOf (b : Act) : Option Tmp → Value
  | some d => b.tmps.getD d undef
  | none => undef
/-- The frame behind some operations, each with its temporary. -/
def putsL (vals : Nat → Value) : List (Nat × Nat) → Act → Act
  | [], a => a
  | (j, d) :: r, a => putsL vals r ⟨a.tmps.setIfInBounds d (vals j), a.defers⟩
def heldL (F : Nat → Value → World → Prop) (vals : Nat → Value) (w : World) : List Nat → Prop
  | [] => True
  | j :: r => F j (vals j) w ∧ heldL F vals w r
/-- Each operation by itself, out of what those tell that it waits for. -/
def freeSteps (P : Program) (ops : Array Oper) (R : World → World → Prop) (I : World → Prop) (F : Nat → Value → World → Prop) (a : Act) : Nat → List Oper → List (List (Nat × Nat)) → List (List Nat) → Prop
  | _, [], _, _ => True
  | i, o :: l, rs :: rd, ps :: pr =>
    (∀ (vals : Nat → Value) (w' : World), I w' → heldL F vals w' ps → wpList P ops (One fun b w2 => b.defers = a.defers ∧ R w' w2 ∧ F i (slotOf b o.dst) w2) [o] (putsL vals rs a) w') ∧ freeSteps P ops R I F a (i + 1) l rd pr
  | _, _ :: _, _, _ => False

def Region.readsB (ops : Array Oper) (n sz : Nat) (o : Oper) (rs : List (Nat × Nat)) (ps : List Nat) : Bool :=
  noDefer o && ((match o.dst with | some d => decide (d < sz) | none => true) &&
  (ps.all (fun p => o.after.any fun e => Region.binds .any e && e.on == p) &&
  (rs.all (fun p => ps.contains p.1 && dstAt ops p.1 == some p.2) &&
  (o.looksAt ops).all fun d => rs.any (fun p => p.2 == d) || (List.range n).all fun j => dstAt ops j != some d)))
def Region.allReadsB (ops : Array Oper) (n sz : Nat) : List Oper → List (List (Nat × Nat)) → List (List Nat) → Bool
  | [], _, _ => true
  | o :: l, rs :: rd, ps :: pr => Region.readsB ops n sz o rs ps && Region.allReadsB ops n sz l rd pr
  | _ :: _, _, _ => false
def Region.apartB (ops : Array Oper) : Bool := (List.range ops.size).all fun i => (List.range ops.size).all fun j => decide (i = j) || (dstAt ops i == none || dstAt ops i != dstAt ops j)
def Region.aheadB (ops : Array Oper) : Bool := (List.range ops.size).all fun i => match ops[i]? with | some o => o.after.all fun e => !Region.binds .any e || decide (e.on < i) | none => true
def Region.allB (ops : Array Oper) (n : Nat) (all : List (Nat × Nat)) : Bool :=
  all.all (fun p => decide (p.1 < n) && dstAt ops p.1 == some p.2) && (List.range n).all fun j => match dstAt ops j with | some d => all.contains (j, d) | none => true
def Region.headed (n m : Nat) : Array Bool := Array.replicate n true ++ Array.replicate m false
def Region.freeOrderB (ops : Array Oper) (n sz : Nat) (rd : List (List (Nat × Nat))) (pr : List (List Nat)) (all : List (Nat × Nat)) : Bool :=
  Region.noSelect ops && (Region.apartB ops && (Region.aheadB ops && ((decide (n = ops.size) || (decide (n < ops.size) && (Region.sinkB .any ops n && Region.chainB .any ops n))) &&
  (Region.seqB .any ops (ops.size - n) n (Region.headed n (ops.size - n)) && (Region.allReadsB ops n sz (ops.toList.take n) rd pr && Region.allB ops n all)))))

section
variable {P : Program} {ops : Array Oper} {Q : Exit → Act → World → Prop} {R : World → World → Prop} {I : World → Prop} {F : Nat → Value → World → Prop} {n : Nat}

theorem putsL_size (vals : Nat → Value) : ∀ (rs : List (Nat × Nat)) (a : Act), (putsL vals rs a).tmps.size = a.tmps.size ∧ (putsL vals rs a).defers = a.defers
  | [], _ => ⟨rfl, rfl⟩
  | (j, d) :: r, a => by
    obtain ⟨h1, h2⟩ := putsL_size vals r ⟨a.tmps.setIfInBounds d (vals j), a.defers⟩
    exact ⟨by rw [putsL, h1]; simp, by rw [putsL, h2]⟩
theorem putsL_other (vals : Nat → Value) {t : Nat} : ∀ (rs : List (Nat × Nat)) (a : Act), (∀ p ∈ rs, p.2 ≠ t) → (putsL vals rs a).tmps[t]? = a.tmps[t]?
  | [], _, _ => rfl
  | (j, d) :: r, a, h => by
    rw [putsL, putsL_other vals r _ fun p hp => h p (List.mem_cons_of_mem _ hp)]
    have : d ≠ t := h (j, d) List.mem_cons_self
    simp [Array.getElem?_setIfInBounds_ne this]
theorem putsL_own (vals : Nat → Value) {j t : Nat} : ∀ (rs : List (Nat × Nat)) (a : Act), (∀ p ∈ rs, p.2 = t → p.1 = j) → (j, t) ∈ rs → t < a.tmps.size → (putsL vals rs a).tmps[t]? = some (vals j)
  | [], _, _, h, _ => by cases h
  | (k, d) :: r, a, hu, hm, ht => by
    rw [putsL]
    by_cases hr : (j, t) ∈ r
    · exact putsL_own vals r _ (fun p hp => hu p (List.mem_cons_of_mem _ hp)) hr (by simpa using ht)
    · rcases List.mem_cons.1 hm with h | h
      · cases h
        rw [putsL_other vals r _ fun p hp he => ?_]
        · simp [ht]
        · have h1 := hu p (List.mem_cons_of_mem _ hp) he
          obtain ⟨p1, p2⟩ := p
          simp only at h1 he
          subst h1 he
          exact hr hp
      · exact absurd h hr

theorem heldL_of {vals : Nat → Value} {w : World} : ∀ (l : List Nat), (∀ j ∈ l, F j (vals j) w) → heldL F vals w l
  | [], _ => trivial
  | j :: r, h => ⟨h j List.mem_cons_self, heldL_of r fun k hk => h k (List.mem_cons_of_mem _ hk)⟩

theorem freeSteps_at {a : Act} : ∀ (l : List Oper) (rd : List (List (Nat × Nat))) (pr : List (List Nat)) (k i : Nat) (o : Oper) (sz : Nat), freeSteps P ops R I F a k l rd pr → Region.allReadsB ops n sz l rd pr = true → l[i]? = some o →
    ∃ rs ps, Region.readsB ops n sz o rs ps = true ∧ ∀ (vals : Nat → Value) (w' : World), I w' → heldL F vals w' ps → wpList P ops (One fun b w2 => b.defers = a.defers ∧ R w' w2 ∧ F (k + i) (slotOf b o.dst) w2) [o] (putsL vals rs a) w'
  | [], _, _, _, _, _, _, _, _, h => by simp at h
  | _ :: _, [], _, _, _, _, _, h, _, _ => by simp [freeSteps] at h
  | _ :: _, _ :: _, [], _, _, _, _, h, _, _ => by simp [freeSteps] at h
  | o' :: l, rs :: rd, ps :: pr, k, i, o, sz, h, hB, hi => by
    simp only [Region.allReadsB, Bool.and_eq_true] at hB
    cases i with
    | zero =>
      have : o' = o := by simpa using hi
      subst this
      exact ⟨rs, ps, hB.1, h.1⟩
    | succ i =>
      obtain ⟨rs', ps', h1, h2⟩ := freeSteps_at l rd pr (k + 1) i o sz h.2 hB.2 (by simpa using hi)
      exact ⟨rs', ps', h1, by rwa [show k + 1 + i = k + (i + 1) by omega] at h2⟩

/-- One operation, from a frame that has the same operands. -/
theorem wpOp_from {i : Nat} {o : Oper} (ho : ops[i]? = some o) (hs : ∀ cs b, o.op ≠ .select cs b) {a fr : Act} {w : World} (he : ∀ t ∈ o.looksAt ops, a.tmps[t]? = fr.tmps[t]?) (hb : ∀ d, o.dst = some d → d < fr.tmps.size)
    {K' : Value → World → Prop} (h : wpList P ops (One fun b w2 => b.defers = fr.defers ∧ K' (slotOf b o.dst) w2) [o] fr w) {K : Act → World → Prop} (hK : ∀ v w2, K' v w2 → K (a.put o.dst v) w2) : wpOp P ops Q i K a w := by
  have hev : execOp a.eval o = execOp fr.eval o := execOp_congr o hs fun x hx => by
    cases x with
    | tmp t =>
      have := he t (List.mem_append_left _ (List.mem_filterMap.2 ⟨.tmp t, by simpa using hx, rfl⟩))
      simp only [Act.eval, Array.getD_eq_getD_getElem?, this]
    | _ => rfl
  have hwt : Region.wanted o (yielded ops a.tmps) = Region.wanted o (yielded ops fr.tmps) := by
    unfold Region.wanted
    cases hg : o.guard with
    | none => rfl
    | some gw =>
      obtain ⟨g, want⟩ := gw
      have hy : yielded ops a.tmps g = yielded ops fr.tmps g := by
        unfold yielded
        cases ht : (ops[g]?).bind (·.dst) with
        | none => rfl
        | some t => simp only [Option.bind_some, he t (by simp [Oper.looksAt, hg, ht])]
      simp only [hy]
  have at_put : ∀ u, slotOf (fr.put o.dst u) o.dst = u ∨ (o.dst = none ∧ slotOf (fr.put o.dst u) o.dst = undef) := fun u => by
    cases hdst : o.dst with
    | none => exact .inr ⟨rfl, rfl⟩
    | some d =>
      have := hb d hdst
      refine .inl ?_
      simp [slotOf, Act.put, this]
  have hput : ∀ u w2, K' (slotOf (fr.put o.dst u) o.dst) w2 → K (a.put o.dst u) w2 := fun u w2 hk => by
    rcases at_put u with h1 | ⟨h1, h2⟩
    · rw [h1] at hk; exact hK _ _ hk
    · rw [h2] at hk
      have := hK _ _ hk
      rw [h1] at this ⊢
      exact this
  have h' := one_wp h
  unfold wpOp
  simp only [ho]
  rw [hwt]
  split
  · rename_i hw
    rw [if_pos hw] at h'
    refine .inl ?_
    unfold Oper.wp at *
    rw [hev]
    generalize (execOp fr.eval o).run P w = r at *
    cases r with
    | ok x w2 =>
      cases x <;> simp only [Oper.upon] at h' ⊢
      case value u => exact hput _ _ h'.2
      case skip => exact hput _ _ h'.2
      case defer d =>
        have h1 := h'.1
        cases hdst : o.dst <;> simp [hdst, Act.put] at h1
      case enter f args =>
        refine Calls.mono h' fun e w3 hR => ?_
        cases e with
        | returned v => exact hput _ _ hR.2
        | panicked c => exact (hR : False).elim
        | outgrown => obtain ⟨_, _, h⟩ := hR; exact h.elim
      case row row args => exact Rows.mono h' fun v w3 hR => hput _ _ hR.2
    | halt x w2 =>
      cases x <;> simp only [Oper.upon] at h' ⊢
      case panic u => exact (h' : False).elim
  · rename_i hw
    rw [if_neg hw] at h'
    exact hput _ _ h'.2

/-- Where a region that draws its order stands: what was done told all that it tells. -/
structure Told (ops : Array Oper) (n : Nat) (listed : Array Bool) (vals : Nat → Value) (a a' : Act) (F : Nat → Value → World → Prop) (w' : World) : Prop where
  size : a'.tmps.size = a.tmps.size
  defers : a'.defers = a.defers
  own : ∀ j d, j < n → listed.getD j false = true → dstAt ops j = some d → d < a.tmps.size → a'.tmps[d]? = some (vals j)
  rest : ∀ d, (∀ j, j < n → listed.getD j false = true → dstAt ops j ≠ some d) → a'.tmps[d]? = a.tmps[d]?
  held : ∀ j, j < n → listed.getD j false = true → F j (vals j) w'

theorem apartB_spec (h : Region.apartB ops = true) {i j d : Nat} (hi : dstAt ops i = some d) (hj : dstAt ops j = some d) : i = j := by
  have lt : ∀ {k}, dstAt ops k = some d → k < ops.size := fun {k} hk => by
    unfold dstAt at hk
    rcases Nat.lt_or_ge k ops.size with h | h
    · exact h
    · simp [Array.getElem?_eq_none h] at hk
  have h1 := List.all_eq_true.1 (List.all_eq_true.1 h i (List.mem_range.2 (lt hi))) j (List.mem_range.2 (lt hj))
  simp [hi, hj] at h1
  exact h1

theorem wpAny_free (hsel : Region.noSelect ops = true) (hap : Region.apartB ops = true) (hah : Region.aheadB ops = true) (htl : n = ops.size ∨ (n < ops.size ∧ Region.sinkB .any ops n = true ∧ Region.chainB .any ops n = true))
    (hseq : Region.seqB .any ops (ops.size - n) n (Region.headed n (ops.size - n)) = true) {a : Act} {rd : List (List (Nat × Nat))} {pr : List (List Nat)} {all : List (Nat × Nat)} (hrd : Region.allReadsB ops n a.tmps.size (ops.toList.take n) rd pr = true) (hall : Region.allB ops n all = true)
    (hI : ∀ w w', I w → R w w' → I w') (hF : ∀ i v w w', I w → R w w' → F i v w → F i v w')
    (hst : freeSteps P ops R I F a 0 (ops.toList.take n) rd pr) (hend : ∀ (vals : Nat → Value) (w' : World), I w' → (∀ j, j < n → F j (vals j) w') → wpList P ops Q (ops.toList.drop n) (putsL vals all a) w') :
    ∀ (f : Nat) (todo : List Nat) (listed : Array Bool) (vals : Nat → Value) (a' : Act) (w' : World), todo.length = f → todo.Nodup → (∀ j, j ∈ todo ↔ j < n ∧ listed.getD j true = false) → HeadInv .any ops n listed → I w' → Told ops n listed vals a a' F w' →
    wpAny P .any ops Q (f + (ops.size - n)) listed a' w' := by
  have hn : n ≤ ops.size := by omega
  intro f
  induction f with
  | zero =>
    intro todo listed vals a' w' hf hnd htodo inv hi ht
    obtain rfl : todo = [] := List.eq_nil_of_length_eq_zero hf
    have full : ∀ j, j < n → listed.getD j false = true := fun j hj => by
      cases hl : listed.getD j false with
      | true => rfl
      | false => exact absurd ((htodo j).2 ⟨hj, getD_in (by rw [inv.size]; omega) hl⟩) (by simp)
    have hlist : listed = Region.headed n (ops.size - n) := by
      refine Array.ext (by simp [Region.headed, inv.size]; omega) fun k h1 h2 => ?_
      rcases Nat.lt_or_ge k n with h | h
      · have := full k h
        simp [h1] at this
        simp [Region.headed, this, h]
      · have := getD_both (inv.tail k h (by rw [← inv.size]; exact h1))
        simp [h1] at this
        simp [Region.headed, this, h]
    have ha : a' = putsL vals all a := by
      have hsz := putsL_size vals all a
      have hall1 := List.all_eq_true.1 (Bool.and_eq_true_iff.1 hall).1
      have hall2 := List.all_eq_true.1 (Bool.and_eq_true_iff.1 hall).2
      have e : a'.tmps = (putsL vals all a).tmps := by
        refine Array.ext (by rw [ht.size, hsz.1]) fun t h1 h2 => ?_
        have key : a'.tmps[t]? = (putsL vals all a).tmps[t]? := by
          by_cases hex : ∃ j, j < n ∧ dstAt ops j = some t
          · obtain ⟨j, hj, hd⟩ := hex
            have hlt : t < a.tmps.size := by rw [← ht.size]; exact h1
            rw [ht.own j t hj (full j hj) hd hlt]
            refine (putsL_own vals all a (fun p hp hpt => ?_) ?_ hlt).symm
            · have := hall1 p hp
              simp only [Bool.and_eq_true, decide_eq_true_eq, beq_iff_eq] at this
              exact apartB_spec hap (by rw [this.2, hpt]) hd
            · have := hall2 j (List.mem_range.2 hj)
              rw [hd] at this
              simpa using this
          · rw [ht.rest t fun j hj _ hd => hex ⟨j, hj, hd⟩]
            refine (putsL_other vals all a fun p hp hpt => hex ⟨p.1, ?_⟩).symm
            have := hall1 p hp
            simp only [Bool.and_eq_true, decide_eq_true_eq, beq_iff_eq] at this
            exact ⟨this.1, by rw [this.2, hpt]⟩
        rw [Array.getElem?_eq_getElem h1, Array.getElem?_eq_getElem h2] at key
        exact Option.some.inj key
      cases a' with
      | mk tm df =>
        have e2 : df = (putsL vals all a).defers := by rw [hsz.2]; exact ht.defers
        simp only at e
        rw [e, e2]
    rw [Nat.zero_add, hlist, ha]
    have hl : (ops.toList.drop n).length = ops.size - n := by simp
    have := wpAny_of_seq (P := P) (md := .any) (Q' := Q) (ops := ops) (ops.toList.drop n) n (Region.headed n (ops.size - n)) (putsL vals all a) w' (fun j => by simp) (by rw [hl]; exact hseq) (hend vals w' hi fun j hj => ht.held j hj (full j hj))
    rwa [hl] at this
  | succ f ih =>
    intro todo listed vals a' w' hf hnd htodo inv hi ht
    -- the least that is not listed
    have hne : ∃ k, k ∈ todo := by cases todo with
      | nil => simp at hf
      | cons k _ => exact ⟨k, List.mem_cons_self⟩
    have hready : ∃ k, k ∈ Region.ready .any ops listed := by
      have : ∃ k, (k ∈ todo) ∧ ∀ m, m < k → m ∉ todo := by
        obtain ⟨k, hk⟩ := hne
        induction k using Nat.strongRecOn with
        | _ k ihk =>
          by_cases h : ∃ m, m < k ∧ m ∈ todo
          · obtain ⟨m, hm, hmt⟩ := h; exact ihk m hm hmt
          · exact ⟨k, hk, fun m hm hmt => h ⟨m, hm, hmt⟩⟩
      obtain ⟨k, hk, hmin⟩ := this
      obtain ⟨hkn, hkl⟩ := (htodo k).1 hk
      have hks : k < ops.size := by omega
      refine ⟨k, mem_ready.2 ⟨hkl, ops[k], by simp [hks], fun e he hb => ?_⟩⟩
      have h1 := List.all_eq_true.1 hah k (List.mem_range.2 hks)
      simp only [hks, Array.getElem?_eq_getElem, Array.all_eq_true_iff_forall_mem, Bool.or_eq_true, Bool.not_eq_true', decide_eq_true_eq] at h1
      have h2 : e.on < k := (h1 e he).resolve_left (by simp [hb])
      cases hl : listed.getD e.on false with
      | true => rfl
      | false => exact absurd ((htodo e.on).2 ⟨by omega, getD_in (by rw [inv.size]; omega) hl⟩) (hmin _ h2)
    rw [show f + 1 + (ops.size - n) = (f + (ops.size - n)) + 1 by omega]
    refine ⟨fun h0 => ?_, fun i hir => ?_⟩
    · obtain ⟨k, hk⟩ := hready
      rw [h0] at hk
      cases hk
    obtain ⟨hun, o, ho, hwait⟩ := mem_ready.1 hir
    have his : i < ops.size := (Array.getElem?_eq_some_iff.1 ho).1
    have hin : i < n := by
      rcases Nat.lt_or_ge i n with h | h
      · exact h
      · rcases htl with h1 | ⟨h1, h2, h3⟩
        · omega
        · obtain ⟨k, hk⟩ := hne
          obtain ⟨hkn, hkl⟩ := (htodo k).1 hk
          exact absurd hir (tail_waits h2 h3 h1 inv _ k rfl hkn hkl i h)
    obtain ⟨rs, ps, hB, hstep⟩ := freeSteps_at (ops.toList.take n) rd pr 0 i o a.tmps.size hst hrd (by rw [List.getElem?_take_of_lt hin]; simpa using ho)
    rw [Nat.zero_add] at hstep
    simp only [Region.readsB, Bool.and_eq_true] at hB
    obtain ⟨-, hdB, hpB, hrB, hlB⟩ := hB
    have hdst : ∀ d, o.dst = some d → d < a.tmps.size := fun d hd => by rw [hd] at hdB; simpa using hdB
    have hpl : ∀ p ∈ ps, p < n ∧ listed.getD p false = true := fun p hp => by
      have h1 := List.all_eq_true.1 hpB p hp
      obtain ⟨e, he, heb⟩ := Array.any_eq_true'.1 h1
      simp only [Bool.and_eq_true, beq_iff_eq] at heb
      obtain ⟨hb, rfl⟩ := heb
      refine ⟨?_, hwait e he hb⟩
      have h1 := List.all_eq_true.1 hah i (List.mem_range.2 his)
      simp only [ho, Array.all_eq_true_iff_forall_mem, Bool.or_eq_true, Bool.not_eq_true', decide_eq_true_eq] at h1
      have := (h1 e he).resolve_left (by simp [hb])
      omega
    have hrs : ∀ p ∈ rs, p.1 ∈ ps ∧ dstAt ops p.1 = some p.2 := fun p hp => by
      have := List.all_eq_true.1 hrB p hp
      simpa using this
    have hsize := putsL_size vals rs a
    have hag : ∀ t ∈ o.looksAt ops, a'.tmps[t]? = (putsL vals rs a).tmps[t]? := fun t htm => by
      have h1 := List.all_eq_true.1 hlB t htm
      rw [Bool.or_eq_true] at h1
      by_cases hin' : ∃ p ∈ rs, p.2 = t
      · obtain ⟨p, hp, rfl⟩ := hin'
        obtain ⟨h2, h3⟩ := hrs p hp
        by_cases hlt : p.2 < a.tmps.size
        · rw [ht.own p.1 p.2 (hpl _ h2).1 (hpl _ h2).2 h3 hlt]
          exact (putsL_own vals rs a (fun q hq hqt => apartB_spec hap (by rw [(hrs q hq).2, hqt]) h3) hp hlt).symm
        · rw [Array.getElem?_eq_none (by rw [ht.size]; omega), Array.getElem?_eq_none (by rw [hsize.1]; omega)]
      · have hno : ∀ j, j < n → dstAt ops j ≠ some t := by
          rcases h1 with h1 | h1
          · obtain ⟨p, hp, hpt⟩ := List.any_eq_true.1 h1
            exact absurd ⟨p, hp, by simpa using hpt⟩ hin'
          · intro j hj hd
            have := List.all_eq_true.1 h1 j (List.mem_range.2 hj)
            simp [hd] at this
        rw [ht.rest t fun j hj _ => hno j hj]
        exact (putsL_other vals rs a fun p hp hpt => hin' ⟨p, hp, hpt⟩).symm
    refine wpOp_from (K' := fun v w2 => R w' w2 ∧ F i v w2) ho (Region.noSelect_spec hsel i o · · ho) hag (fun d hd => by rw [hsize.1]; exact hdst d hd) ?_ fun v w2 hv => ?_
    · have := hstep vals w' hi (heldL_of ps fun j hj => ht.held j (hpl j hj).1 (hpl j hj).2)
      rw [hsize.2]
      exact this
    · obtain ⟨hR, hFi⟩ := hv
      have hunf := getD_both hun
      have getset : ∀ j d, j ≠ i → (listed.setIfInBounds i true).getD j d = listed.getD j d := fun j d hj => getD_set_ne d (Ne.symm hj)
      have hil : i < listed.size := by rw [inv.size]; exact his
      have hself : ∀ d, (listed.setIfInBounds i true).getD i d = true := fun d => by simp [hil]
      refine ih (todo.erase i) (listed.setIfInBounds i true) (fun j => if j = i then v else vals j) (a'.put o.dst v) w2 ?_ (hnd.erase i) (fun j => ?_) (inv.set hir hin) (hI _ _ hi hR) ?_
      · rw [List.length_erase_of_mem ((htodo i).2 ⟨hin, hun⟩)]; omega
      · rw [hnd.mem_erase_iff, htodo]
        by_cases hji : j = i
        · subst hji
          rw [hself]
          simp
        · rw [getset j true hji]
          simp [hji]
      · have hodst : dstAt ops i = o.dst := by simp [dstAt, ho]
        refine ⟨?_, ?_, fun j d hj hl hd hlt => ?_, fun d hno => ?_, fun j hj hl => ?_⟩
        · cases hd : o.dst <;> simp [Act.put, ht.size]
        · cases hd : o.dst <;> simp [Act.put, ht.defers]
        · by_cases hji : j = i
          · subst hji
            rw [hodst] at hd
            have : d < a'.tmps.size := by rw [ht.size]; exact hlt
            simp [hd, Act.put, this]
          · rw [getset j false hji] at hl
            have hne : ∀ d', o.dst = some d' → d' ≠ d := fun d' hd' he => by
              subst he
              exact hji (apartB_spec hap hd (by rw [hodst]; exact hd'))
            rw [if_neg hji, ← ht.own j d hj hl hd hlt]
            cases hd' : o.dst with
            | none => rfl
            | some d' => simp [Act.put, Array.getElem?_setIfInBounds_ne (hne d' hd')]
        · have hne : ∀ d', o.dst = some d' → d' ≠ d := fun d' hd' he => by
            subst he
            exact hno i hin (hself _) (by rw [hodst]; exact hd')
          rw [← ht.rest d fun j hj hl => hno j hj (by by_cases hji : j = i
                                                      · subst hji; exact hself _
                                                      · rw [getset j false hji]; exact hl)]
          cases hd' : o.dst with
          | none => rfl
          | some d' => simp [Act.put, Array.getElem?_setIfInBounds_ne (hne d' hd')]
        · by_cases hji : j = i
          · subst hji; simpa using hFi
          · rw [getset j false hji] at hl
            rw [if_neg hji]
            exact hF j _ _ _ hi hR (ht.held j hj hl)

theorem wpAny_free' {a : Act} {w : World} {rd : List (List (Nat × Nat))} {pr : List (List Nat)} {all : List (Nat × Nat)} (hB : Region.freeOrderB ops n a.tmps.size rd pr all = true)
    (hI : ∀ w w', I w → R w w' → I w') (hF : ∀ i v w w', I w → R w w' → F i v w → F i v w') (h0 : I w)
    (hst : freeSteps P ops R I F a 0 (ops.toList.take n) rd pr) (hend : ∀ (vals : Nat → Value) (w' : World), I w' → (∀ j, j < n → F j (vals j) w') → wpList P ops Q (ops.toList.drop n) (putsL vals all a) w') :
    wpAny P .any ops Q ops.size (Array.replicate ops.size false) a w := by
  simp only [Region.freeOrderB, Bool.and_eq_true, Bool.or_eq_true, decide_eq_true_eq] at hB
  obtain ⟨hsel, hap, hah, htl, hseq, hrd, hall⟩ := hB
  have hn : n ≤ ops.size := by omega
  have H := wpAny_free (P := P) (Q := Q) (a := a) hsel hap hah htl hseq hrd hall hI hF hst hend n (List.range n) (Array.replicate ops.size false) (fun _ => undef) a w (by simp) List.nodup_range
    (fun j => by
      rw [List.mem_range]
      constructor
      · intro hj
        refine ⟨hj, ?_⟩
        have : j < ops.size := by omega
        simp [this]
      · exact fun h => h.1)
    ⟨by simp, fun j oj _ hl => (by rw [getD_replicate_false] at hl; cases hl), fun t _ ht => getD_in (by simpa using ht) (getD_replicate_false _ _)⟩ h0
    ⟨rfl, rfl, fun j d _ hl => (by rw [getD_replicate_false] at hl; cases hl), fun _ _ => rfl, fun j _ hl => (by rw [getD_replicate_false] at hl; cases hl)⟩
  rwa [show n + (ops.size - n) = ops.size by omega] at H

variable {id : Nat} {a : Act} {w : World} {ol : List Oper}
/-- THE LAW. R: what one operation may do to a world; I: what holds of each world of the region; F i: what operation i tells of its value, from then on. -/
theorem region_free (n : Nat) (rd : List (List (Nat × Nat))) (pr : List (List Nat)) (all : List (Nat × Nat)) (R : World → World → Prop) (I : World → Prop) (F : Nat → Value → World → Prop) (hm : P.follows .mixedOrders = true) (hB : Region.freeOrderB ol.toArray n a.tmps.size rd pr all = true)
    (W : World) (hW : w.drew = W) (hI : ∀ w w', I w → R w w' → I w') (hF : ∀ i v w w', I w → R w w' → F i v w → F i v w') (h0 : I W)
    (hst : freeSteps P ol.toArray R I F a 0 (ol.take n) rd pr) (hend : ∀ (vals : Nat → Value) (w' : World), I w' → (∀ j, j < n → F j (vals j) w') → wpList P ol.toArray Q (ol.drop n) (putsL vals all a) w') : (Code.region id ol.toArray true).wp P Q a w := by
  subst hW
  exact wp_region_any hm (wpAny_free' hB hI hF h0 hst hend)
theorem region_free_in {l k : Nat} (n : Nat) (rd : List (List (Nat × Nat))) (pr : List (List Nat)) (all : List (Nat × Nat)) (R : World → World → Prop) (I : World → Prop) (F : Nat → Value → World → Prop) (hm : P.follows .mixedOrders = true) (hB : Region.freeOrderB ol.toArray n a.tmps.size rd pr all = true) (hd : ol.all noDefer = true)
    (W : World) (hW : w.drew = W) (hI : ∀ w w', I w → R w w' → I w') (hF : ∀ i v w w', I w → R w w' → F i v w → F i v w') (h0 : I W)
    (hst : freeSteps P ol.toArray R I F a 0 (ol.take n) rd pr) (hend : ∀ (vals : Nat → Value) (w' : World), I w' → (∀ j, j < n → F j (vals j) w') → wpList P ol.toArray (Only Q) (ol.drop n) (putsL vals all a) w') : (Code.region id ol.toArray true).wpIn (Fence.wide.inRound l) k P Q a w := by
  subst hW
  exact Code.wpIn_mono Only.imp (wpIn_region_any hm (wpAnyIn_of_wpAny (fun _ _ h => h) (fun o ho => (List.all_eq_true.1 hd) o (by simpa using ho)) _ _ _ _ _ (wpAny_free' hB hI hF h0 hst hend)))
end
end Go.Proofs.Ytaolhhgfnhhgaaa
