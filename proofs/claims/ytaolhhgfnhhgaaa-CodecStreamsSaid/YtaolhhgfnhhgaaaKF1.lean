/- The law of drawn regions where only new blocks are made: what each operation tells is a value, or a block that stands. -/
import Derived.Test.YtaolhhgfnhhgaaaKG
import Derived.Test.YtaolhhgfnhhgaaaKD0
namespace Go.Proofs.Ytaolhhgfnhhgaaa
open Go Go.RowKit

theorem str_add (a b : List UInt8) : (⟨a.toArray⟩ : ByteArray) ++ ⟨b.toArray⟩ = ⟨(a ++ b).toArray⟩ := by
  apply ByteArray.ext
  simp
theorem results_two {P : Program} {fn : Func} {p q : Tmp} {tmps : Array Value} {w : World} {x y : Value} (h : fn.results = #[.tmp p, .tmp q]) (hp : tmps.getD p undef = x) (hq : tmps.getD q undef = y) : (results fn tmps).run P w = .ok (.tuple #[x, y]) w := by
  have hp' : tmps[p]?.getD undef = x := by simpa using hp
  have hq' : tmps[q]?.getD undef = y := by simpa using hq
  simp [results, h, go_sem, hp', hq']
theorem results_three {P : Program} {fn : Func} {p q r : Tmp} {tmps : Array Value} {w : World} {x y z : Value} (h : fn.results = #[.tmp p, .tmp q, .tmp r]) (hp : tmps.getD p undef = x) (hq : tmps.getD q undef = y) (hr : tmps.getD r undef = z) : (results fn tmps).run P w = .ok (.tuple #[x, y, z]) w := by
  have hp' : tmps[p]?.getD undef = x := by simpa using hp
  have hq' : tmps[q]?.getD undef = y := by simpa using hq
  have hr' : tmps[r]?.getD undef = z := by simpa using hr
  simp [results, h, go_sem, hp', hq', hr']
/-- What an operation tells. -/
inductive Fact
  | any
  | is (v : Value)
  | row (B : Nat) (f : Nat → Value) (c : Array Value) (t : TypeId)
  | of (p : Value → Prop)
  | gen (p : Value → World → Prop) (h : ∀ v W W', Below W.heap.size W W' → p v W → p v W')
def Fact.holds : Fact → Value → World → Prop
  | .any, _, _ => True
  | .is x, v, _ => v = x
  | .row B f c t, v, W => ∃ g, B ≤ g ∧ v = f g ∧ W.heap[g]? = some (.cells c t (0, 0))
  | .of p, v, _ => p v
  | .gen p _, v, W => p v W
theorem Fact.below {W W' : World} {v : Value} (hb : Below W.heap.size W W') : ∀ {f : Fact}, f.holds v W → f.holds v W'
  | .any, h => h
  | .is _, h => h
  | .of _, h => h
  | .gen _ k, h => k _ _ _ hb h
  | .row _ _ _ _, ⟨g, h1, h2, h3⟩ => ⟨g, h1, h2, (hb.block g (Array.getElem?_eq_some_iff.1 h3).1).trans h3⟩
def factAt (fs : List Fact) (i : Nat) : Value → World → Prop := (fs.getD i .any).holds
/-- All that the facts tell, one by one. -/
def heldFacts (vals : Nat → Value) (W : World) : Nat → List Fact → Prop
  | _, [] => True
  | k, f :: fs => f.holds (vals k) W ∧ heldFacts vals W (k + 1) fs
theorem heldFacts_of {vals : Nat → Value} {W : World} : ∀ (fs : List Fact) (k : Nat), (∀ j, j < fs.length → (fs.getD j .any).holds (vals (k + j)) W) → heldFacts vals W k fs
  | [], _, _ => trivial
  | f :: fs, k, h => ⟨h 0 (by simp), heldFacts_of fs (k + 1) fun j hj => by
      have := h (j + 1) (by simpa using hj)
      rwa [show k + (j + 1) = k + 1 + j by omega] at this⟩

section
variable {P : Program} {Q : Exit → Act → World → Prop} {id : Nat} {a : Act} {w : World} {ol : List Oper}
/-- What one step must come to, given the facts it waits for. -/
def newSteps (P : Program) (ops : Array Oper) (w : World) (fs : List Fact) (a : Act) := freeSteps P ops (fun W W' => Below W.heap.size W W') (fun W => Below w.heap.size w W) (factAt fs) a 0
theorem region_new (fs : List Fact) (rd : List (List (Nat × Nat))) (pr : List (List Nat)) (all : List (Nat × Nat)) (hm : P.follows .mixedOrders = true) (hB : Region.freeOrderB ol.toArray fs.length a.tmps.size rd pr all = true)
    (hst : newSteps P ol.toArray w fs a (ol.take fs.length) rd pr) (hend : ∀ (vals : Nat → Value) (W : World), Below w.heap.size w W → heldFacts vals W 0 fs → wpList P ol.toArray Q (ol.drop fs.length) (putsL vals all a) W) : (Code.region id ol.toArray true).wp P Q a w :=
  region_free fs.length rd pr all (fun W W' => Below W.heap.size W W') (fun W => Below w.heap.size w W) (factAt fs) hm hB _ rfl (fun W W' hI hR => hI.trans (hR.mono hI.size)) (fun i v W W' _ hR h => Fact.below hR (f := fs.getD i .any) h) (Below.refl _ _).drew hst
    fun vals W hI hF => hend vals W hI (heldFacts_of fs 0 fun j hj => by rw [Nat.zero_add]; exact hF j hj)
theorem region_new_in {l k : Nat} (fs : List Fact) (rd : List (List (Nat × Nat))) (pr : List (List Nat)) (all : List (Nat × Nat)) (hm : P.follows .mixedOrders = true) (hB : Region.freeOrderB ol.toArray fs.length a.tmps.size rd pr all = true) (hd : ol.all noDefer = true)
    (hst : newSteps P ol.toArray w fs a (ol.take fs.length) rd pr) (hend : ∀ (vals : Nat → Value) (W : World), Below w.heap.size w W → heldFacts vals W 0 fs → wpList P ol.toArray (Only Q) (ol.drop fs.length) (putsL vals all a) W) : (Code.region id ol.toArray true).wpIn (Fence.wide.inRound l) k P Q a w :=
  region_free_in fs.length rd pr all (fun W W' => Below W.heap.size W W') (fun W => Below w.heap.size w W) (factAt fs) hm hB hd _ rfl (fun W W' hI hR => hI.trans (hR.mono hI.size)) (fun i v W W' _ hR h => Fact.below hR (f := fs.getD i .any) h) (Below.refl _ _).drew hst
    fun vals W hI hF => hend vals W hI (heldFacts_of fs 0 fun j hj => by rw [Nat.zero_add]; exact hF j hj)
end
end Go.Proofs.Ytaolhhgfnhhgaaa

/- Regions that draw their order, in stages: an operation that is not done yet holds the stage back; one that is done has brought it on. -/
namespace Go.Proofs.Ytaolhhgfnhhgaaa
open Go Go.RowKit

theorem ub_all (l : List Nat) (T S i : Nat) (ps : List Nat) (hS : T ≤ S) (hB : ((List.range l.length).all fun j => decide (j = i) || ps.contains j || decide (T ≤ l.getD j S)) = true) (s : Nat) : ∀ j, j ≠ i → j ∉ ps → s ≤ l.getD j S → T ≤ l.getD j S := fun j hj hp _ => by
  rcases Nat.lt_or_ge j l.length with h | h
  · have := List.all_eq_true.1 hB j (List.mem_range.2 h)
    simpa [hj, hp] using this
  · simp [List.getD, List.getElem?_eq_none h, hS]
/-- Each operation by itself: out of what those tell that it waits for, and of what holds as long as it is not done. -/
def stageSteps (P : Program) (ops : Array Oper) (R : Nat → World → Nat → World → Prop) (I : Nat → World → Prop) (F : Nat → Value → Nat → World → Prop) (U : Nat → Nat → World → Prop) (a : Act) : Nat → List Oper → List (List (Nat × Nat)) → List (List Nat) → Prop
  | _, [], _, _ => True
  | i, o :: l, rs :: rd, ps :: pr =>
    (∀ (vals : Nat → Value) (s : Nat) (w' : World), I s w' → U i s w' → heldL (fun j v w => F j v s w) vals w' ps →
      wpList P ops (One fun b w2 => b.defers = a.defers ∧ ∃ s2, I s2 w2 ∧ R s w' s2 w2 ∧ F i (slotOf b o.dst) s2 w2 ∧ ∀ j, j ≠ i → j ∉ ps → U j s w' → U j s2 w2) [o] (putsL vals rs a) w') ∧ stageSteps P ops R I F U a (i + 1) l rd pr
  | _, _ :: _, _, _ => False

section
variable {P : Program} {ops : Array Oper} {Q : Exit → Act → World → Prop} {R : Nat → World → Nat → World → Prop} {I : Nat → World → Prop} {F : Nat → Value → Nat → World → Prop} {U : Nat → Nat → World → Prop} {n : Nat}
theorem stageSteps_at {a : Act} : ∀ (l : List Oper) (rd : List (List (Nat × Nat))) (pr : List (List Nat)) (k i : Nat) (o : Oper) (sz : Nat), stageSteps P ops R I F U a k l rd pr → Region.allReadsB ops n sz l rd pr = true → l[i]? = some o →
    ∃ rs ps, Region.readsB ops n sz o rs ps = true ∧ ∀ (vals : Nat → Value) (s : Nat) (w' : World), I s w' → U (k + i) s w' → heldL (fun j v w => F j v s w) vals w' ps →
      wpList P ops (One fun b w2 => b.defers = a.defers ∧ ∃ s2, I s2 w2 ∧ R s w' s2 w2 ∧ F (k + i) (slotOf b o.dst) s2 w2 ∧ ∀ j, j ≠ k + i → j ∉ ps → U j s w' → U j s2 w2) [o] (putsL vals rs a) w'
  | [], _, _, _, _, _, _, _, _, h => by simp at h
  | _ :: _, [], _, _, _, _, _, h, _, _ => by simp [stageSteps] at h
  | _ :: _, _ :: _, [], _, _, _, _, h, _, _ => by simp [stageSteps] at h
  | o' :: l, rs :: rd, ps :: pr, k, i, o, sz, h, hB, hi => by
    simp only [Region.allReadsB, Bool.and_eq_true] at hB
    cases i with
    | zero =>
      have : o' = o := by simpa using hi
      subst this
      exact ⟨rs, ps, hB.1, h.1⟩
    | succ i =>
      obtain ⟨rs', ps', h1, h2⟩ := stageSteps_at l rd pr (k + 1) i o sz h.2 hB.2 (by simpa using hi)
      exact ⟨rs', ps', h1, by rwa [show k + 1 + i = k + (i + 1) by omega] at h2⟩

/-- Where a region that draws its order stands: what was done told all that it tells. -/
structure ToldS (ops : Array Oper) (n : Nat) (listed : Array Bool) (vals : Nat → Value) (a a' : Act) (F : Nat → Value → Nat → World → Prop) (U : Nat → Nat → World → Prop) (s : Nat) (w' : World) : Prop where
  size : a'.tmps.size = a.tmps.size
  defers : a'.defers = a.defers
  own : ∀ j d, j < n → listed.getD j false = true → dstAt ops j = some d → d < a.tmps.size → a'.tmps[d]? = some (vals j)
  rest : ∀ d, (∀ j, j < n → listed.getD j false = true → dstAt ops j ≠ some d) → a'.tmps[d]? = a.tmps[d]?
  held : ∀ j, j < n → listed.getD j false = true → F j (vals j) s w'
  still : ∀ j, j < n → listed.getD j true = false → U j s w'

theorem wpAny_stage (hsel : Region.noSelect ops = true) (hap : Region.apartB ops = true) (hah : Region.aheadB ops = true) (htl : n = ops.size ∨ (n < ops.size ∧ Region.sinkB .any ops n = true ∧ Region.chainB .any ops n = true))
    (hseq : Region.seqB .any ops (ops.size - n) n (Region.headed n (ops.size - n)) = true) {a : Act} {rd : List (List (Nat × Nat))} {pr : List (List Nat)} {all : List (Nat × Nat)} (hrd : Region.allReadsB ops n a.tmps.size (ops.toList.take n) rd pr = true) (hall : Region.allB ops n all = true)
    (hF : ∀ i v s w s' w', I s w → R s w s' w' → F i v s w → F i v s' w')
    (hst : stageSteps P ops R I F U a 0 (ops.toList.take n) rd pr) (hend : ∀ (vals : Nat → Value) (s : Nat) (w' : World), I s w' → (∀ j, j < n → F j (vals j) s w') → wpList P ops Q (ops.toList.drop n) (putsL vals all a) w') :
    ∀ (f : Nat) (todo : List Nat) (listed : Array Bool) (vals : Nat → Value) (a' : Act) (s : Nat) (w' : World), todo.length = f → todo.Nodup → (∀ j, j ∈ todo ↔ j < n ∧ listed.getD j true = false) → HeadInv .any ops n listed → I s w' → ToldS ops n listed vals a a' F U s w' →
    wpAny P .any ops Q (f + (ops.size - n)) listed a' w' := by
  have hn : n ≤ ops.size := by omega
  intro f
  induction f with
  | zero =>
    intro todo listed vals a' s w' hf hnd htodo inv hi ht
    obtain rfl : todo = [] := List.eq_nil_of_length_eq_zero hf
    have full : ∀ j, j < n → listed.getD j false = true := fun j hj => by
      cases hl : listed.getD j false with
      | true => rfl
      | false => exact absurd ((htodo j).2 ⟨hj, getD_in (by rw [inv.size]; omega) hl⟩) (by simp)
    have hlist : listed = Region.headed n (ops.size - n) := by
      refine Array.ext (by simp [Region.headed, inv.size]; omega) fun k h1 h2 => ?_
      rcases Nat.lt_or_ge k n with h | h
      · have := full k h
        simp [h1] at this
        simp [Region.headed, this, h]
      · have := getD_both (inv.tail k h (by rw [← inv.size]; exact h1))
        simp [h1] at this
        simp [Region.headed, this, h]
    have ha : a' = putsL vals all a := by
      have hsz := putsL_size vals all a
      have hall1 := List.all_eq_true.1 (Bool.and_eq_true_iff.1 hall).1
      have hall2 := List.all_eq_true.1 (Bool.and_eq_true_iff.1 hall).2
      have e : a'.tmps = (putsL vals all a).tmps := by
        refine Array.ext (by rw [ht.size, hsz.1]) fun t h1 h2 => ?_
        have key : a'.tmps[t]? = (putsL vals all a).tmps[t]? := by
          by_cases hex : ∃ j, j < n ∧ dstAt ops j = some t
          · obtain ⟨j, hj, hd⟩ := hex
            have hlt : t < a.tmps.size := by rw [← ht.size]; exact h1
            rw [ht.own j t hj (full j hj) hd hlt]
            refine (putsL_own vals all a (fun p hp hpt => ?_) ?_ hlt).symm
            · have := hall1 p hp
              simp only [Bool.and_eq_true, decide_eq_true_eq, beq_iff_eq] at this
              exact apartB_spec hap (by rw [this.2, hpt]) hd
            · have := hall2 j (List.mem_range.2 hj)
              rw [hd] at this
              simpa using this
          · rw [ht.rest t fun j hj _ hd => hex ⟨j, hj, hd⟩]
            refine (putsL_other vals all a fun p hp hpt => hex ⟨p.1, ?_⟩).symm
            have := hall1 p hp
            simp only [Bool.and_eq_true, decide_eq_true_eq, beq_iff_eq] at this
            exact ⟨this.1, by rw [this.2, hpt]⟩
        rw [Array.getElem?_eq_getElem h1, Array.getElem?_eq_getElem h2] at key
        exact Option.some.inj key
      cases a' with
      | mk tm df =>
        have e2 : df = (putsL vals all a).defers := by rw [hsz.2]; exact ht.defers
        simp only at e
        rw [e, e2]
    rw [Nat.zero_add, hlist, ha]
    have hl : (ops.toList.drop n).length = ops.size - n := by simp
    have := wpAny_of_seq (P := P) (md := .any) (Q' := Q) (ops := ops) (ops.toList.drop n) n (Region.headed n (ops.size - n)) (putsL vals all a) w' (fun j => by simp) (by rw [hl]; exact hseq) (hend vals s w' hi fun j hj => ht.held j hj (full j hj))
    rwa [hl] at this
  | succ f ih =>
    intro todo listed vals a' s w' hf hnd htodo inv hi ht
    -- the least that is not listed
    have hne : ∃ k, k ∈ todo := by cases todo with
      | nil => simp at hf
      | cons k _ => exact ⟨k, List.mem_cons_self⟩
    have hready : ∃ k, k ∈ Region.ready .any ops listed := by
      have : ∃ k, (k ∈ todo) ∧ ∀ m, m < k → m ∉ todo := by
        obtain ⟨k, hk⟩ := hne
        induction k using Nat.strongRecOn with
        | _ k ihk =>
          by_cases h : ∃ m, m < k ∧ m ∈ todo
          · obtain ⟨m, hm, hmt⟩ := h; exact ihk m hm hmt
          · exact ⟨k, hk, fun m hm hmt => h ⟨m, hm, hmt⟩⟩
      obtain ⟨k, hk, hmin⟩ := this
      obtain ⟨hkn, hkl⟩ := (htodo k).1 hk
      have hks : k < ops.size := by omega
      refine ⟨k, mem_ready.2 ⟨hkl, ops[k], by simp [hks], fun e he hb => ?_⟩⟩
      have h1 := List.all_eq_true.1 hah k (List.mem_range.2 hks)
      simp only [hks, Array.getElem?_eq_getElem, Array.all_eq_true_iff_forall_mem, Bool.or_eq_true, Bool.not_eq_true', decide_eq_true_eq] at h1
      have h2 : e.on < k := (h1 e he).resolve_left (by simp [hb])
      cases hl : listed.getD e.on false with
      | true => rfl
      | false => exact absurd ((htodo e.on).2 ⟨by omega, getD_in (by rw [inv.size]; omega) hl⟩) (hmin _ h2)
    rw [show f + 1 + (ops.size - n) = (f + (ops.size - n)) + 1 by omega]
    refine ⟨fun h0 => ?_, fun i hir => ?_⟩
    · obtain ⟨k, hk⟩ := hready
      rw [h0] at hk
      cases hk
    obtain ⟨hun, o, ho, hwait⟩ := mem_ready.1 hir
    have his : i < ops.size := (Array.getElem?_eq_some_iff.1 ho).1
    have hin : i < n := by
      rcases Nat.lt_or_ge i n with h | h
      · exact h
      · rcases htl with h1 | ⟨h1, h2, h3⟩
        · omega
        · obtain ⟨k, hk⟩ := hne
          obtain ⟨hkn, hkl⟩ := (htodo k).1 hk
          exact absurd hir (tail_waits h2 h3 h1 inv _ k rfl hkn hkl i h)
    obtain ⟨rs, ps, hB, hstep⟩ := stageSteps_at (ops.toList.take n) rd pr 0 i o a.tmps.size hst hrd (by rw [List.getElem?_take_of_lt hin]; simpa using ho)
    rw [Nat.zero_add] at hstep
    simp only [Region.readsB, Bool.and_eq_true] at hB
    obtain ⟨-, hdB, hpB, hrB, hlB⟩ := hB
    have hdst : ∀ d, o.dst = some d → d < a.tmps.size := fun d hd => by rw [hd] at hdB; simpa using hdB
    have hpl : ∀ p ∈ ps, p < n ∧ listed.getD p false = true := fun p hp => by
      have h1 := List.all_eq_true.1 hpB p hp
      obtain ⟨e, he, heb⟩ := Array.any_eq_true'.1 h1
      simp only [Bool.and_eq_true, beq_iff_eq] at heb
      obtain ⟨hb, rfl⟩ := heb
      refine ⟨?_, hwait e he hb⟩
      have h1 := List.all_eq_true.1 hah i (List.mem_range.2 his)
      simp only [ho, Array.all_eq_true_iff_forall_mem, Bool.or_eq_true, Bool.not_eq_true', decide_eq_true_eq] at h1
      have := (h1 e he).resolve_left (by simp [hb])
      omega
    have hrs : ∀ p ∈ rs, p.1 ∈ ps ∧ dstAt ops p.1 = some p.2 := fun p hp => by
      have := List.all_eq_true.1 hrB p hp
      simpa using this
    have hsize := putsL_size vals rs a
    have hag : ∀ t ∈ o.looksAt ops, a'.tmps[t]? = (putsL vals rs a).tmps[t]? := fun t htm => by
      have h1 := List.all_eq_true.1 hlB t htm
      rw [Bool.or_eq_true] at h1
      by_cases hin' : ∃ p ∈ rs, p.2 = t
      · obtain ⟨p, hp, rfl⟩ := hin'
        obtain ⟨h2, h3⟩ := hrs p hp
        by_cases hlt : p.2 < a.tmps.size
        · rw [ht.own p.1 p.2 (hpl _ h2).1 (hpl _ h2).2 h3 hlt]
          exact (putsL_own vals rs a (fun q hq hqt => apartB_spec hap (by rw [(hrs q hq).2, hqt]) h3) hp hlt).symm
        · rw [Array.getElem?_eq_none (by rw [ht.size]; omega), Array.getElem?_eq_none (by rw [hsize.1]; omega)]
      · have hno : ∀ j, j < n → dstAt ops j ≠ some t := by
          rcases h1 with h1 | h1
          · obtain ⟨p, hp, hpt⟩ := List.any_eq_true.1 h1
            exact absurd ⟨p, hp, by simpa using hpt⟩ hin'
          · intro j hj hd
            have := List.all_eq_true.1 h1 j (List.mem_range.2 hj)
            simp [hd] at this
        rw [ht.rest t fun j hj _ => hno j hj]
        exact (putsL_other vals rs a fun p hp hpt => hin' ⟨p, hp, hpt⟩).symm
    refine wpOp_from (K' := fun v w2 => ∃ s2, I s2 w2 ∧ R s w' s2 w2 ∧ F i v s2 w2 ∧ ∀ j, j ≠ i → j ∉ ps → U j s w' → U j s2 w2) ho (Region.noSelect_spec hsel i o · · ho) hag (fun d hd => by rw [hsize.1]; exact hdst d hd) ?_ fun v w2 hv => ?_
    · have := hstep vals s w' hi (ht.still i hin hun) (heldL_of (F := fun j v w => F j v s w) ps fun j hj => ht.held j (hpl j hj).1 (hpl j hj).2)
      rw [hsize.2]
      exact this
    · obtain ⟨s2, hI2, hR, hFi, hU⟩ := hv
      have hunf := getD_both hun
      have getset : ∀ j d, j ≠ i → (listed.setIfInBounds i true).getD j d = listed.getD j d := fun j d hj => getD_set_ne d (Ne.symm hj)
      have hil : i < listed.size := by rw [inv.size]; exact his
      have hself : ∀ d, (listed.setIfInBounds i true).getD i d = true := fun d => by simp [hil]
      refine ih (todo.erase i) (listed.setIfInBounds i true) (fun j => if j = i then v else vals j) (a'.put o.dst v) s2 w2 ?_ (hnd.erase i) (fun j => ?_) (inv.set hir hin) hI2 ?_
      · rw [List.length_erase_of_mem ((htodo i).2 ⟨hin, hun⟩)]; omega
      · rw [hnd.mem_erase_iff, htodo]
        by_cases hji : j = i
        · subst hji
          rw [hself]
          simp
        · rw [getset j true hji]
          simp [hji]
      · have hodst : dstAt ops i = o.dst := by simp [dstAt, ho]
        refine ⟨?_, ?_, fun j d hj hl hd hlt => ?_, fun d hno => ?_, fun j hj hl => ?_, fun j hj hl => ?_⟩
        · cases hd : o.dst <;> simp [Act.put, ht.size]
        · cases hd : o.dst <;> simp [Act.put, ht.defers]
        · by_cases hji : j = i
          · subst hji
            rw [hodst] at hd
            have : d < a'.tmps.size := by rw [ht.size]; exact hlt
            simp [hd, Act.put, this]
          · rw [getset j false hji] at hl
            have hne : ∀ d', o.dst = some d' → d' ≠ d := fun d' hd' he => by
              subst he
              exact hji (apartB_spec hap hd (by rw [hodst]; exact hd'))
            rw [if_neg hji, ← ht.own j d hj hl hd hlt]
            cases hd' : o.dst with
            | none => rfl
            | some d' => simp [Act.put, Array.getElem?_setIfInBounds_ne (hne d' hd')]
        · have hne : ∀ d', o.dst = some d' → d' ≠ d := fun d' hd' he => by
            subst he
            exact hno i hin (hself _) (by rw [hodst]; exact hd')
          rw [← ht.rest d fun j hj hl => hno j hj (by by_cases hji : j = i
                                                      · subst hji; exact hself _
                                                      · rw [getset j false hji]; exact hl)]
          cases hd' : o.dst with
          | none => rfl
          | some d' => simp [Act.put, Array.getElem?_setIfInBounds_ne (hne d' hd')]
        · by_cases hji : j = i
          · subst hji; simpa using hFi
          · rw [getset j false hji] at hl
            rw [if_neg hji]
            exact hF j _ _ _ _ _ hi hR (ht.held j hj hl)
        · have hji : j ≠ i := fun e => by
            subst e
            rw [hself] at hl
            cases hl
          rw [getset j true hji] at hl
          exact hU j hji (fun hp => by
            have h1 := (hpl j hp).2
            rw [getD_both hl] at h1
            cases h1) (ht.still j hj hl)


theorem wpAny_stage' {a : Act} {w : World} {rd : List (List (Nat × Nat))} {pr : List (List Nat)} {all : List (Nat × Nat)} (hB : Region.freeOrderB ops n a.tmps.size rd pr all = true)
    (hF : ∀ i v s w s' w', I s w → R s w s' w' → F i v s w → F i v s' w') (h0 : I 0 w) (hu : ∀ j, U j 0 w)
    (hst : stageSteps P ops R I F U a 0 (ops.toList.take n) rd pr) (hend : ∀ (vals : Nat → Value) (s : Nat) (w' : World), I s w' → (∀ j, j < n → F j (vals j) s w') → wpList P ops Q (ops.toList.drop n) (putsL vals all a) w') :
    wpAny P .any ops Q ops.size (Array.replicate ops.size false) a w := by
  simp only [Region.freeOrderB, Bool.and_eq_true, Bool.or_eq_true, decide_eq_true_eq] at hB
  obtain ⟨hsel, hap, hah, htl, hseq, hrd, hall⟩ := hB
  have hn : n ≤ ops.size := by omega
  have H := wpAny_stage (P := P) (Q := Q) (a := a) hsel hap hah htl hseq hrd hall hF hst hend n (List.range n) (Array.replicate ops.size false) (fun _ => undef) a 0 w (by simp) List.nodup_range
    (fun j => by
      rw [List.mem_range]
      constructor
      · intro hj
        refine ⟨hj, ?_⟩
        have : j < ops.size := by omega
        simp [this]
      · exact fun h => h.1)
    ⟨by simp, fun j oj _ hl => (by rw [getD_replicate_false] at hl; cases hl), fun t _ ht => getD_in (by simpa using ht) (getD_replicate_false _ _)⟩ h0
    ⟨rfl, rfl, fun j d _ hl => (by rw [getD_replicate_false] at hl; cases hl), fun _ _ => rfl, fun j _ hl => (by rw [getD_replicate_false] at hl; cases hl), fun j _ _ => hu j⟩
  rwa [show n + (ops.size - n) = ops.size by omega] at H

variable {id : Nat} {a : Act} {w : World} {ol : List Oper}
/-- THE LAW IN STAGES. I s: what holds of the world at stage s. Of operation i: its value (fs), the stage that it has brought on (lb), the last stage at which it may still be done (ub). -/
theorem region_stage (n : Nat) (rd : List (List (Nat × Nat))) (pr : List (List Nat)) (all : List (Nat × Nat)) (I : Nat → World → Prop) (fs : Nat → Value → Prop) (lb ub : Nat → Nat) (hm : P.follows .mixedOrders = true) (hB : Region.freeOrderB ol.toArray n a.tmps.size rd pr all = true) (h0 : I 0 w.drew)
    (hst : stageSteps P ol.toArray (fun s _ s' _ => s ≤ s') I (fun i v s _ => fs i v ∧ lb i ≤ s) (fun j s _ => s ≤ ub j) a 0 (ol.take n) rd pr) (hend : ∀ (vals : Nat → Value) (s : Nat) (W : World), I s W → (∀ j, j < n → fs j (vals j) ∧ lb j ≤ s) → wpList P ol.toArray Q (ol.drop n) (putsL vals all a) W) : (Code.region id ol.toArray true).wp P Q a w :=
  wp_region_any hm (wpAny_stage' hB (fun _ _ _ _ _ _ _ hR h => ⟨h.1, Nat.le_trans h.2 hR⟩) h0 (fun _ => Nat.zero_le _) hst hend)
end
end Go.Proofs.Ytaolhhgfnhhgaaa
