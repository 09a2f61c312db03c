/- Regions that draw their order, each operation walked once, where an operation may end what others have told (a list that is appended to again). -/
import Derived.Test.YtalnmaoidaldhaaKG
namespace Go.Proofs.Ytalnmaoidaldhaa
open Go

section
variable {P : Program} {ops : Array Oper} {Q : Exit → Act → World → Prop} {R : Nat → World → World → Prop} {I : World → Prop} {F : Nat → Value → World → Prop} {kill : Nat → Nat → Bool} {n : Nat}
def killOkB (n : Nat) (pr : List (List Nat)) (kill : Nat → Nat → Bool) : Bool := (List.range pr.length).all fun i => (pr.getD i []).all fun p => (List.range n).all fun k => !kill k p || (k == i || (pr.getD k []).contains i)
theorem killOk {n : Nat} {pr : List (List Nat)} {kill : Nat → Nat → Bool} (h : killOkB n pr kill = true) : ∀ i p k, p ∈ pr.getD i [] → k < n → kill k p = true → k = i ∨ i ∈ pr.getD k [] := fun i p k hp hk hkk => by
  have hi : i < pr.length := by
    rcases Nat.lt_or_ge i pr.length with h1 | h1
    · exact h1
    · have e : pr.getD i [] = [] := by simp [List.getD, List.getElem?_eq_none h1]
      rw [e] at hp; cases hp
  have h1 := List.all_eq_true.1 (List.all_eq_true.1 (List.all_eq_true.1 h i (List.mem_range.2 hi)) p hp) k (List.mem_range.2 hk)
  rw [hkk] at h1
  simpa using h1
/-- Each operation by itself, out of what those tell that it waits for. -/
def killSteps (P : Program) (ops : Array Oper) (R : Nat → World → World → Prop) (I : World → Prop) (F : Nat → Value → World → Prop) (a : Act) : Nat → List Oper → List (List (Nat × Nat)) → List (List Nat) → Prop
  | _, [], _, _ => True
  | i, o :: l, rs :: rd, ps :: pr =>
    (∀ (vals : Nat → Value) (w' : World), I w' → heldL F vals w' ps → wpList P ops (One fun b w2 => b.defers = a.defers ∧ R i w' w2 ∧ F i (slotOf b o.dst) w2) [o] (putsL vals rs a) w') ∧ killSteps P ops R I F a (i + 1) l rd pr
  | _, _ :: _, _, _ => False
theorem killSteps_at {a : Act} : ∀ (l : List Oper) (rd : List (List (Nat × Nat))) (pr : List (List Nat)) (k i : Nat) (o : Oper) (sz : Nat), killSteps P ops R I F a k l rd pr → Region.allReadsB ops n sz l rd pr = true → l[i]? = some o →
    ∃ rs ps, ps = pr.getD i [] ∧ Region.readsB ops n sz o rs ps = true ∧ ∀ (vals : Nat → Value) (w' : World), I w' → heldL F vals w' ps → wpList P ops (One fun b w2 => b.defers = a.defers ∧ R (k + i) w' w2 ∧ F (k + i) (slotOf b o.dst) w2) [o] (putsL vals rs a) w'
  | [], _, _, _, _, _, _, _, _, h => by simp at h
  | _ :: _, [], _, _, _, _, _, h, _, _ => by simp [killSteps] at h
  | _ :: _, _ :: _, [], _, _, _, _, h, _, _ => by simp [killSteps] at h
  | o' :: l, rs :: rd, ps :: pr, k, i, o, sz, h, hB, hi => by
    simp only [Region.allReadsB, Bool.and_eq_true] at hB
    cases i with
    | zero =>
      have : o' = o := by simpa using hi
      subst this
      exact ⟨rs, ps, rfl, hB.1, h.1⟩
    | succ i =>
      obtain ⟨rs', ps', h0, h1, h2⟩ := killSteps_at l rd pr (k + 1) i o sz h.2 hB.2 (by simpa using hi)
      exact ⟨rs', ps', by simpa using h0, h1, by rwa [show k + 1 + i = k + (i + 1) by omega] at h2⟩
/-- Where a region that draws its order stands. -/
structure ToldK (ops : Array Oper) (n : Nat) (listed : Array Bool) (vals : Nat → Value) (a a' : Act) (F : Nat → Value → World → Prop) (kill : Nat → Nat → Bool) (pr : List (List Nat)) (w' : World) : Prop where
  size : a'.tmps.size = a.tmps.size
  defers : a'.defers = a.defers
  own : ∀ j d, j < n → listed.getD j false = true → dstAt ops j = some d → d < a.tmps.size → a'.tmps[d]? = some (vals j)
  rest : ∀ d, (∀ j, j < n → listed.getD j false = true → dstAt ops j ≠ some d) → a'.tmps[d]? = a.tmps[d]?
  held : ∀ j, j < n → listed.getD j false = true → (∀ k, k < n → listed.getD k false = true → kill k j = false) → F j (vals j) w'
  deps : ∀ j, j < n → listed.getD j false = true → ∀ p ∈ pr.getD j [], p < n ∧ listed.getD p false = true

theorem wpAny_kill (hsel : Region.noSelect ops = true) (hap : Region.apartB ops = true) (hah : Region.aheadB ops = true) (htl : n = ops.size ∨ (n < ops.size ∧ Region.sinkB .any ops n = true ∧ Region.chainB .any ops n = true))
    (hseq : Region.seqB .any ops (ops.size - n) n (Region.headed n (ops.size - n)) = true) {a : Act} {rd : List (List (Nat × Nat))} {pr : List (List Nat)} {all : List (Nat × Nat)} (hrd : Region.allReadsB ops n a.tmps.size (ops.toList.take n) rd pr = true) (hall : Region.allB ops n all = true)
    (hk : ∀ i p k, p ∈ pr.getD i [] → k < n → kill k p = true → k = i ∨ i ∈ pr.getD k []) (hI : ∀ i w w', I w → R i w w' → I w') (hF : ∀ i j v w w', I w → R i w w' → i ≠ j → kill i j = false → F j v w → F j v w')
    (hst : killSteps P ops R I F a 0 (ops.toList.take n) rd pr) (hend : ∀ (vals : Nat → Value) (w' : World), I w' → (∀ j, j < n → (∀ k, k < n → kill k j = false) → F j (vals j) w') → wpList P ops Q (ops.toList.drop n) (putsL vals all a) w') :
    ∀ (f : Nat) (todo : List Nat) (listed : Array Bool) (vals : Nat → Value) (a' : Act) (w' : World), todo.length = f → todo.Nodup → (∀ j, j ∈ todo ↔ j < n ∧ listed.getD j true = false) → HeadInv .any ops n listed → I w' → ToldK ops n listed vals a a' F kill pr w' →
    wpAny P .any ops Q (f + (ops.size - n)) listed a' w' := by
  have hn : n ≤ ops.size := by omega
  intro f
  induction f with
  | zero =>
    intro todo listed vals a' w' hf hnd htodo inv hi ht
    obtain rfl : todo = [] := List.eq_nil_of_length_eq_zero hf
    have full : ∀ j, j < n → listed.getD j false = true := fun j hj => by
      cases hl : listed.getD j false with
      | true => rfl
      | false => exact absurd ((htodo j).2 ⟨hj, getD_in (by rw [inv.size]; omega) hl⟩) (by simp)
    have hlist : listed = Region.headed n (ops.size - n) := by
      refine Array.ext (by simp [Region.headed, inv.size]; omega) fun k h1 h2 => ?_
      rcases Nat.lt_or_ge k n with h | h
      · have := full k h
        simp [h1] at this
        simp [Region.headed, this, h]
      · have := getD_both (inv.tail k h (by rw [← inv.size]; exact h1))
        simp [h1] at this
        simp [Region.headed, this, h]
    have ha : a' = putsL vals all a := by
      have hsz := putsL_size vals all a
      have hall1 := List.all_eq_true.1 (Bool.and_eq_true_iff.1 hall).1
      have hall2 := List.all_eq_true.1 (Bool.and_eq_true_iff.1 hall).2
      have e : a'.tmps = (putsL vals all a).tmps := by
        refine Array.ext (by rw [ht.size, hsz.1]) fun t h1 h2 => ?_
        have key : a'.tmps[t]? = (putsL vals all a).tmps[t]? := by
          by_cases hex : ∃ j, j < n ∧ dstAt ops j = some t
          · obtain ⟨j, hj, hd⟩ := hex
            have hlt : t < a.tmps.size := by rw [← ht.size]; exact h1
            rw [ht.own j t hj (full j hj) hd hlt]
            refine (putsL_own vals all a (fun p hp hpt => ?_) ?_ hlt).symm
            · have := hall1 p hp
              simp only [Bool.and_eq_true, decide_eq_true_eq, beq_iff_eq] at this
              exact apartB_spec hap (by rw [this.2, hpt]) hd
            · have := hall2 j (List.mem_range.2 hj)
              rw [hd] at this
              simpa using this
          · rw [ht.rest t fun j hj _ hd => hex ⟨j, hj, hd⟩]
            refine (putsL_other vals all a fun p hp hpt => hex ⟨p.1, ?_⟩).symm
            have := hall1 p hp
            simp only [Bool.and_eq_true, decide_eq_true_eq, beq_iff_eq] at this
            exact ⟨this.1, by rw [this.2, hpt]⟩
        rw [Array.getElem?_eq_getElem h1, Array.getElem?_eq_getElem h2] at key
        exact Option.some.inj key
      cases a' with
      | mk tm df =>
        have e2 : df = (putsL vals all a).defers := by rw [hsz.2]; exact ht.defers
        simp only at e
        rw [e, e2]
    rw [Nat.zero_add, hlist, ha]
    have hl : (ops.toList.drop n).length = ops.size - n := by simp
    have := wpAny_of_seq (P := P) (md := .any) (Q' := Q) (ops := ops) (ops.toList.drop n) n (Region.headed n (ops.size - n)) (putsL vals all a) w' (fun j => by simp) (by rw [hl]; exact hseq) (hend vals w' hi fun j hj hkj => ht.held j hj (full j hj) fun k hk2 _ => hkj k hk2)
    rwa [hl] at this
  | succ f ih =>
    intro todo listed vals a' w' hf hnd htodo inv hi ht
    -- the least that is not listed
    have hne : ∃ k, k ∈ todo := by cases todo with
      | nil => simp at hf
      | cons k _ => exact ⟨k, List.mem_cons_self⟩
    have hready : ∃ k, k ∈ Region.ready .any ops listed := by
      have : ∃ k, (k ∈ todo) ∧ ∀ m, m < k → m ∉ todo := by
        obtain ⟨k, hk⟩ := hne
        induction k using Nat.strongRecOn with
        | _ k ihk =>
          by_cases h : ∃ m, m < k ∧ m ∈ todo
          · obtain ⟨m, hm, hmt⟩ := h; exact ihk m hm hmt
          · exact ⟨k, hk, fun m hm hmt => h ⟨m, hm, hmt⟩⟩
      obtain ⟨k, hk, hmin⟩ := this
      obtain ⟨hkn, hkl⟩ := (htodo k).1 hk
      have hks : k < ops.size := by omega
      refine ⟨k, mem_ready.2 ⟨hkl, ops[k], by simp [hks], fun e he hb => ?_⟩⟩
      have h1 := List.all_eq_true.1 hah k (List.mem_range.2 hks)
      simp only [hks, Array.getElem?_eq_getElem, Array.all_eq_true_iff_forall_mem, Bool.or_eq_true, Bool.not_eq_true', decide_eq_true_eq] at h1
      have h2 : e.on < k := (h1 e he).resolve_left (by simp [hb])
      cases hl : listed.getD e.on false with
      | true => rfl
      | false => exact absurd ((htodo e.on).2 ⟨by omega, getD_in (by rw [inv.size]; omega) hl⟩) (hmin _ h2)
    rw [show f + 1 + (ops.size - n) = (f + (ops.size - n)) + 1 by omega]
    refine ⟨fun h0 => ?_, fun i hir => ?_⟩
    · obtain ⟨k, hk⟩ := hready
      rw [h0] at hk
      cases hk
    obtain ⟨hun, o, ho, hwait⟩ := mem_ready.1 hir
    have his : i < ops.size := (Array.getElem?_eq_some_iff.1 ho).1
    have hin : i < n := by
      rcases Nat.lt_or_ge i n with h | h
      · exact h
      · rcases htl with h1 | ⟨h1, h2, h3⟩
        · omega
        · obtain ⟨k, hk⟩ := hne
          obtain ⟨hkn, hkl⟩ := (htodo k).1 hk
          exact absurd hir (tail_waits h2 h3 h1 inv _ k rfl hkn hkl i h)
    obtain ⟨rs, ps, hpsE, hB, hstep⟩ := killSteps_at (ops.toList.take n) rd pr 0 i o a.tmps.size hst hrd (by rw [List.getElem?_take_of_lt hin]; simpa using ho)
    rw [Nat.zero_add] at hstep
    simp only [Region.readsB, Bool.and_eq_true] at hB
    obtain ⟨-, hdB, hpB, hrB, hlB⟩ := hB
    have hdst : ∀ d, o.dst = some d → d < a.tmps.size := fun d hd => by rw [hd] at hdB; simpa using hdB
    have hpl : ∀ p ∈ ps, p < n ∧ listed.getD p false = true := fun p hp => by
      have h1 := List.all_eq_true.1 hpB p hp
      obtain ⟨e, he, heb⟩ := Array.any_eq_true'.1 h1
      simp only [Bool.and_eq_true, beq_iff_eq] at heb
      obtain ⟨hb, rfl⟩ := heb
      refine ⟨?_, hwait e he hb⟩
      have h1 := List.all_eq_true.1 hah i (List.mem_range.2 his)
      simp only [ho, Array.all_eq_true_iff_forall_mem, Bool.or_eq_true, Bool.not_eq_true', decide_eq_true_eq] at h1
      have := (h1 e he).resolve_left (by simp [hb])
      omega
    have hrs : ∀ p ∈ rs, p.1 ∈ ps ∧ dstAt ops p.1 = some p.2 := fun p hp => by
      have := List.all_eq_true.1 hrB p hp
      simpa using this
    have hsize := putsL_size vals rs a
    have hag : ∀ t ∈ o.looksAt ops, a'.tmps[t]? = (putsL vals rs a).tmps[t]? := fun t htm => by
      have h1 := List.all_eq_true.1 hlB t htm
      rw [Bool.or_eq_true] at h1
      by_cases hin' : ∃ p ∈ rs, p.2 = t
      · obtain ⟨p, hp, rfl⟩ := hin'
        obtain ⟨h2, h3⟩ := hrs p hp
        by_cases hlt : p.2 < a.tmps.size
        · rw [ht.own p.1 p.2 (hpl _ h2).1 (hpl _ h2).2 h3 hlt]
          exact (putsL_own vals rs a (fun q hq hqt => apartB_spec hap (by rw [(hrs q hq).2, hqt]) h3) hp hlt).symm
        · rw [Array.getElem?_eq_none (by rw [ht.size]; omega), Array.getElem?_eq_none (by rw [hsize.1]; omega)]
      · have hno : ∀ j, j < n → dstAt ops j ≠ some t := by
          rcases h1 with h1 | h1
          · obtain ⟨p, hp, hpt⟩ := List.any_eq_true.1 h1
            exact absurd ⟨p, hp, by simpa using hpt⟩ hin'
          · intro j hj hd
            have := List.all_eq_true.1 h1 j (List.mem_range.2 hj)
            simp [hd] at this
        rw [ht.rest t fun j hj _ => hno j hj]
        exact (putsL_other vals rs a fun p hp hpt => hin' ⟨p, hp, hpt⟩).symm
    have halive : ∀ p ∈ ps, ∀ k, k < n → listed.getD k false = true → kill k p = false := fun p hp k hk2 hl2 => by
      cases hkk : kill k p with
      | false => rfl
      | true =>
        rcases hk i p k (by rw [← hpsE]; exact hp) hk2 hkk with h | h
        · rw [h, getD_both hun] at hl2; cases hl2
        · have h2 := (ht.deps k hk2 hl2 i h).2
          rw [getD_both hun] at h2; cases h2
    refine wpOp_from (K' := fun v w2 => R i w' w2 ∧ F i v w2) ho (Region.noSelect_spec hsel i o · · ho) hag (fun d hd => by rw [hsize.1]; exact hdst d hd) ?_ fun v w2 hv => ?_
    · have := hstep vals w' hi (heldL_of ps fun j hj => ht.held j (hpl j hj).1 (hpl j hj).2 (halive j hj))
      rw [hsize.2]
      exact this
    · obtain ⟨hR, hFi⟩ := hv
      have hunf := getD_both hun
      have getset : ∀ j d, j ≠ i → (listed.setIfInBounds i true).getD j d = listed.getD j d := fun j d hj => getD_set_ne d (Ne.symm hj)
      have hil : i < listed.size := by rw [inv.size]; exact his
      have hset : ∀ d, (listed.setIfInBounds i true).getD i d = true := fun d => by simp [hil]
      refine ih (todo.erase i) (listed.setIfInBounds i true) (fun j => if j = i then v else vals j) (a'.put o.dst v) w2 ?_ (hnd.erase i) (fun j => ?_) (inv.set hir hin) (hI _ _ _ hi hR) ?_
      · rw [List.length_erase_of_mem ((htodo i).2 ⟨hin, hun⟩)]; omega
      · rw [hnd.mem_erase_iff, htodo]
        by_cases hji : j = i
        · subst hji
          rw [hset]
          simp
        · rw [getset j true hji]
          simp [hji]
      · have hodst : dstAt ops i = o.dst := by simp [dstAt, ho]
        refine ⟨?_, ?_, fun j d hj hl hd hlt => ?_, fun d hno => ?_, fun j hj hl hal => ?_, fun j hj hl p hp => ?_⟩
        · cases hd : o.dst <;> simp [Act.put, ht.size]
        · cases hd : o.dst <;> simp [Act.put, ht.defers]
        · by_cases hji : j = i
          · subst hji
            rw [hodst] at hd
            have : d < a'.tmps.size := by rw [ht.size]; exact hlt
            simp [hd, Act.put, this]
          · rw [getset j false hji] at hl
            have hne : ∀ d', o.dst = some d' → d' ≠ d := fun d' hd' he => by
              subst he
              exact hji (apartB_spec hap hd (by rw [hodst]; exact hd'))
            rw [if_neg hji, ← ht.own j d hj hl hd hlt]
            cases hd' : o.dst with
            | none => rfl
            | some d' => simp [Act.put, Array.getElem?_setIfInBounds_ne (hne d' hd')]
        · have hne : ∀ d', o.dst = some d' → d' ≠ d := fun d' hd' he => by
            subst he
            exact hno i hin (hset _) (by rw [hodst]; exact hd')
          rw [← ht.rest d fun j hj hl => hno j hj (by by_cases hji : j = i
                                                      · subst hji; exact hset _
                                                      · rw [getset j false hji]; exact hl)]
          cases hd' : o.dst with
          | none => rfl
          | some d' => simp [Act.put, Array.getElem?_setIfInBounds_ne (hne d' hd')]
        · by_cases hji : j = i
          · subst hji; simpa using hFi
          · rw [getset j false hji] at hl
            rw [if_neg hji]
            refine hF i j _ _ _ hi hR (Ne.symm hji) (hal i hin (hset _)) (ht.held j hj hl fun k hk2 hl2 => ?_)
            by_cases hki : k = i
            · rw [hki, hunf] at hl2; cases hl2
            · exact hal k hk2 (by rw [getset k false hki]; exact hl2)
        · by_cases hji : j = i
          · subst hji
            have h2 := hpl p (by rw [hpsE]; exact hp)
            have hpj : p ≠ j := fun e => by rw [e, hunf] at h2; cases h2.2
            exact ⟨h2.1, by rw [getset p false hpj]; exact h2.2⟩
          · rw [getset j false hji] at hl
            have h2 := ht.deps j hj hl p hp
            have hpi : p ≠ i := fun e => by rw [e, hunf] at h2; cases h2.2
            exact ⟨h2.1, by rw [getset p false hpi]; exact h2.2⟩


variable {id : Nat} {a : Act} {w : World} {ol : List Oper}
/-- THE LAW: what operation i tells holds until an operation that ends it is done; who reads it comes ahead of that one, or is that one. -/
theorem region_kill (n : Nat) (rd : List (List (Nat × Nat))) (pr : List (List Nat)) (all : List (Nat × Nat)) (R : Nat → World → World → Prop) (I : World → Prop) (F : Nat → Value → World → Prop) (kill : Nat → Nat → Bool) (hk : ∀ i p k, p ∈ pr.getD i [] → k < n → kill k p = true → k = i ∨ i ∈ pr.getD k []) (hm : P.follows .mixedOrders = true) (hB : Region.freeOrderB ol.toArray n a.tmps.size rd pr all = true)
    (W : World) (hW : w.drew = W) (hI : ∀ i w w', I w → R i w w' → I w') (hF : ∀ i j v w w', I w → R i w w' → i ≠ j → kill i j = false → F j v w → F j v w') (h0 : I W)
    (hst : killSteps P ol.toArray R I F a 0 (ol.take n) rd pr) (hend : ∀ (vals : Nat → Value) (w' : World), I w' → (∀ j, j < n → (∀ k, k < n → kill k j = false) → F j (vals j) w') → wpList P ol.toArray Q (ol.drop n) (putsL vals all a) w') : (Code.region id ol.toArray true).wp P Q a w := by
  subst hW
  refine wp_region_any hm ?_
  have hst' : killSteps P ol.toArray R I F a 0 (ol.toArray.toList.take n) rd pr := hst
  simp only [Region.freeOrderB, Bool.and_eq_true, Bool.or_eq_true, decide_eq_true_eq] at hB
  obtain ⟨hsel, hap, hah, htl, hseq, hrd, hall⟩ := hB
  have hn : n ≤ ol.toArray.size := by omega
  have H := wpAny_kill (P := P) (Q := Q) (a := a) hsel hap hah htl hseq hrd hall hk hI hF hst' hend n (List.range n) (Array.replicate ol.toArray.size false) (fun _ => undef) a w.drew (by simp) List.nodup_range
    (fun j => by
      rw [List.mem_range]
      constructor
      · intro hj
        refine ⟨hj, ?_⟩
        have : j < ol.toArray.size := by omega
        simp at this
        simp [this]
      · exact fun h => h.1)
    ⟨by simp, fun j oj _ hl => (by rw [getD_replicate_false] at hl; cases hl), fun t _ ht => getD_in (by simpa using ht) (getD_replicate_false _ _)⟩ h0
    ⟨rfl, rfl, fun j d _ hl => (by rw [getD_replicate_false] at hl; cases hl), fun _ _ => rfl, fun j _ hl => (by rw [getD_replicate_false] at hl; cases hl), fun j _ hl => (by rw [getD_replicate_false] at hl; cases hl)⟩
  rwa [show n + (ol.toArray.size - n) = ol.toArray.size by omega] at H
end
end Go.Proofs.Ytalnmaoidaldhaa
