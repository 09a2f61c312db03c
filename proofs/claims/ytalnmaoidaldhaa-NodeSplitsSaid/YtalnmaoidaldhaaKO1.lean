/- The walk of rising: keys that rise. -/
import Derived.RangeFuncCalls
import Derived.Test.YtalnmaoidaldhaaKN6
import Derived.Test.YtalnmaoidaldhaaKS6
import Derived.Test.YtalnmaoidaldhaaKF1
namespace Go.Proofs.Ytalnmaoidaldhaa
open Go Go.RowKit Sm
attribute [local go_sem] Oper.semAt_some

theorem keepsFrom_turned6 {F : Nat → Prop} {B : Nat} {A A' : World} (h : Turned F A A') (hF : ∀ k, F k → k < B ∨ ∃ c t fr, A.heap[k]? = some (.cells c t fr)) : KeepsFrom B A A' :=
  ⟨h.size, fun k o hB hk ho => h.heap hk fun hf => by
    rcases hF k hf with hlt | ⟨c, t, fr, hc⟩
    · omega
    · rw [hc] at hk; cases hk; cases ho⟩
theorem keepsFrom_new6 {B : Nat} {A A' : World} (h : Turned (fun _ => False) A A') : KeepsFrom B A A' := keepsFrom_turned6 h fun _ h => h.elim
theorem cell_row6 {w : World} {b : Nat} {x : Value} {t : TypeId} {fr : Nat × Nat} (h : w.heap[b]? = some (.cells #[x] t fr)) : w.cell? ⟨b, 0, none⟩ = some x := by simp [World.cell?, h]
theorem results_bool6 {fn : Func} {p : Tmp} {tmps : Array Value} {w : World} {g : Nat} {x : Value} (h : fn.results = #[.cell p 4]) (hp : tmps.getD p undef = .pointer (some ⟨g, 0, none⟩)) (hg : w.heap[g]? = some (.cells #[x] 4 (0, 0))) :
    (results fn tmps).run Try.prog w = .ok x w := by
  have hp' : tmps[p]?.getD undef = .pointer (some ⟨g, 0, none⟩) := by simpa using hp
  have c0 := cell_row6 hg
  simp [results, h, go_sem, hp', c0]

def prevK (KS : List (List UInt8)) (i : Nat) : List UInt8 := if i = 0 then [] else KS.getD (i - 1) []
def goodAt (KS : List (List UInt8)) (i : Nat) : Bool := lessB (prevK KS i) (KS.getD i []) && decide ((KS.getD i []).length ≤ 24)
def riseL (KS : List (List UInt8)) : Bool := allTo (goodAt KS) KS.length
theorem riseL_iff (KS : List (List UInt8)) : riseL KS = true ↔ ∀ i, i < KS.length → goodAt KS i = true := by simp [riseL, allTo_iff]

/-- Between two rounds: the answer's box, the last key's, the iterator's. -/
structure RisI (w : World) (B1 B2 Bx : Nat) (n : Nd) (a : NdP) (q : List UInt8) (A : World) : Prop where
  r : A.heap[B1]? = some (.cells #[.bool false] 4 (0, 0))
  l : A.heap[B2]? = some (.cells #[.string ⟨q.toArray⟩] 9 (0, 0))
  x : ReadsN Bx n a A
  t : Turned (fun _ => False) w A
section
variable {w : World} {B1 B2 Bx : Nat} {n : Nd} {a : NdP} {q : List UInt8} {A A' : World}
theorem RisI.booked {B : Nat} (h : RisI w B1 B2 Bx n a q A) (hb : Booked B A A') (hB : w.heap.size ≤ B) : RisI w B1 B2 Bx n a q A' :=
  ⟨hb.heap h.r, hb.heap h.l, h.x.booked hb, hb.turned h.t hB⟩
end
theorem ReadsN.turned {Bx : Nat} {n : Nd} {a : NdP} {w W W' : World} (h0 : ReadsN Bx n a w) (h : ReadsN Bx n a W) {F : Nat → Prop} (ht : Turned F W W') (hF : ∀ k, F k → w.heap.size ≤ k) : ReadsN Bx n a W' :=
  ⟨ht.heap h.b (fun hf => by have := hF _ hf; have := lt_of_heap h0.b; omega), h.s.turned ht hF h0.s⟩

set_option maxRecDepth 20000 in
set_option maxHeartbeats 2000000 in
theorem rising_of {w : World} {Bx : Nat} {n : Nd} {a : NdP} (h : ReadsN Bx n a w) (hok : Veil n.Ok) :
    Calls Try.prog 43 #[.func (.func 52) #[] #[.pointer (some ⟨Bx, 0, none⟩)]] w fun e w' => e = .returned (.bool (riseL n.keys)) ∧ Below w.heap.size w w' := by
  refine calls_of_wp_marks Try.func43 rfl ?_
  simp only [Try.ntmps43, List.size_toArray, List.length_cons, List.length_nil, Nat.reduceAdd, Nat.reduceSub, Array.replicate_succ, Array.replicate_zero, List.push_toArray, List.append_toArray, List.nil_append, List.cons_append]
  have HRI : Veil _ := ⟨riseL_iff n.keys⟩
  obtain ⟨r, hr⟩ : ∃ r, riseL n.keys = r := ⟨_, rfl⟩
  rw [hr] at HRI ⊢
  clear hr
  have HH : Veil _ := ⟨h⟩
  have HKL : Veil (n.keys.length = n.ps.length + n.ks.length) := ⟨keys_len n⟩
  have HKT : Veil (∀ k, k < n.keys.length → (n.keys.getD k []).length ≤ 1000000) := ⟨fun k hk => by
    have := getD_mem hk ([] : List UInt8)
    rcases List.mem_append.1 this with h | h
    · obtain ⟨p, hp, e⟩ := List.mem_map.1 h
      rw [← e]; exact (hok.out.pt p hp).1
    · exact hok.out.kt _ h⟩
  have hSeq : Veil _ := ⟨keys_seq Bx n a (Nat.le_trans hok.out.p (by omega)) (Nat.le_trans hok.out.k (by omega))⟩
  clear h hok
  unfold handsK at hSeq
  generalize n.keys = KS at *
  go_wp2
  obtain ⟨B1, e1⟩ : ∃ B1, w.heap.size = B1 := ⟨_, rfl⟩
  obtain ⟨B2, e2⟩ : ∃ B2, B1 + 1 = B2 := ⟨_, rfl⟩
  obtain ⟨w1, hw1⟩ : ∃ w1, (w.alloc (.cells #[.bool false] 4)).alloc (.cells #[.string ⟨#[]⟩] 9) = w1 := ⟨_, rfl⟩
  have hz1 : w1.heap.size = B2 + 1 := by rw [← hw1]; simp; omega
  have hT1 : Turned (fun _ => False) w w1 := by rw [← hw1]; exact ((Turned.refl (fun _ => False) w).alloc _).alloc _
  have hI : RisI w B1 B2 Bx n a [] w1 := by
    refine ⟨?_, ?_, HH.out.turned HH.out hT1 (fun k h => h.elim), hT1⟩
    all_goals
      rw [← hw1]
      simp only [heap_alloc_if, World.size_alloc]
      repeat (first | rw [if_neg (by omega)] | rw [if_pos (by first | trivial | omega)])
  have HW : Veil (w.heap.size = B1 ∧ B1 < B2) := ⟨by omega⟩
  have HZ : Veil (w1.heap.size = B2 + 1) := ⟨hz1⟩
  rw [hw1]
  simp only [e1, e2]
  clear hw1 e1 e2 hz1 hT1
  refine wp_range_seq (gf := 52) (lb := #[.pointer (some ⟨Bx, 0, none⟩)]) rfl (enters_of Try.func52 (by kernel_rfl) rfl)
    hSeq.out (fun k => rfl)
    (fun k A => RisI w B1 B2 Bx n a (prevK KS k) A ∧ ∀ i, i < k → goodAt KS i = true)
    (fun cd k A => cd = .ret ∧ r = false ∧ A.heap[B1]? = some (.cells #[.bool false] 4 (0, 0)) ∧ Turned (fun _ => False) w A) ?hI ?hIx ?hF ?h0 ?hround ?hdone ?hstop
  case hI => rintro k A A' ⟨h1, h2⟩ hb; exact ⟨h1.booked hb (by have := HW.out; have := HZ.out; omega), h2⟩
  case hIx => rintro cd k A A' ⟨h1, h2, h3, h4⟩ hb; exact ⟨h1, h2, hb.heap h3, hb.turned h4 (by have := HW.out; have := HZ.out; omega)⟩
  case hF => rintro k A ⟨h, _⟩; exact h.x
  case h0 => exact ⟨hI, fun i hi => absurd hi (by omega)⟩
  case hround =>
    rintro l m k A hl2 hlt ⟨hi1, hr⟩
    simp only [List.zip_cons_cons, List.zip_nil_right, List.foldl_cons, List.foldl_nil, List.setIfInBounds_toArray, List.set_cons_succ, List.set_cons_zero]
    have HR : Veil _ := ⟨hr⟩
    have HI1 : Veil _ := ⟨hi1⟩
    have hkl : k < KS.length := by rw [HKL.out]; exact hlt
    have hsl := HKT.out k hkl
    have stop : Veil (goodAt KS k = false → r = false) := ⟨fun hn => by
      cases r with
      | false => rfl
      | true => have := HRI.out.1 rfl k hkl; rw [hn] at this; cases this⟩
    have HG : Veil (goodAt KS k = (lessB (prevK KS k) (KS.getD k []) && decide ((KS.getD k []).length ≤ 24))) := ⟨rfl⟩
    have HGN : Veil (goodAt KS k = true → ∀ i, i < k + 1 → goodAt KS i = true) := ⟨fun ht i hi => by
      rcases Nat.lt_or_eq_of_le (Nat.le_of_lt_succ hi) with h | h
      · exact HR.out i h
      · rw [h]; exact ht⟩
    have HN : Veil (prevK KS (k + 1) = KS.getD k []) := ⟨by simp [prevK]⟩
    clear hI hr hi1 hkl hlt HRI
    revert hsl HG HN HI1
    generalize prevK KS k = q
    generalize KS.getD k [] = s
    intro HI1 hsl HG HN
    gi_wp2
    refine ⟨KeepsFrom.refl _ _, fun A2 hbk hsz => ?_⟩
    have HI2 : Veil _ := ⟨HI1.out.booked hbk (by have := HW.out; have := HZ.out; omega)⟩
    clear hbk hsz HI1
    have q1 := cell_row6 HI2.out.r
    have f1 : A2.frozen? ⟨B1, 0, none⟩ = false := frozen_whole HI2.out.r _
    have q2 := cell_row6 HI2.out.l
    have f2 : A2.frozen? ⟨B2, 0, none⟩ = false := frozen_whole HI2.out.l _
    have HBE : Veil (r = false → KeepsFrom w1.heap.size A2 (A2.setCell ⟨B1, 0, none⟩ (.bool false)) ∧ r = false ∧ (A2.setCell ⟨B1, 0, none⟩ (.bool false)).heap[B1]? = some (.cells #[.bool false] 4 (0, 0)) ∧ Turned (fun _ => False) w (A2.setCell ⟨B1, 0, none⟩ (.bool false))) := ⟨fun hr => by
      have hT : Turned (· = B1) A2 (A2.setCell ⟨B1, 0, none⟩ (.bool false)) := (Turned.refl (· = B1) A2).setCell (p := ⟨B1, 0, none⟩) rfl _
      have hW := HW.out
      exact ⟨keepsFrom_turned6 hT (fun j hj => .inl (by have := HZ.out; omega)), hr, heap_setCell_at HI2.out.r 0 _, HI2.out.t.then hT (fun j hj e => by omega)⟩⟩
    cases hq : lessB q s
    · have hbe := HBE.out (stop.out (by rw [HG.out, hq]; rfl))
      have HB3 : Veil _ := ⟨hbe⟩
      clear hbe HBE HG HGN stop HN
      by_cases he : s = q
      · subst he
        have k1 : Op.bytesLess s s = false := by rw [bytesLess_lessB]; exact hq
        have k2 : (s == s) = true := by simp
        clear hq
        gi_wp2
        exact ⟨HB3.out.1, rfl, HB3.out.2⟩
      · have k1 : Op.bytesLess s q = true := by rw [bytesLess_lessB]; exact lessB_total q s hq (fun e => he e.symm)
        clear hq he
        gi_wp2
        exact ⟨HB3.out.1, rfl, HB3.out.2⟩
    · have k1 : Op.bytesLess s q = false := by rw [bytesLess_lessB]; exact lessB_asymm hq
      have k2 : (s == q) = false := by
        rw [beq_eq_false_iff_ne]; rintro rfl; rw [lessB_irrefl] at hq; cases hq
      by_cases hl24 : 24 < s.length
      · have hbe := HBE.out (stop.out (by rw [HG.out, hq]; simp; omega))
        have HB3 : Veil _ := ⟨hbe⟩
        clear hbe HBE HG HGN stop HN hq
        gi_wp2
        exact ⟨HB3.out.1, rfl, HB3.out.2⟩
      · have HGG : Veil _ := ⟨HGN.out (by rw [HG.out, hq]; simp; omega)⟩
        clear HBE HG HGN stop hq
        gi_wp2
        have hT := (Turned.refl (· = B2) A2).setCell (p := ⟨B2, 0, none⟩) rfl (.string ⟨s.toArray⟩)
        have hW := HW.out
        refine ⟨keepsFrom_turned6 hT (fun j hj => .inl (by have := HZ.out; omega)), ⟨hT.heap HI2.out.r (by omega), ?_, HH.out.turned HI2.out.x hT (fun k hk => by omega), HI2.out.t.then hT (fun k hk e => by omega)⟩, HGG.out⟩
        rw [HN.out]
        exact heap_setCell_at HI2.out.l 0 _
  case hdone =>
    rintro Dd A hDd ⟨h1, hr⟩ hdd
    have HI : Veil _ := ⟨h1⟩
    have HD : Veil _ := ⟨hdd⟩
    obtain rfl : r = true := HRI.out.2 (by rw [HKL.out]; exact hr)
    have q1 := cell_row6 h1.r
    have f1 : A.frozen? ⟨B1, 0, none⟩ = false := frozen_whole h1.r _
    clear h1 hdd hI hr
    go_wp2
    have hT : Turned (· = B1) A (A.setCell ⟨B1, 0, none⟩ (.bool true)) := (Turned.refl (· = B1) A).setCell (p := ⟨B1, 0, none⟩) rfl _
    refine leaves_mark (D := Dd) (B := w.heap.size) (hT.heap HD.out (by have := HW.out; have := HZ.out; omega)) (by have := HW.out; have := HZ.out; omega) ?_
    intro w' hb _
    refine leaves_none (results_bool6 (g := B1) rfl rfl (hb.heap (heap_setCell_at HI.out.r 0 (.bool true)))) ⟨rfl, ?_⟩
    exact (hb.turned (HI.out.t.then hT (fun k hk e => by have := HW.out; omega)) (Nat.le_refl _)).toBelow (Nat.le_refl _) (fun _ _ h => h.elim)
  case hstop =>
    rintro Dd cd k A hDd hlt ⟨rfl, rfl, h3, h4⟩ hdd
    clear hI
    go_wp2
    refine leaves_mark (D := Dd) (B := w.heap.size) hdd (by have := HW.out; have := HZ.out; omega) ?_
    intro w' hb _
    refine leaves_none (results_bool6 (g := B1) rfl rfl (hb.heap h3)) ⟨rfl, ?_⟩
    exact (hb.turned h4 (Nat.le_refl _)).toBelow (Nat.le_refl _) (fun _ _ h => h.elim)
end Go.Proofs.Ytalnmaoidaldhaa

/- The walks of leafShaped, branchShaped, kindOf, Right. -/
namespace Go.Proofs.Ytalnmaoidaldhaa
open Go Go.RowKit Sm
attribute [local go_sem] Oper.semAt_some

def shortV (P : List Pr) (i : Nat) : Bool := decide ((P.getD i Pr.zero).v.length ≤ 60)
def Nd.leafS (n : Nd) : Bool := decide (n.ps.length ≤ 255 ∧ n.ks.length = 0 ∧ n.ds.length = 0) && allTo (shortV n.ps) n.ps.length
def Nd.branchS (n : Nd) : Bool := decide (n.ps.length = 0 ∧ n.ds.length ≤ 255 ∧ n.ds.length = n.ks.length + 1) && allTo (goodD n.ds) n.ds.length
theorem Nd.leafS_iff (n : Nd) : n.leafS = true ↔ (n.ps.length ≤ 255 ∧ n.ks.length = 0 ∧ n.ds.length = 0) ∧ ∀ i, i < n.ps.length → shortV n.ps i = true := by simp [Nd.leafS, allTo_iff]
theorem Nd.branchS_iff (n : Nd) : n.branchS = true ↔ (n.ps.length = 0 ∧ n.ds.length ≤ 255 ∧ n.ds.length = n.ks.length + 1) ∧ ∀ i, i < n.ds.length → goodD n.ds i = true := by simp [Nd.branchS, allTo_iff]
/-- The kind of a node, 0 of one that is not right. -/
def Nd.kindO (n : Nd) : Nat := if n.leafS && riseL n.keys then 1 else if n.branchS && riseL n.keys then 2 else 0

set_option maxRecDepth 20000 in
set_option maxHeartbeats 2000000 in
theorem leafsh_of {w : World} {n : Nd} {a : NdP} (h : NdAt w n a) (hok : Veil n.Ok) : Calls Try.prog 42 #[n.v a] w fun e w' => e = .returned (.bool n.leafS) ∧ Below w.heap.size w w' := by
  have HRI : Veil _ := ⟨n.leafS_iff⟩
  obtain ⟨r, hr⟩ : ∃ r, n.leafS = r := ⟨_, rfl⟩
  rw [hr] at HRI ⊢
  clear hr
  have HH := Lib.hid h
  clear h
  obtain ⟨P, K, D⟩ := n
  obtain ⟨pp, cp, pk, ck, pd, cd⟩ := a
  have hP : P.length ≤ 100000 := hok.out.p
  have hK : K.length ≤ 100000 := hok.out.k
  have hD : D.length ≤ 100000 := hok.out.d
  unfold Nd.v
  dsimp only at *
  by_cases h3 : 255 < P.length
  · obtain rfl : r = false := by cases r with | false => rfl | true => have := (HRI.out.1 rfl).1; omega
    go_enter Try.func42, Try.ntmps42
    go_wp2
    go_ret
    exact ⟨rfl, below_al (Below.refl _ _) _⟩
  by_cases h1 : 0 < K.length
  · obtain rfl : r = false := by cases r with | false => rfl | true => have := (HRI.out.1 rfl).1; omega
    go_enter Try.func42, Try.ntmps42
    go_wp2
    go_ret
    exact ⟨rfl, below_al (Below.refl _ _) _⟩
  by_cases h2 : 0 < D.length
  · obtain rfl : r = false := by cases r with | false => rfl | true => have := (HRI.out.1 rfl).1; omega
    go_enter Try.func42, Try.ntmps42
    go_wp2
    go_ret
    exact ⟨rfl, below_al (Below.refl _ _) _⟩
  have HS : Veil (P.length ≤ 255 ∧ K.length = 0 ∧ D.length = 0) := ⟨by omega⟩
  go_enter Try.func42, Try.ntmps42
  go_wp2
  clear h1 h2 h3
  obtain ⟨W1, hW1⟩ : ∃ W1, w.alloc (.cells #[.slice pp P.length cp, .slice pk K.length ck, .slice pd D.length cd] 26) = W1 := ⟨_, rfl⟩
  have HB1 : Veil (W1.heap[w.heap.size]? = some (.cells #[.slice pp P.length cp, .slice pk K.length ck, .slice pd D.length cd] 26 (0, 0))) := ⟨by rw [← hW1]; exact heap_alloc_new _ _⟩
  have HX1 : Veil (Below w.heap.size w W1) := ⟨by rw [← hW1]; exact below_al (Below.refl _ _) _⟩
  have HS1 : Veil _ := ⟨HH.out.below HX1.out⟩
  rw [hW1]
  clear hW1 HH
  go_loopw [24] (fun i wr => ∃ k : Nat, k ≤ P.length ∧ i = .int .i64 k ∧ Veil (Below W1.heap.size W1 wr ∧ ∀ i, i < k → shortV P i = true)) (fun i _ => P.length - (intOf i).toNat)
  case atStart => exact ⟨0, Nat.zero_le _, rfl, ⟨Below.refl _ _, fun i hi => absurd hi (by omega)⟩⟩
  case round =>
    obtain ⟨k, hk, rfl, hJ⟩ := hrel
    have HB2 : Veil _ := ⟨(hJ.out.1.block w.heap.size (lt_of_heap HB1.out)).trans HB1.out⟩
    obtain ⟨⟨a0, a1, a2⟩, -⟩ := box3 HB2.out
    by_cases hlt : k < P.length
    · have HS2 : Veil _ := ⟨HS1.out.below hJ.out.1⟩
      obtain ⟨b, o, hpe, hc⟩ := HS2.out.pair (by rintro he; dsimp only at he; simp [he] at hlt)
      dsimp only at hpe hc
      subst hpe
      obtain ⟨c1, c2⟩ := hc k hlt
      have HJ : Veil _ := ⟨hJ.out⟩
      have stop : Veil (shortV P k = false → r = false) := ⟨fun hf => by
        cases r with
        | false => rfl
        | true => have := (HRI.out.1 rfl).2 k hlt; rw [hf] at this; cases this⟩
      have HG : Veil (shortV P k = decide ((P.getD k Pr.zero).v.length ≤ 60)) := ⟨rfl⟩
      have HGN : Veil (shortV P k = true → ∀ i, i < k + 1 → shortV P i = true) := ⟨fun ht i hi => by
        rcases Nat.lt_or_eq_of_le (Nat.le_of_lt_succ hi) with h | h
        · exact HJ.out.2 i h
        · rw [h]; exact ht⟩
      have hsv := (hok.out.pt _ (getD_mem hlt Pr.zero)).2
      clear hc hJ a0 a1 a2
      revert c1 c2 HG hsv
      generalize P.getD k Pr.zero = s
      obtain ⟨sk, sv⟩ := s
      dsimp only
      intro c1 c2 HG hsv
      by_cases h60 : 60 < sv.length
      · obtain rfl : r = false := stop.out (by rw [HG.out]; simp; omega)
        have HX2 : Veil (Below w.heap.size w (wr.alloc (.cells #[.string ⟨sk.toArray⟩, .string ⟨sv.toArray⟩] 39))) := ⟨bn_then (bn_then HX1.out HJ.out.1) (below_al (Below.refl _ _) _)⟩
        clear HJ HG HGN stop
        go_wp2
        go_ret
        exact ⟨rfl, HX2.out⟩
      · have HGG : Veil _ := ⟨HGN.out (by rw [HG.out]; simp; omega)⟩
        have HX2 : Veil (Below W1.heap.size W1 (wr.alloc (.cells #[.string ⟨sk.toArray⟩, .string ⟨sv.toArray⟩] 39))) := ⟨bn_then HJ.out.1 (below_al (Below.refl _ _) _)⟩
        clear HJ HG HGN stop
        go_wp2
        refine ⟨⟨k + 1, by omega, by go_num, ⟨HX2.out, HGG.out⟩⟩, ?_⟩
        simp only [intOf]; omega
    · obtain rfl : k = P.length := by omega
      obtain rfl : r = true := HRI.out.2 ⟨HS.out, hJ.out.2⟩
      have HX2 : Veil (Below w.heap.size w wr) := ⟨bn_then HX1.out hJ.out.1⟩
      clear hJ
      go_wp2
      go_ret
      exact ⟨rfl, HX2.out⟩

set_option maxRecDepth 20000 in
set_option maxHeartbeats 2000000 in
theorem branchsh_of {w : World} {n : Nd} {a : NdP} (h : NdAt w n a) (hok : Veil n.Ok) : Calls Try.prog 45 #[n.v a] w fun e w' => e = .returned (.bool n.branchS) ∧ Below w.heap.size w w' := by
  have HRI : Veil _ := ⟨n.branchS_iff⟩
  obtain ⟨r, hr⟩ : ∃ r, n.branchS = r := ⟨_, rfl⟩
  rw [hr] at HRI ⊢
  clear hr
  have HH := Lib.hid h
  clear h
  obtain ⟨P, K, D⟩ := n
  obtain ⟨pp, cp, pk, ck, pd, cd⟩ := a
  have hP : P.length ≤ 100000 := hok.out.p
  have hK : K.length ≤ 100000 := hok.out.k
  have hD : D.length ≤ 100000 := hok.out.d
  have hdt := hok.out.dt
  unfold Nd.v
  dsimp only at *
  by_cases h1 : 0 < P.length
  · obtain rfl : r = false := by cases r with | false => rfl | true => have := (HRI.out.1 rfl).1; omega
    go_enter Try.func45, Try.ntmps45
    go_wp2
    go_ret
    exact ⟨rfl, below_al (Below.refl _ _) _⟩
  by_cases h2 : 255 < D.length
  · obtain rfl : r = false := by cases r with | false => rfl | true => have := (HRI.out.1 rfl).1; omega
    go_enter Try.func45, Try.ntmps45
    go_wp2
    go_ret
    exact ⟨rfl, below_al (Below.refl _ _) _⟩
  by_cases h3 : ¬ D.length = K.length + 1
  · obtain rfl : r = false := by cases r with | false => rfl | true => have := (HRI.out.1 rfl).1; omega
    have h3b : ((D.length : Int) != (K.length : Int) + 1) = true := by rw [bne_iff_ne]; omega
    clear h3
    go_enter Try.func45, Try.ntmps45
    go_wp2
    go_ret
    exact ⟨rfl, below_al (Below.refl _ _) _⟩
  have h3b : ((D.length : Int) != (K.length : Int) + 1) = false := by rw [bne_eq_false_iff_eq]; omega
  have HS : Veil (P.length = 0 ∧ D.length ≤ 255 ∧ D.length = K.length + 1) := ⟨by omega⟩
  clear h3
  go_enter Try.func45, Try.ntmps45
  go_wp2
  clear h1 h2 h3b
  obtain ⟨W1, hW1⟩ : ∃ W1, w.alloc (.cells #[.slice pp P.length cp, .slice pk K.length ck, .slice pd D.length cd] 26) = W1 := ⟨_, rfl⟩
  have HB1 : Veil (W1.heap[w.heap.size]? = some (.cells #[.slice pp P.length cp, .slice pk K.length ck, .slice pd D.length cd] 26 (0, 0))) := ⟨by rw [← hW1]; exact heap_alloc_new _ _⟩
  have HX1 : Veil (Below w.heap.size w W1) := ⟨by rw [← hW1]; exact below_al (Below.refl _ _) _⟩
  have HS1 : Veil _ := ⟨HH.out.below HX1.out⟩
  rw [hW1]
  clear hW1 HH
  go_loopw [28] (fun i wr => ∃ k : Nat, k ≤ D.length ∧ i = .int .i64 k ∧ Veil (Below W1.heap.size W1 wr ∧ ∀ i, i < k → goodD D i = true)) (fun i _ => D.length - (intOf i).toNat)
  case atStart => exact ⟨0, Nat.zero_le _, rfl, ⟨Below.refl _ _, fun i hi => absurd hi (by omega)⟩⟩
  case round =>
    obtain ⟨k, hk, rfl, hJ⟩ := hrel
    have HB2 : Veil _ := ⟨(hJ.out.1.block w.heap.size (lt_of_heap HB1.out)).trans HB1.out⟩
    by_cases hlt : k < D.length
    · have HS2 : Veil _ := ⟨HS1.out.below hJ.out.1⟩
      obtain ⟨b, o, hpe, hc⟩ := HS2.out.kid (by rintro he; dsimp only at he; simp [he] at hlt)
      dsimp only at hpe hc
      subst hpe
      have c1 := hc k hlt
      have HJ : Veil _ := ⟨hJ.out⟩
      have stop : Veil (goodD D k = false → r = false) := ⟨fun hf => by
        cases r with
        | false => rfl
        | true => have := (HRI.out.1 rfl).2 k hlt; rw [hf] at this; cases this⟩
      have HG : Veil (goodD D k = decide (2 ≤ D.getD k 0 ∧ D.getD k 0 < 16384)) := ⟨rfl⟩
      have HGN : Veil (goodD D k = true → ∀ i, i < k + 1 → goodD D i = true) := ⟨fun ht i hi => by
        rcases Nat.lt_or_eq_of_le (Nat.le_of_lt_succ hi) with h | h
        · exact HJ.out.2 i h
        · rw [h]; exact ht⟩
      have hdk := hdt _ (getD_mem hlt 0)
      clear hc hJ
      revert c1 HG hdk
      generalize D.getD k 0 = s
      intro c1 HG hdk
      have HX2 : Veil (Below w.heap.size w wr) := ⟨bn_then HX1.out HJ.out.1⟩
      by_cases g1 : s < 2
      · obtain rfl : r = false := stop.out (by rw [HG.out]; simp; omega)
        clear HJ HG HGN stop
        go_wp2
        go_ret
        exact ⟨rfl, HX2.out⟩
      · by_cases g2 : s < 16384
        · have HGG : Veil _ := ⟨HGN.out (by rw [HG.out]; simp; omega)⟩
          have HX3 : Veil _ := ⟨HJ.out.1⟩
          have g2b : decide ((16384 : Int) ≤ s) = false := by rw [decide_eq_false_iff_not]; omega
          clear HJ HG HGN stop g2
          go_wp2
          refine ⟨⟨k + 1, by omega, by go_num, ⟨HX3.out, HGG.out⟩⟩, ?_⟩
          simp only [intOf]; omega
        · obtain rfl : r = false := stop.out (by rw [HG.out]; simp; omega)
          have g2b : decide ((16384 : Int) ≤ s) = true := by rw [decide_eq_true_iff]; omega
          clear HJ HG HGN stop g2
          go_wp2
          go_ret
          exact ⟨rfl, HX2.out⟩
    · obtain rfl : k = D.length := by omega
      obtain rfl : r = true := HRI.out.2 ⟨HS.out, hJ.out.2⟩
      have HX2 : Veil (Below w.heap.size w wr) := ⟨bn_then HX1.out hJ.out.1⟩
      clear hJ
      go_wp2
      go_ret
      exact ⟨rfl, HX2.out⟩
end Go.Proofs.Ytalnmaoidaldhaa

/- The walks of kindOf, Right. -/
namespace Go.Proofs.Ytalnmaoidaldhaa
open Go Go.RowKit Sm
attribute [local go_sem] Oper.semAt_some

theorem keysN_of {w : World} {n : Nd} {a : NdP} (h : NdAt w n a) : Calls Try.prog 44 #[n.v a] w fun e w' => ∃ Bx, e = .returned (.func (.func 52) #[] #[.pointer (some ⟨Bx, 0, none⟩)]) ∧ ReadsN Bx n a w' ∧ Below w.heap.size w w' :=
  (keys_any n a w).mono fun e w' ⟨h1, h2⟩ => ⟨w.heap.size, h1, by rw [← h2]; exact ⟨heap_alloc_new _ _, h.below (below_al (Below.refl _ _) _)⟩, by rw [← h2]; exact below_al (Below.refl _ _) _⟩

set_option maxRecDepth 20000 in
set_option maxHeartbeats 2000000 in
theorem kindO_of {w : World} {n : Nd} {a : NdP} (h : NdAt w n a) (hok : Veil n.Ok) : Calls Try.prog 25 #[n.v a] w fun e w' => e = .returned (.int .i64 n.kindO) ∧ Below w.heap.size w w' := by
  have HLs : Veil (∀ w, NdAt w n a → Calls Try.prog 42 #[n.v a] w fun e w' => e = .returned (.bool n.leafS) ∧ Below w.heap.size w w') := ⟨fun w h => leafsh_of h hok⟩
  have HBs : Veil (∀ w, NdAt w n a → Calls Try.prog 45 #[n.v a] w fun e w' => e = .returned (.bool n.branchS) ∧ Below w.heap.size w w') := ⟨fun w h => branchsh_of h hok⟩
  have HKy : Veil (∀ w, NdAt w n a → Calls Try.prog 44 #[n.v a] w fun e w' => ∃ Bx, e = .returned (.func (.func 52) #[] #[.pointer (some ⟨Bx, 0, none⟩)]) ∧ ReadsN Bx n a w' ∧ Below w.heap.size w w') := ⟨fun w h => keysN_of h⟩
  have HRs : Veil (∀ w Bx, ReadsN Bx n a w → Calls Try.prog 43 #[.func (.func 52) #[] #[.pointer (some ⟨Bx, 0, none⟩)]] w fun e w' => e = .returned (.bool (riseL n.keys)) ∧ Below w.heap.size w w') := ⟨fun w Bx h => rising_of h hok⟩
  unfold Nd.kindO
  clear hok
  revert HLs HBs HRs
  generalize n.leafS = l
  generalize n.branchS = b
  generalize riseL n.keys = r
  intro HLs HBs HRs
  have HB : Veil _ := ⟨NdBox.new h⟩
  obtain ⟨W1, hW1⟩ : ∃ W1, w.alloc (.cells #[.slice a.pp n.ps.length a.cp, .slice a.pk n.ks.length a.ck, .slice a.pd n.ds.length a.cd] 26) = W1 := ⟨_, rfl⟩
  rw [hW1] at HB
  obtain ⟨a0, a1, a2⟩ := HB.out.cells
  clear h
  unfold Nd.v at *
  cases l <;> cases b <;> cases r
  all_goals
    simp only [Bool.and_true, Bool.and_false, Bool.false_eq_true, if_true, if_false]
    go_enter Try.func25, Try.ntmps25
    go_wp2_with (first
      | (go_at_call 43; refine (HRs.out _ _ HRD.out).mono ?_; rintro e w2 ⟨rfl, hb⟩; replace HB : Veil _ := ⟨HB.out.below hb⟩; clear hb a0 a1 a2; obtain ⟨a0, a1, a2⟩ := HB.out.cells)
      | (go_at_call 44; refine (HKy.out _ HB.out.s).mono ?_; rintro e w2 ⟨Bx, rfl, hrd, hb⟩; have HRD : Veil _ := ⟨hrd⟩; replace HB : Veil _ := ⟨HB.out.below hb⟩; clear hrd hb a0 a1 a2; obtain ⟨a0, a1, a2⟩ := HB.out.cells)
      | (go_at_call 45; refine (HBs.out _ HB.out.s).mono ?_; rintro e w2 ⟨rfl, hb⟩; replace HB : Veil _ := ⟨HB.out.below hb⟩; clear hb a0 a1 a2; obtain ⟨a0, a1, a2⟩ := HB.out.cells)
      | (go_at_call 42; refine (HLs.out _ HB.out.s).mono ?_; rintro e w2 ⟨rfl, hb⟩; replace HB : Veil _ := ⟨HB.out.below hb⟩; clear hb a0 a1 a2; obtain ⟨a0, a1, a2⟩ := HB.out.cells))
    go_ret
    exact ⟨rfl, HB.out.x⟩

theorem prevK_at (KS : List (List UInt8)) (i : Nat) : prevK KS i = if i = 0 then [] else KS.getD (i - 1) [] := rfl
theorem less_nil (s : List UInt8) : lessB [] s = decide (1 ≤ s.length) := by cases s <;> simp [lessB]
theorem lessB_pos {a b : List UInt8} (h : lessB a b = true) : 1 ≤ b.length := by
  cases b with
  | nil => cases a <;> simp [lessB] at h
  | cons => simp
/-- The same as the document's. -/
theorem Nd.leaf_eq (n : Nd) : n.leaf = (n.leafS && riseL n.keys) := by
  rw [Bool.eq_iff_iff, Bool.and_eq_true, n.leaf_iff, n.leafS_iff, riseL_iff]
  constructor
  · rintro ⟨⟨h1, h2, h3⟩, h4⟩
    have hk : n.keys.length = n.ps.length := by rw [keys_len]; omega
    refine ⟨⟨⟨h3, h1, h2⟩, fun i hi => ?_⟩, fun i hi => ?_⟩
    · have := h4 i hi
      simp only [goodP, Bool.and_eq_true, rightP_iff] at this
      simp only [shortV, decide_eq_true_eq]
      exact this.1.2.2
    · rw [hk] at hi
      have := h4 i hi
      simp only [goodP, Bool.and_eq_true, rightP_iff, Bool.or_eq_true, decide_eq_true_eq] at this
      obtain ⟨⟨e1, e2, e3⟩, e4⟩ := this
      simp only [goodAt, Bool.and_eq_true, decide_eq_true_eq, keys_getP hi]
      refine ⟨?_, e2⟩
      cases i with
      | zero => rw [prevK, if_pos rfl, less_nil]; simpa using e1
      | succ j =>
        have e5 : lessB (n.ps.getD j Pr.zero).k (n.ps.getD (j + 1) Pr.zero).k = true := by
          rcases e4 with e4 | e4
          · omega
          · simpa using e4
        rw [prevK, if_neg (by omega), Nat.add_sub_cancel, keys_getP (by omega)]
        exact e5
  · rintro ⟨⟨⟨h3, h1, h2⟩, h4⟩, h5⟩
    have hk : n.keys.length = n.ps.length := by rw [keys_len]; omega
    refine ⟨⟨h1, h2, h3⟩, fun i hi => ?_⟩
    have e1 := h4 i hi
    have e2 := h5 i (by rw [hk]; exact hi)
    simp only [goodAt, Bool.and_eq_true, decide_eq_true_eq, keys_getP hi] at e2
    simp only [shortV, decide_eq_true_eq] at e1
    simp only [goodP, Bool.and_eq_true, rightP_iff, Bool.or_eq_true, decide_eq_true_eq]
    refine ⟨⟨lessB_pos e2.1, e2.2, e1⟩, ?_⟩
    cases i with
    | zero => exact .inl rfl
    | succ j =>
      right
      have := e2.1
      rw [prevK, if_neg (by omega), Nat.add_sub_cancel, keys_getP (by omega)] at this
      simpa using this
theorem Nd.branch_eq (n : Nd) : n.branch = (n.branchS && riseL n.keys) := by
  rw [Bool.eq_iff_iff, Bool.and_eq_true, n.branch_iff, n.branchS_iff, riseL_iff]
  constructor
  · rintro ⟨⟨h1, h2, h3, h4⟩, h5, h6⟩
    have hk : n.keys = n.ks := by
      rw [Nd.keys, List.eq_nil_of_length_eq_zero h1]; rfl
    refine ⟨⟨⟨h1, h3, by omega⟩, h5⟩, fun i hi => ?_⟩
    rw [hk] at hi ⊢
    have := h6 i hi
    simp only [goodK, Bool.and_eq_true, Bool.or_eq_true, decide_eq_true_eq] at this
    obtain ⟨⟨e1, e2⟩, e4⟩ := this
    simp only [goodAt, Bool.and_eq_true, decide_eq_true_eq]
    refine ⟨?_, e2⟩
    cases i with
    | zero => rw [prevK, if_pos rfl, less_nil]; simpa using e1
    | succ j =>
      rcases e4 with e4 | e4
      · omega
      · rw [prevK, if_neg (by omega)]; exact e4
  · rintro ⟨⟨⟨h1, h3, h4⟩, h5⟩, h6⟩
    have hk : n.keys = n.ks := by
      rw [Nd.keys, List.eq_nil_of_length_eq_zero h1]; rfl
    rw [hk] at h6
    refine ⟨⟨h1, by omega, h3, by omega⟩, h5, fun i hi => ?_⟩
    have e2 := h6 i hi
    simp only [goodAt, Bool.and_eq_true, decide_eq_true_eq] at e2
    simp only [goodK, Bool.and_eq_true, Bool.or_eq_true, decide_eq_true_eq]
    refine ⟨⟨lessB_pos e2.1, e2.2⟩, ?_⟩
    cases i with
    | zero => exact .inl rfl
    | succ j =>
      right
      have := e2.1
      rwa [prevK, if_neg (by omega)] at this
theorem Nd.kindO_eq (n : Nd) : n.kindO = if n.right then n.kind else 0 := by
  unfold Nd.kindO Nd.right
  rw [← n.leaf_eq, ← n.branch_eq]
  cases h1 : n.leaf with
  | true =>
    have := (n.leaf_iff.1 h1).1.2.1
    simp [Nd.kind, this]
  | false =>
    cases h2 : n.branch with
    | true =>
      have := (n.branch_iff.1 h2).1.2.1
      have hk : n.kind = 2 := by rw [Nd.kind, if_neg (by omega)]
      simp [hk]
    | false => simp
theorem Nd.kind_pos (n : Nd) : 1 ≤ n.kind ∧ n.kind ≤ 2 := by unfold Nd.kind; split <;> omega

theorem kindOf_of {w : World} {n : Nd} {a : NdP} (h : NdAt w n a) (hok : Veil n.Ok) : Calls Try.prog 25 #[n.v a] w fun e w' => e = .returned (.int .i64 ((if n.right then n.kind else 0 : Nat) : Int)) ∧ Below w.heap.size w w' := by
  rw [← n.kindO_eq]; exact kindO_of h hok

set_option maxRecDepth 20000 in
set_option maxHeartbeats 2000000 in
theorem nright_of {w : World} {n : Nd} {a : NdP} (h : NdAt w n a) (hok : Veil n.Ok) : Calls Try.prog 26 #[n.v a] w fun e w' => e = .returned (.bool n.right) ∧ Below w.heap.size w w' := by
  have HKd : Veil (∀ w, NdAt w n a → Calls Try.prog 25 #[n.v a] w fun e w' => e = .returned (.int .i64 ((if n.right then n.kind else 0 : Nat) : Int)) ∧ Below w.heap.size w w') := ⟨fun w h => kindOf_of h hok⟩
  obtain ⟨h1, h2⟩ := n.kind_pos
  revert HKd h1 h2
  generalize n.right = r
  generalize n.kind = k
  intro HKd h1 h2
  have HB : Veil _ := ⟨NdBox.new h⟩
  obtain ⟨W1, hW1⟩ : ∃ W1, w.alloc (.cells #[.slice a.pp n.ps.length a.cp, .slice a.pk n.ks.length a.ck, .slice a.pd n.ds.length a.cd] 26) = W1 := ⟨_, rfl⟩
  rw [hW1] at HB
  obtain ⟨a0, a1, a2⟩ := HB.out.cells
  clear h
  unfold Nd.v at *
  have hk0 : ((k : Int) != 0) = true := by rw [bne_iff_ne]; omega
  cases r
  all_goals
    simp only [if_true, Bool.false_eq_true, if_false] at HKd
    go_enter Try.func26, Try.ntmps26
    go_wp2_with (go_at_call 25; refine (HKd.out _ HB.out.s).mono ?_; rintro e w2 ⟨rfl, hb⟩; replace HB : Veil _ := ⟨HB.out.below hb⟩; clear hb a0 a1 a2; obtain ⟨a0, a1, a2⟩ := HB.out.cells)
    go_ret
    exact ⟨by first | rfl | rw [hk0], HB.out.x⟩
end Go.Proofs.Ytalnmaoidaldhaa

/- The walks of textSize, cut, ahead. -/
namespace Go.Proofs.Ytalnmaoidaldhaa
open Go Go.RowKit Sm
attribute [local go_sem] Oper.semAt_some

/-- Where a list that was cut lies. -/
def cutE {α : Type} (E : El α) (p : Option Addr) (f n : Nat) : Option Addr := if n = 0 then p else dropP E p f
theorem Els.cut {α : Type} {E : El α} {w : World} {p : Option Addr} {L : List α} (h : Els E w p L) (f n : Nat) : Els E w (cutE E p f n) ((L.drop f).take n) := by
  by_cases hn : n = 0
  · subst hn; simp only [List.take_zero]; exact Els.nil _ _
  · rw [cutE, if_neg hn]; exact (h.drop f).take n
theorem cutE_ok {α : Type} {E : El α} {p : Option Addr} {n c : Nat} (h : SlOk p n c) (f m : Nat) (hfm : f + m ≤ n) : SlOk (cutE E p f m) m m := by
  refine ⟨Nat.le_refl _, Nat.le_trans (by have := h.le; omega) h.few, fun hp => ?_, fun a ha => ?_⟩
  · unfold cutE at hp
    split at hp
    · omega
    · unfold dropP at hp
      cases p with
      | none => have := h.none rfl; have := h.le; omega
      | some a => cases hp
  · unfold cutE at ha
    split at ha
    · exact h.spot a ha
    · unfold dropP at ha
      cases p with
      | none => cases ha
      | some b => cases ha; rfl

set_option maxRecDepth 20000 in
theorem ncutK_any {p : Option Addr} {len cap : Nat} (h : SlOk p len cap) (f n : Nat) (hfn : f + n ≤ len) (w : World) :
    Calls Try.prog 19 #[.slice p len cap, .int .i64 f, .int .i64 ((f + n : Nat) : Int)] w fun e w' => e = .returned (.slice (cutE elK p f n) n n) ∧ w = w' := by
  have hlc := h.le
  have hcap := h.few
  by_cases hn : n = 0
  · subst hn
    have e : cutE elK p f 0 = p := rfl
    rw [e, Nat.add_zero]
    rw [Nat.add_zero] at hfn
    cases p with
    | none =>
      obtain rfl : cap = 0 := h.none rfl
      obtain rfl : len = 0 := by omega
      obtain rfl : f = 0 := by omega
      clear hfn hlc h
      go_enter Try.func19, Try.ntmps19
      go_wp2
      go_ret
      exact ⟨rfl, rfl⟩
    | some a =>
      have hl0 : f ≤ cap := by omega
      clear hfn e h
      go_enter Try.func19, Try.ntmps19
      go_wp2
      go_ret
      exact ⟨by simp, rfl⟩
  · cases p with
    | none =>
      have := h.none rfl
      omega
    | some a =>
      obtain ⟨b, o, sp⟩ := a
      obtain rfl : sp = none := h.spot _ rfl
      have e : cutE elK (some ⟨b, o, none⟩) f n = some ⟨b, o + f, none⟩ := by simp [cutE, dropP, hn, elK]
      rw [e]
      obtain ⟨t, ht⟩ : ∃ t, f + n = t := ⟨_, rfl⟩
      rw [ht]
      have hnt : t - f = n := by omega
      have HNT : Veil _ := ⟨hnt⟩
      have hlt : f < t := by omega
      have htc : t ≤ cap := by omega
      clear hnt ht hfn hn e h
      go_enter Try.func19, Try.ntmps19
      go_wp2
      go_ret
      refine ⟨?_, rfl⟩
      rw [← HNT.out]
      first | rfl | simp

set_option maxRecDepth 20000 in
theorem ncutP_any {p : Option Addr} {len cap : Nat} (h : SlOk p len cap) (f n : Nat) (hfn : f + n ≤ len) (w : World) :
    Calls Try.prog 17 #[.slice p len cap, .int .i64 f, .int .i64 ((f + n : Nat) : Int)] w fun e w' => e = .returned (.slice (cutE elP p f n) n n) ∧ w = w' := by
  have hlc := h.le
  have hcap := h.few
  by_cases hn : n = 0
  · subst hn
    have e : cutE elP p f 0 = p := rfl
    rw [e, Nat.add_zero]
    rw [Nat.add_zero] at hfn
    cases p with
    | none =>
      obtain rfl : cap = 0 := h.none rfl
      obtain rfl : len = 0 := by omega
      obtain rfl : f = 0 := by omega
      clear hfn hlc h
      go_enter Try.func17, Try.ntmps17
      go_wp2
      go_ret
      exact ⟨rfl, rfl⟩
    | some a =>
      have hl0 : f ≤ cap := by omega
      clear hfn e h
      go_enter Try.func17, Try.ntmps17
      go_wp2
      go_ret
      exact ⟨by simp, rfl⟩
  · cases p with
    | none =>
      have := h.none rfl
      omega
    | some a =>
      obtain ⟨b, o, sp⟩ := a
      obtain rfl : sp = none := h.spot _ rfl
      have e : cutE elP (some ⟨b, o, none⟩) f n = some ⟨b, o + f * 2, none⟩ := by simp [cutE, dropP, hn, elP]
      rw [e]
      obtain ⟨t, ht⟩ : ∃ t, f + n = t := ⟨_, rfl⟩
      rw [ht]
      have hnt : t - f = n := by omega
      have HNT : Veil _ := ⟨hnt⟩
      have hlt : f < t := by omega
      have htc : t ≤ cap := by omega
      clear hnt ht hfn hn e h
      go_enter Try.func17, Try.ntmps17
      go_wp2
      go_ret
      refine ⟨?_, rfl⟩
      rw [← HNT.out]
      first | rfl | simp

set_option maxRecDepth 20000 in
theorem ncutD_any {p : Option Addr} {len cap : Nat} (h : SlOk p len cap) (f n : Nat) (hfn : f + n ≤ len) (w : World) :
    Calls Try.prog 21 #[.slice p len cap, .int .i64 f, .int .i64 ((f + n : Nat) : Int)] w fun e w' => e = .returned (.slice (cutE elD p f n) n n) ∧ w = w' := by
  have hlc := h.le
  have hcap := h.few
  by_cases hn : n = 0
  · subst hn
    have e : cutE elD p f 0 = p := rfl
    rw [e, Nat.add_zero]
    rw [Nat.add_zero] at hfn
    cases p with
    | none =>
      obtain rfl : cap = 0 := h.none rfl
      obtain rfl : len = 0 := by omega
      obtain rfl : f = 0 := by omega
      clear hfn hlc h
      go_enter Try.func21, Try.ntmps21
      go_wp2
      go_ret
      exact ⟨rfl, rfl⟩
    | some a =>
      have hl0 : f ≤ cap := by omega
      clear hfn e h
      go_enter Try.func21, Try.ntmps21
      go_wp2
      go_ret
      exact ⟨by simp, rfl⟩
  · cases p with
    | none =>
      have := h.none rfl
      omega
    | some a =>
      obtain ⟨b, o, sp⟩ := a
      obtain rfl : sp = none := h.spot _ rfl
      have e : cutE elD (some ⟨b, o, none⟩) f n = some ⟨b, o + f, none⟩ := by simp [cutE, dropP, hn, elD]
      rw [e]
      obtain ⟨t, ht⟩ : ∃ t, f + n = t := ⟨_, rfl⟩
      rw [ht]
      have hnt : t - f = n := by omega
      have HNT : Veil _ := ⟨hnt⟩
      have hlt : f < t := by omega
      have htc : t ≤ cap := by omega
      clear hnt ht hfn hn e h
      go_enter Try.func21, Try.ntmps21
      go_wp2
      go_ret
      refine ⟨?_, rfl⟩
      rw [← HNT.out]
      first | rfl | simp

def tsz (T : List (List UInt8)) : Nat := (T.map fun s => s.length + 1).sum
theorem tsz_take (T : List (List UInt8)) (k : Nat) (h : k < T.length) : tsz (T.take (k + 1)) = tsz (T.take k) + ((T.getD k []).length + 1) := by
  have e : T.take (k + 1) = T.take k ++ [T.getD k []] := by
    rw [List.take_add_one]; simp [List.getD, h]
  rw [e]; simp [tsz]
theorem tsz_le : ∀ (T : List (List UInt8)), (∀ s ∈ T, s.length ≤ 1000000) → tsz T ≤ T.length * 1000001
  | [], _ => by simp [tsz]
  | s :: r, h => by
    have h1 := tsz_le r fun x hx => h x (List.mem_cons_of_mem _ hx)
    have h2 := h s List.mem_cons_self
    simp only [tsz, List.map_cons, List.sum_cons, List.length_cons] at h1 ⊢
    omega
theorem Els.text {w : World} {p : Option Addr} {L : List (List UInt8)} (h : Els elK w p L) (hne : L ≠ []) : ∃ b o, p = some ⟨b, o, none⟩ ∧ ∀ i, i < L.length → w.cell? ⟨b, o + i, none⟩ = some (.string ⟨(L.getD i []).toArray⟩) := by
  obtain ⟨b, o, hp, hc⟩ := h hne
  exact ⟨b, o, hp, fun i hi => by have := hc i 0 hi (by decide); rwa [show o + i * elK.z + 0 = o + i from by show o + i * 1 + 0 = o + i; omega] at this⟩

set_option maxRecDepth 20000 in
set_option maxHeartbeats 1000000 in
theorem textsize_of {w : World} {p : Option Addr} {T : List (List UInt8)} (h : Els elK w p T) (cap : Nat) (hT : ∀ s ∈ T, s.length ≤ 1000000) (hl : T.length ≤ 10) :
    Calls Try.prog 35 #[.slice p T.length cap] w fun e w' => e = .returned (.int .i64 (tsz T)) ∧ ∃ n, w' = w.drewN n := by
  have HT : Veil _ := ⟨hT⟩
  have HH : Veil _ := ⟨h⟩
  clear hT h
  go_enter Try.func35, Try.ntmps35
  go_wp2
  go_loopw [3, 8] (fun s i wr => ∃ k : Nat, k ≤ T.length ∧ i = .int .i64 k ∧ s = .int .i64 (tsz (T.take k)) ∧ w = wr) (fun _ i _ => T.length - (intOf i).toNat)
  case atStart => exact ⟨0, Nat.zero_le _, rfl, by simp [tsz], rfl⟩
  case round =>
    obtain ⟨k, hk, rfl, rfl, rfl⟩ := hrel
    by_cases hlt : k < T.length
    · obtain ⟨b, o, rfl, hc⟩ := HH.out.text (by rintro rfl; simp at hlt)
      have c1 := hc k hlt
      have hs := HT.out _ (getD_mem hlt [])
      have HTK : Veil _ := ⟨tsz_take T k hlt⟩
      have hb : tsz (T.take k) ≤ 10 * 1000001 := Nat.le_trans (tsz_le _ fun s hs => HT.out s (List.mem_of_mem_take hs)) (Nat.mul_le_mul_right _ (by simp; omega))
      clear hc
      revert c1 hs HTK hb
      generalize T.getD k [] = s
      generalize tsz (T.take k) = m
      intro c1 hs HTK hb
      go_wp2
      refine ⟨⟨k + 1, by omega, by go_num, by rw [HTK.out]; first | rfl | go_num, by first | rfl | trivial⟩, ?_⟩
      simp only [intOf]; omega
    · obtain rfl : k = T.length := by omega
      have e : tsz (T.take T.length) = tsz T := by rw [List.take_length]
      rw [e]
      clear e
      go_wp2
      go_ret
      exact ⟨rfl, 0, World.drewN_zero _⟩

theorem NdAt.pkLt {w : World} {n : Nd} {a : NdP} (h : NdAt w n a) (hne : n.ks ≠ []) : ∀ y, a.pk = some y → y.block < w.heap.size := fun y hy => by
  obtain ⟨b, o, hb, hc⟩ := h.k.text hne
  rw [hb] at hy
  cases hy
  exact World.block_lt_of_cell? w _ (hc 0 (List.length_pos_iff.2 hne))
def Nd.ahead (n : Nd) (at' : Nat) : List (List UInt8) := if at' = 0 ∨ n.ks.length = 0 then [] else [n.ks.getD (at' - 1) []]
theorem Nd.ahead_len (n : Nd) (i : Nat) : (n.ahead i).length ≤ 1 := by unfold Nd.ahead; split <;> simp
theorem Nd.ahead_mem {n : Nd} {i : Nat} (hi : n.ks.length = 0 ∨ i ≤ n.ks.length) (h : ∀ s ∈ n.ks, s.length ≤ 1000000) : ∀ s ∈ n.ahead i, s.length ≤ 1000000 := fun s hs => by
  unfold Nd.ahead at hs
  split at hs
  · simp at hs
  · rw [List.mem_singleton] at hs; subst hs; exact h _ (getD_mem (by omega) [])

set_option maxRecDepth 20000 in
set_option maxHeartbeats 1000000 in
theorem ahead_of {w : World} {n : Nd} {a : NdP} (h : NdAt w n a) (hf : SlOk a.pk n.ks.length a.ck) (hk : n.ks.length ≤ 100000) (i : Nat) (hi : n.ks.length = 0 ∨ i ≤ n.ks.length) (hi2 : i ≤ 100000) :
    Calls Try.prog 31 #[n.v a, .int .i64 i] w fun e w' => ∃ p c, e = .returned (.slice p (n.ahead i).length c) ∧ Els elK w' p (n.ahead i) ∧ (∀ x, p = some x → n.ks ≠ [] ∧ ∃ y, a.pk = some y ∧ y.block = x.block) ∧ Below w.heap.size w w' := by
  have HB : Veil _ := ⟨NdBox.new h⟩
  obtain ⟨W1, hW1⟩ : ∃ W1, w.alloc (.cells #[.slice a.pp n.ps.length a.cp, .slice a.pk n.ks.length a.ck, .slice a.pd n.ds.length a.cd] 26) = W1 := ⟨_, rfl⟩
  rw [hW1] at HB
  obtain ⟨a0, a1, a2⟩ := HB.out.cells
  have HFT : Veil _ := ⟨hf⟩
  have HH : Veil _ := ⟨h⟩
  clear h hf
  unfold Nd.v Nd.ahead
  by_cases h0 : i = 0
  · subst h0
    simp only [true_or, if_true, List.length_nil]
    go_enter Try.func31, Try.ntmps31
    go_wp2
    go_ret
    exact ⟨none, 0, rfl, Els.nil _ _, fun _ hx => (by cases hx), HB.out.x⟩
  · have h0b : ((i : Int) == 0) = false := by rw [beq_eq_false_iff_ne]; omega
    by_cases hk0 : n.ks.length = 0
    · rw [if_pos (Or.inr hk0)]
      have hkb : ((n.ks.length : Int) == 0) = true := by rw [beq_iff_eq]; omega
      clear h0 hk0
      go_enter Try.func31, Try.ntmps31
      go_wp2
      go_ret
      exact ⟨none, 0, rfl, Els.nil _ _, fun _ hx => (by cases hx), HB.out.x⟩
    · rw [if_neg (by omega)]
      have hkb : ((n.ks.length : Int) == 0) = false := by rw [beq_eq_false_iff_ne]; omega
      obtain ⟨j, rfl⟩ : ∃ j, i = j + 1 := ⟨i - 1, by omega⟩
      have ej : ((j + 1 : Nat) : Int) - 1 = (j : Int) := by omega
      have HC : Veil (∀ w, Calls Try.prog 19 #[.slice a.pk n.ks.length a.ck, .int .i64 j, .int .i64 ((j + 1 : Nat) : Int)] w fun e w' => e = .returned (.slice (cutE elK a.pk j 1) (1 : Nat) (1 : Nat)) ∧ w = w') := ⟨fun w => ncutK_any HFT.out j 1 (by omega) w⟩
      have HJL : Veil (j < n.ks.length) := ⟨by omega⟩
      clear h0 hk0
      go_enter Try.func31, Try.ntmps31
      go_wp2_with (go_at_call 19; refine (HC.out _).mono ?_; rintro e w2 ⟨rfl, rfl⟩)
      go_ret
      refine ⟨_, 1, rfl, ?_, fun x hx => ?_, HB.out.x⟩
      rotate_left
      · obtain ⟨b, o, hb, hc⟩ := HH.out.k.text (by intro e; have := HJL.out; simp [e] at this)
        rw [hb] at hx
        simp only [cutE, dropP, Nat.one_ne_zero, if_false, Option.map_some, Option.some.injEq] at hx
        subst hx
        exact ⟨fun e => (by have := HJL.out; simp [e] at this), _, hb, rfl⟩
      have := HB.out.s.k.cut j 1
      have e1 : (n.ks.drop j).take 1 = [n.ks.getD (j + 1 - 1) []] := by
        have e2 : n.ks.drop j = n.ks.getD j [] :: n.ks.drop (j + 1) := by rw [List.drop_eq_getElem_cons HJL.out, List.getD, List.getElem?_eq_getElem HJL.out]; rfl
        rw [Nat.add_sub_cancel, e2]; rfl
      rwa [e1] at this
end Go.Proofs.Ytalnmaoidaldhaa

/- The iterator over a node's parts; the walk of Size. -/
namespace Go.Proofs.Ytalnmaoidaldhaa
open Go Go.RowKit Sm
attribute [local go_sem] Oper.semAt_some

theorem calls_wide6 {P : Program} {f : FuncId} {args : Array Value} {w : World} {R : Ending → World → Prop} {n : Nat} (h : Calls P f args w R) : Fence.wide.fn f ∧ CallsIn Fence.wide n P f args w R :=
  ⟨trivial, (callsIn_wide (n := n)).2 h⟩
theorem below_drewN6 {w w' : World} (h : ∃ n, w' = w.drewN n) : Below w.heap.size w w' := by obtain ⟨n, rfl⟩ := h; exact bn_drewN n (Below.refl _ _)
def Nd.part (n : Nd) (k : Nat) : Nat := if k < n.ps.length then tsz [(n.ps.getD k Pr.zero).k, (n.ps.getD k Pr.zero).v] else tsz (n.ahead k) + 4
def handsQ (n : Nd) (k : Nat) : Array Value := #[.int .i64 k, .int .i64 (n.part k)]
theorem parts_any (n : Nd) (a : NdP) (w : World) : Calls Try.prog 34 #[n.v a] w fun e w' => e = .returned (.func (.func 49) #[] #[.pointer (some ⟨w.heap.size, 0, none⟩)]) ∧ w.alloc (.cells #[.slice a.pp n.ps.length a.cp, .slice a.pk n.ks.length a.ck, .slice a.pd n.ds.length a.cd] 26) = w' := by
  unfold Nd.v
  go_enter Try.func34, Try.ntmps34
  go_wp2
  go_ret
  exact ⟨rfl, rfl⟩
theorem partsN_of {w : World} {n : Nd} {a : NdP} (h : NdAt w n a) : Calls Try.prog 34 #[n.v a] w fun e w' => ∃ Bx, e = .returned (.func (.func 49) #[] #[.pointer (some ⟨Bx, 0, none⟩)]) ∧ ReadsN Bx n a w' ∧ Below w.heap.size w w' :=
  (parts_any n a w).mono fun e w' ⟨h1, h2⟩ => ⟨w.heap.size, h1, by rw [← h2]; exact ⟨heap_alloc_new _ _, h.below (below_al (Below.refl _ _) _)⟩, by rw [← h2]; exact below_al (Below.refl _ _) _⟩

set_option maxRecDepth 20000 in
set_option maxHeartbeats 2000000 in
theorem parts_seq (Bx : Nat) (n : Nd) (a : NdP) (hok : Veil n.Ok) (hf : SlOk a.pk n.ks.length a.ck) (hx : n.ps.length = 0 ∨ n.ds.length = 0) (hkd : n.ds.length = 0 ∨ n.ks.length + 1 = n.ds.length) :
    Seq Try.prog 49 #[.pointer (some ⟨Bx, 0, none⟩)] (handsQ n) (n.ps.length + n.ds.length) (ReadsN Bx n a) := by
  intro l m J Jx W hJ hJx hF hY h0
  obtain ⟨a0, a1, a2⟩ := (hF 0 W h0).cells
  have HPP : Veil (∀ k, k < n.ps.length → n.part k = tsz [(n.ps.getD k Pr.zero).k, (n.ps.getD k Pr.zero).v]) := ⟨fun k hk => by rw [Nd.part, if_pos hk]⟩
  have HPD : Veil (∀ k, k < n.ds.length → n.part (n.ps.length + k) = tsz (n.ahead k) + 4 ∧ n.ps.length + k = k) := ⟨fun k hk => by
    have : n.ps.length + k = k := by omega
    rw [this, Nd.part, if_neg (by omega)]
    exact ⟨rfl, rfl⟩⟩
  have HF : Veil _ := ⟨hF⟩
  have HY : Veil _ := ⟨hY⟩
  have HJ : Veil _ := ⟨hJ⟩
  have hP : n.ps.length ≤ 100000 := hok.out.p
  have hD : n.ds.length ≤ 100000 := hok.out.d
  have hK : n.ks.length ≤ 100000 := hok.out.k
  have HAh : Veil (∀ k, k < n.ds.length → ∀ W, NdAt W n a → Calls Try.prog 31 #[n.v a, .int .i64 k] W fun e w' => ∃ p c, e = .returned (.slice p (n.ahead k).length c) ∧ Els elK w' p (n.ahead k) ∧ (∀ x, p = some x → n.ks ≠ [] ∧ ∃ y, a.pk = some y ∧ y.block = x.block) ∧ Below W.heap.size W w') := ⟨fun k hk W h => ahead_of h hf hK k (by omega) (by omega)⟩
  have HTs : Veil (∀ k, k < n.ds.length → (∀ s ∈ n.ahead k, s.length ≤ 1000000) ∧ (n.ahead k).length ≤ 1) := ⟨fun k hk => ⟨Nd.ahead_mem (by omega) hok.out.kt, n.ahead_len k⟩⟩
  clear hF hY hJ hJx
  unfold handsQ at HY
  revert HPP HPD HY
  generalize hpe : n.part = part
  intro HPP HPD HY
  clear hpe
  have HPT : Veil _ := ⟨hok.out.pt⟩
  clear hf hx hkd hok
  refine callsIn_of_wp Try.func49 rfl trivial ?_
  simp only [Try.ntmps49, List.size_toArray, List.length_cons, List.length_nil, Nat.reduceAdd, Nat.reduceSub, Array.replicate_succ, Array.replicate_zero, List.push_toArray, List.append_toArray, List.nil_append, List.cons_append]
  gi_wp2
  clear a0 a1 a2
  gi_loopw [9] (fun i wr => ∃ k : Nat, k ≤ n.ps.length ∧ i = .int .i64 k ∧ J k wr) (fun i _ => n.ps.length - (intOf i).toNat)
  case atStart => exact ⟨0, Nat.zero_le _, rfl, h0⟩
  case round =>
    obtain ⟨k, hk, rfl, hj⟩ := hrel
    have HRN : Veil _ := ⟨HF.out k wr hj⟩
    have HJ1 : Veil _ := ⟨hj⟩
    clear hj
    by_cases hlt : k < n.ps.length
    · obtain ⟨b, o, hpe, hc⟩ := HRN.out.s.pair (by rintro he; simp [he] at hlt)
      rw [hpe]
      clear hpe
      obtain ⟨c1, c2⟩ := hc k hlt
      have hYk : Veil (∀ A, J k A → YieldAt Fence.wide m Try.prog l #[.int .i64 k, .int .i64 (part k)] A fun e A' => (e = .returned (.bool true) ∧ J (k + 1) A') ∨ (e = .returned (.bool false) ∧ Jx k A')) := ⟨fun A hA => HY.out k A (by omega) hA⟩
      rw [HPP.out k hlt] at hYk
      obtain ⟨hp1, hp2⟩ := HPT.out _ (getD_mem hlt Pr.zero)
      clear hc
      revert c1 c2 hYk hp1 hp2
      generalize n.ps.getD k Pr.zero = s
      obtain ⟨sk, sv⟩ := s
      dsimp only
      intro c1 c2 hYk hp1 hp2
      obtain ⟨W4, hW4⟩ : ∃ W4, wr.alloc (.cells #[.string ⟨sk.toArray⟩, .string ⟨sv.toArray⟩] 39) = W4 := ⟨_, rfl⟩
      obtain ⟨W5, hW5⟩ : ∃ W5, W4.alloc (.cells #[.string ⟨sk.toArray⟩, .string ⟨sv.toArray⟩] 9) = W5 := ⟨_, rfl⟩
      have HB4 : Veil (Below wr.heap.size wr W4) := ⟨by rw [← hW4]; exact below_al (Below.refl _ _) _⟩
      have HB5 : Veil (Below W4.heap.size W4 W5) := ⟨by rw [← hW5]; exact below_al (Below.refl _ _) _⟩
      have HE : Veil (Els elK W5 (some ⟨W4.heap.size, 0, none⟩) [sk, sv]) := ⟨els_of_block (cur := #[.string ⟨sk.toArray⟩, .string ⟨sv.toArray⟩]) (t := 9) (fr := (0, 0)) (by rw [← hW5]; exact heap_alloc_new _ _) (by rfl)⟩
      have HTx : Veil (Calls Try.prog 35 #[.slice (some ⟨W4.heap.size, 0, none⟩) (2 : Nat) (2 : Nat)] W5 fun e w' => e = .returned (.int .i64 (tsz [sk, sv])) ∧ ∃ n, w' = W5.drewN n) := ⟨textsize_of HE.out 2 (by intro s hs; simp at hs; rcases hs with rfl | rfl <;> assumption) (by simp)⟩
      have h4 : W4.heap[wr.heap.size]? = some (.cells [.string ⟨sk.toArray⟩, .string ⟨sv.toArray⟩].toArray 39 (0, 0)) := by rw [← hW4]; exact heap_alloc_new _ _
      have d1 : W4.cell? ⟨wr.heap.size, 0, none⟩ = some (.string ⟨sk.toArray⟩) := cell_whole h4 0
      have d2 : W4.cell? ⟨wr.heap.size, 1, none⟩ = some (.string ⟨sv.toArray⟩) := cell_whole h4 1
      clear h4
      generalize tsz [sk, sv] = ts at *
      gi_wp2_with (refine calls_wide6 ?_; refine HTx.out.mono ?_; rintro e w3 ⟨rfl, hd3⟩; obtain ⟨fn, tmps, assign, body, hy, hR⟩ := hYk.out w3 (HJ.out k wr w3 HJ1.out (bn_then (bn_then HB4.out HB5.out) (below_drewN6 hd3))))
      refine hR.mono ?_
      rintro e W3 (⟨rfl, hj'⟩ | ⟨rfl, hjx⟩)
      · gi_wp2
        go_roundw
        case rel => exact ⟨k + 1, by omega, by go_num, hj'⟩
        case measure => simp [intOf]; omega
      · gi_wp2
        refine bodyPost_ret (results_none rfl _ _ _) rfl ?_
        exact ⟨⟨_, rfl⟩, .inr ⟨k, by omega, hjx⟩⟩
    · obtain rfl : k = n.ps.length := by omega
      obtain ⟨a0, a1, a2⟩ := HRN.out.cells
      clear HRN hk hlt
      gi_wp2
      clear a0 a1 a2
      gi_loopw [28] (fun i wr => ∃ k : Nat, k ≤ n.ds.length ∧ i = .int .i64 k ∧ J (n.ps.length + k) wr) (fun i _ => n.ds.length - (intOf i).toNat)
      case atStart => exact ⟨0, Nat.zero_le _, rfl, HJ1.out⟩
      case round =>
        obtain ⟨k, hk, rfl, hj⟩ := hrel
        have HRN : Veil _ := ⟨HF.out _ wr hj⟩
        have HJ2 : Veil _ := ⟨hj⟩
        clear hj
        by_cases hlt : k < n.ds.length
        · obtain ⟨a0, a1, a2⟩ := HRN.out.cells
          obtain ⟨e1, e2⟩ := HPD.out k hlt
          have hYk : Veil (∀ A, J (n.ps.length + k) A → YieldAt Fence.wide m Try.prog l #[.int .i64 ((n.ps.length + k : Nat) : Int), .int .i64 (part (n.ps.length + k))] A fun e A' => (e = .returned (.bool true) ∧ J (n.ps.length + k + 1) A') ∨ (e = .returned (.bool false) ∧ Jx (n.ps.length + k) A')) := ⟨fun A hA => HY.out _ A (by omega) hA⟩
          have e3 : ((tsz (n.ahead k) + 4 : Nat) : Int) = (tsz (n.ahead k) : Int) + 4 := by omega
          rw [e1, e2, e3] at hYk
          have HE2 : Veil _ := ⟨e2⟩
          clear e1 e2 e3
          obtain ⟨ht1, ht2⟩ := HTs.out k hlt
          have hb : tsz (n.ahead k) ≤ 1 * 1000001 := Nat.le_trans (tsz_le _ ht1) (Nat.mul_le_mul_right _ ht2)
          have HA : Veil (∀ W, NdAt W n a → Calls Try.prog 31 #[n.v a, .int .i64 k] W fun e w' => ∃ p c, e = .returned (.slice p (n.ahead k).length c) ∧ Els elK w' p (n.ahead k) ∧ (∀ x, p = some x → n.ks ≠ [] ∧ ∃ y, a.pk = some y ∧ y.block = x.block) ∧ Below W.heap.size W w') := ⟨HAh.out k hlt⟩
          have HTx : Veil (∀ W p c, Els elK W p (n.ahead k) → Calls Try.prog 35 #[.slice p (n.ahead k).length c] W fun e w' => e = .returned (.int .i64 (tsz (n.ahead k))) ∧ ∃ n, w' = W.drewN n) := ⟨fun W p c h => textsize_of h c ht1 (by omega)⟩
          clear ht1 ht2
          unfold Nd.v at HA
          revert HA HTx hb hYk
          generalize n.ahead k = T
          generalize tsz T = ts
          intro hYk hb HA HTx
          gi_wp2_with (first
            | (refine calls_wide6 ?_; refine (HTx.out _ _ _ HEL.out).mono ?_; rintro e w3 ⟨rfl, hd3⟩; obtain ⟨fn, tmps, assign, body, hy, hR⟩ := hYk.out w3 (HJ.out _ wr w3 (HE2.out ▸ HJ2.out) (bn_then HB2.out (below_drewN6 hd3))))
            | (refine calls_wide6 ?_; refine (HA.out _ HRN.out.s).mono ?_; rintro e w2 ⟨pq, cq, rfl, hel, -, hb2⟩; have HEL : Veil _ := ⟨hel⟩; have HB2 : Veil _ := ⟨hb2⟩; clear hel hb2))
          refine hR.mono ?_
          rintro e W3 (⟨rfl, hj'⟩ | ⟨rfl, hjx⟩)
          · gi_wp2
            go_roundw
            case rel => exact ⟨k + 1, by omega, by go_num, by rw [← Nat.add_assoc, HE2.out]; exact hj'⟩
            case measure => simp [intOf]; omega
          · gi_wp2
            refine bodyPost_ret (results_none rfl _ _ _) rfl ?_
            exact ⟨⟨_, rfl⟩, .inr ⟨k, by omega, hjx⟩⟩
        · obtain rfl : k = n.ds.length := by omega
          gi_wp2
          go_end0
          exact ⟨⟨_, rfl⟩, .inl HJ2.out⟩
end Go.Proofs.Ytalnmaoidaldhaa

/- A node's bytes, part by part; the walk of Size. -/
namespace Go.Proofs.Ytalnmaoidaldhaa
open Go Go.RowKit Sm
attribute [local go_sem] Oper.semAt_some

def txB (T : List (List UInt8)) : List UInt8 := T.flatMap fun s => putB s.length 1 ++ s
theorem txB_len (T : List (List UInt8)) : (txB T).length = tsz T := by
  induction T with
  | nil => rfl
  | cons s r ih =>
    simp only [txB, tsz, List.flatMap_cons, List.length_append, putB_length, List.map_cons, List.sum_cons] at ih ⊢
    omega
theorem txB_take (T : List (List UInt8)) (k : Nat) (h : k < T.length) : txB (T.take (k + 1)) = txB (T.take k) ++ putB (T.getD k []).length 1 ++ T.getD k [] := by
  have e : T.take (k + 1) = T.take k ++ [T.getD k []] := by
    rw [List.take_add_one]; simp [List.getD, h]
  rw [e]; simp [txB]
def Nd.partB (n : Nd) (k : Nat) : List UInt8 := if k < n.ps.length then txB [(n.ps.getD k Pr.zero).k, (n.ps.getD k Pr.zero).v] else txB (n.ahead k) ++ putB (n.ds.getD k 0) 4
theorem partB_len (n : Nd) (k : Nat) : (n.partB k).length = n.part k := by
  unfold Nd.partB Nd.part
  split
  · rw [txB_len]
  · rw [List.length_append, txB_len, putB_length]
def encP (n : Nd) (k : Nat) : List UInt8 := putB (n.ps.length + n.ds.length) 1 ++ (List.range k).flatMap n.partB
theorem encP_zero (n : Nd) : encP n 0 = putB (n.ps.length + n.ds.length) 1 := by simp [encP]
theorem encP_succ (n : Nd) (k : Nat) : encP n (k + 1) = encP n k ++ n.partB k := by
  unfold encP
  rw [List.range_succ]
  simp
theorem enc_leaf {n : Nd} (h : n.ds.length = 0) : n.enc = encP n (n.ps.length + n.ds.length) := by
  have h' : ∀ k, k ≤ n.ps.length → psB n.ps k = encP n k := by
    intro k
    induction k with
    | zero => intro _; simp [psB, encP, h]
    | succ k ih =>
      intro hk
      rw [psB_succ n.ps k (by omega), encP_succ, ih (by omega), Nd.partB, if_pos (by omega)]
      simp [txB]
  rw [Nd.enc, if_pos h, h, Nat.add_zero, h' _ (Nat.le_refl _)]
theorem enc_branch {n : Nd} (h : n.ps.length = 0) (hkd : n.ks.length + 1 = n.ds.length) : n.enc = encP n (n.ps.length + n.ds.length) := by
  have h' : ∀ k, k ≤ n.ks.length → bsB n k = encP n (k + 1) := by
    intro k
    induction k with
    | zero =>
      intro _
      rw [encP_succ, encP_zero, Nd.partB, if_neg (by omega), Nd.ahead, if_pos (.inl rfl), h, Nat.zero_add]
      simp [bsB, txB]
    | succ k ih =>
      intro hk
      rw [bsB_succ, encP_succ, ih (by omega), Nd.partB, if_neg (by omega), Nd.ahead, if_neg (by omega)]
      simp [txB]
  rw [Nd.enc, if_neg (by omega), h, Nat.zero_add, ← hkd, h' _ (Nat.le_refl _)]
theorem Nd.right_xd {n : Nd} (h : n.right = true) : n.ps.length = 0 ∨ n.ds.length = 0 := by
  rcases Bool.or_eq_true_iff.1 h with h | h
  · exact Or.inr (n.leaf_iff.1 h).1.2.1
  · exact Or.inl (n.branch_iff.1 h).1.1
theorem enc_right {n : Nd} (h : n.right = true) : n.enc = encP n (n.ps.length + n.ds.length) := by
  rcases Bool.or_eq_true_iff.1 h with h | h
  · exact enc_leaf (n.leaf_iff.1 h).1.2.1
  · exact enc_branch (n.branch_iff.1 h).1.1 (n.branch_iff.1 h).1.2.2.2
theorem part_le {n : Nd} (hok : n.Ok) (hkd : n.ds.length = 0 ∨ n.ks.length + 1 = n.ds.length) {k : Nat} (hk : k < n.ps.length + n.ds.length) (hx : n.ps.length = 0 ∨ n.ds.length = 0) : n.part k ≤ 2000006 := by
  unfold Nd.part
  split
  · rename_i h
    obtain ⟨h1, h2⟩ := hok.pt _ (getD_mem h Pr.zero)
    simp only [tsz, List.map_cons, List.map_nil, List.sum_cons, List.sum_nil]
    omega
  · have h1 := tsz_le (n.ahead k) (Nd.ahead_mem (by omega) hok.kt)
    have h2 := n.ahead_len k
    have h3 : (n.ahead k).length * 1000001 ≤ 1 * 1000001 := Nat.mul_le_mul_right _ h2
    omega
theorem encP_len {n : Nd} (hok : n.Ok) (hkd : n.ds.length = 0 ∨ n.ks.length + 1 = n.ds.length) (hx : n.ps.length = 0 ∨ n.ds.length = 0) : ∀ k, k ≤ n.ps.length + n.ds.length → (encP n k).length ≤ 1 + k * 2000006
  | 0, _ => by simp [encP]
  | k + 1, hk => by
    have ih := encP_len hok hkd hx k (by omega)
    have := part_le hok hkd (show k < n.ps.length + n.ds.length by omega) hx
    rw [encP_succ, List.length_append, partB_len]
    omega

theorem results_int6 {fn : Func} {p : Tmp} {tmps : Array Value} {w : World} {x : Value} (h : fn.results = #[.tmp p]) (hp : tmps.getD p undef = x) : (results fn tmps).run Try.prog w = .ok x w := by
  rw [results_tmp h]
  simpa using hp
/-- Between two rounds: the sum's box, the iterator's. -/
structure SizI (w : World) (B Bx : Nat) (n : Nd) (a : NdP) (s : Nat) (A : World) : Prop where
  s : A.heap[B]? = some (.cells #[.int .i64 s] 3 (0, 0))
  x : ReadsN Bx n a A
  t : Turned (fun _ => False) w A
theorem SizI.booked {w : World} {B Bx : Nat} {n : Nd} {a : NdP} {s : Nat} {A A' : World} {C : Nat} (h : SizI w B Bx n a s A) (hb : Booked C A A') (hC : w.heap.size ≤ C) : SizI w B Bx n a s A' :=
  ⟨hb.heap h.s, h.x.booked hb, hb.turned h.t hC⟩
theorem ReadsN.apart {Bx : Nat} {n : Nd} {a : NdP} {w W W' : World} (h : ReadsN Bx n a W) (hn : NdAt w n a) {F : Nat → Prop} (ht : Turned F W W') (hF : ∀ k, F k → w.heap.size ≤ k) (hB : ¬ F Bx) : ReadsN Bx n a W' :=
  ⟨ht.heap h.b hB, h.s.turned ht hF hn⟩

set_option maxRecDepth 20000 in
set_option maxHeartbeats 2000000 in
theorem size_of {w : World} {n : Nd} {a : NdP} (h : NdAt w n a) (hf : SlOk a.pk n.ks.length a.ck) (hok : Veil n.Ok) :
    Calls Try.prog 29 #[n.v a] w fun e w' => e = .returned (.int .i64 n.size) ∧ Below w.heap.size w w' := by
  refine calls_of_wp_marks Try.func29 rfl ?_
  simp only [Try.ntmps29, List.size_toArray, List.length_cons, List.length_nil, Nat.reduceAdd, Nat.reduceSub, Array.replicate_succ, Array.replicate_zero, List.push_toArray, List.append_toArray, List.nil_append, List.cons_append]
  have HRt : Veil (∀ w, NdAt w n a → Calls Try.prog 26 #[n.v a] w fun e w' => e = .returned (.bool n.right) ∧ Below w.heap.size w w') := ⟨fun w h => nright_of h hok⟩
  have HPa : Veil (∀ w, NdAt w n a → Calls Try.prog 34 #[n.v a] w fun e w' => ∃ Bx, e = .returned (.func (.func 49) #[] #[.pointer (some ⟨Bx, 0, none⟩)]) ∧ ReadsN Bx n a w' ∧ Below w.heap.size w w') := ⟨fun w h => partsN_of h⟩
  have HS : Veil (n.right = true → (∀ Bx, Seq Try.prog 49 #[.pointer (some ⟨Bx, 0, none⟩)] (handsQ n) (n.ps.length + n.ds.length) (ReadsN Bx n a)) ∧ n.size = (encP n (n.ps.length + n.ds.length)).length ∧ (∀ k, k < n.ps.length + n.ds.length → n.part k ≤ 2000006) ∧ ∀ k, k ≤ n.ps.length + n.ds.length → (encP n k).length ≤ 1 + k * 2000006) := ⟨fun hr =>
    ⟨fun Bx => parts_seq Bx n a hok hf (Nd.right_xd hr) (Nd.right_kd hr), by rw [Nd.size, if_pos hr, enc_right hr], fun k hk => part_le hok.out (Nd.right_kd hr) hk (Nd.right_xd hr), encP_len hok.out (Nd.right_kd hr) (Nd.right_xd hr)⟩⟩
  have HZ0 : Veil (n.right = false → n.size = 0) := ⟨fun hr => by rw [Nd.size, if_neg (by simp [hr])]⟩
  have HL0 : Veil ((encP n 0).length = 1) := ⟨by simp [encP_zero]⟩
  have HLs : Veil (∀ k, (encP n (k + 1)).length = (encP n k).length + n.part k) := ⟨fun k => by rw [encP_succ, List.length_append, partB_len]⟩
  have hP : n.ps.length ≤ 100000 := hok.out.p
  have hD : n.ds.length ≤ 100000 := hok.out.d
  clear hok hf
  revert HRt HS HZ0
  generalize n.right = r
  generalize n.size = sz
  intro HRt HS HZ0
  have HH : Veil _ := ⟨h⟩
  have HB : Veil _ := ⟨NdBox.new h⟩
  obtain ⟨W1, hW1⟩ : ∃ W1, w.alloc (.cells #[.slice a.pp n.ps.length a.cp, .slice a.pk n.ks.length a.ck, .slice a.pd n.ds.length a.cd] 26) = W1 := ⟨_, rfl⟩
  rw [hW1] at HB
  obtain ⟨a0, a1, a2⟩ := HB.out.cells
  clear h
  have HV : Veil (n.v a = .agg #[.slice a.pp n.ps.length a.cp, .slice a.pk n.ks.length a.ck, .slice a.pd n.ds.length a.cd]) := ⟨rfl⟩
  unfold Nd.v at *
  cases r
  · obtain rfl : sz = 0 := HZ0.out rfl
    clear HS HZ0
    go_wp2_with (go_at_call 26; refine (HRt.out _ HB.out.s).mono ?_; rintro e w2 ⟨rfl, hb⟩; replace HB : Veil _ := ⟨HB.out.below hb⟩; clear hb a0 a1 a2; obtain ⟨a0, a1, a2⟩ := HB.out.cells)
    exact leaves_none (results_int6 rfl rfl) ⟨rfl, HB.out.x⟩
  · obtain ⟨hSeq, rfl, hpl, hel⟩ := HS.out rfl
    have HSq : Veil _ := ⟨hSeq⟩
    have HPL : Veil _ := ⟨hpl⟩
    have HEL : Veil _ := ⟨hel⟩
    clear HS HZ0 hSeq hpl hel
    unfold handsQ at HSq
    obtain ⟨N, hN⟩ : ∃ N, n.ps.length + n.ds.length = N := ⟨_, rfl⟩
    rw [hN] at HSq HPL HEL
    rw [hN]
    have HN : Veil (N ≤ 200000) := ⟨by omega⟩
    clear hN
    revert HEL; revert HPL; revert HSq; revert HLs; revert HL0
    generalize n.part = part
    generalize (fun k => (encP n k).length) = L0
    have HLE : Veil (∃ L : Nat → Nat, ∀ k, (encP n k).length = L k) := ⟨⟨_, fun _ => rfl⟩⟩
    obtain ⟨L, hL⟩ := HLE.out
    simp only [hL]
    clear HLE hL
    intro HL0 HLs HSq HPL HEL
    go_wp2_with (first
      | (go_at_call 34; refine (HPa.out _ (HB.out.s.below hb3)).mono ?_; rintro e w4 ⟨Bx, rfl, hrd, hb4⟩)
      | (go_at_call 26; refine (HRt.out _ HB.out.s).mono ?_; rintro e w2 ⟨rfl, hb⟩; replace HB : Veil _ := ⟨HB.out.below hb⟩; obtain ⟨w3, hw3⟩ : ∃ w3, w2.alloc (.cells #[.int .i64 1] 3) = w3 := ⟨_, rfl⟩; have hb3 : Below w2.heap.size w2 w3 := (by rw [← hw3]; exact below_al (Below.refl _ _) _); have hs3 : w3.heap[w2.heap.size]? = some (.cells #[.int .i64 1] 3 (0, 0)) := (by rw [← hw3]; exact heap_alloc_new _ _); clear hb a0 a1 a2; obtain ⟨a0, a1, a2⟩ := (HB.out.below hb3).cells))
    obtain ⟨B, hB⟩ : ∃ B, w2.heap.size = B := ⟨_, rfl⟩
    have hx4 : Turned (fun _ => False) w w4 := Turned.new (bn_then (bn_then HB.out.x hb3) hb4)
    have hs4 : w4.heap[B]? = some (.cells #[.int .i64 1] 3 (0, 0)) := by rw [← hB]; exact (hb4.block _ (lt_of_heap hs3)).trans hs3
    have HBz : Veil (w.heap.size < B ∧ B < w4.heap.size ∧ Bx ≠ B) := ⟨by
      have h1 := lt_of_heap HB.out.b
      have h2 := lt_of_heap hs4
      refine ⟨by omega, h2, fun e => ?_⟩
      have := hrd.b
      rw [e, hs4] at this
      simp at this⟩
    have hI : SizI w B Bx n a 1 w4 := ⟨hs4, hrd, hx4⟩
    rw [hB]
    clear a0 a1 a2 hs3 hs4 hb3 hb4 hx4 hrd hw3 hB HB hW1 HRt HPa
    refine wp_range_seq (gf := 49) (lb := #[.pointer (some ⟨Bx, 0, none⟩)]) rfl (enters_of Try.func49 (by kernel_rfl) rfl)
      (HSq.out Bx) (fun k => rfl)
      (fun k A => k ≤ N ∧ SizI w B Bx n a (L k) A)
      (fun cd k A => False) ?hI ?hIx ?hF ?h0 ?hround ?hdone ?hstop
    case hI => rintro k A A' ⟨h0, h1⟩ hb; exact ⟨h0, h1.booked hb (by have := HBz.out; omega)⟩
    case hIx => rintro cd k A A' h hb; exact h
    case hF => rintro k A ⟨_, h⟩; exact h.x
    case h0 => exact ⟨Nat.zero_le _, by rw [HL0.out]; exact hI⟩
    case hround =>
      rintro l m k A hl2 hlt ⟨hk0, hi1⟩
      simp only [List.zip_cons_cons, List.zip_nil_right, List.foldl_cons, List.foldl_nil, List.setIfInBounds_toArray, List.set_cons_succ, List.set_cons_zero]
      have HI1 : Veil _ := ⟨hi1⟩
      have hp := HPL.out k hlt
      have hl := HEL.out k (by omega)
      have hn := HN.out
      have HLk := HLs.out k
      clear hI hi1
      revert hp hl HLk HI1
      generalize part k = pk
      generalize hLk : L k = lk
      intro HI1 hp hl HLk
      gi_wp2
      refine ⟨KeepsFrom.refl _ _, fun A2 hbk hsz => ?_⟩
      have HI2 : Veil _ := ⟨HI1.out.booked hbk (by have := HBz.out; omega)⟩
      clear hbk hsz HI1
      have q1 := cell_row6 HI2.out.s
      have f1 : A2.frozen? ⟨B, 0, none⟩ = false := frozen_whole HI2.out.s _
      gi_wp2
      have hT := (Turned.refl (· = B) A2).setCell (p := ⟨B, 0, none⟩) rfl (.int .i64 ((lk + pk : Nat) : Int))
      have e : Value.int .i64 ((lk : Int) + pk) = .int .i64 ((lk + pk : Nat) : Int) := by go_num
      have hz := HBz.out
      first | rw [e] | skip
      refine ⟨keepsFrom_turned6 hT (fun j hj => .inl (by omega)), by omega, ⟨?_, HI2.out.x.apart HH.out hT (fun k hk => by omega) hz.2.2, HI2.out.t.then hT (fun k hk e => by omega)⟩⟩
      rw [HLk]
      exact heap_setCell_at HI2.out.s 0 _
    case hdone =>
      rintro Dd A hDd ⟨_, h1⟩ hdd
      have HI : Veil _ := ⟨h1⟩
      have HD : Veil _ := ⟨hdd⟩
      have q1 := cell_row6 h1.s
      clear h1 hdd hI
      go_wp2
      try rw [Exit.noGoto_ret]
      refine leaves_mark (D := Dd) (B := w.heap.size) HD.out (by have := HBz.out; omega) ?_
      intro w' hb _
      refine leaves_none (results_int6 rfl rfl) ⟨rfl, ?_⟩
      exact (hb.turned HI.out.t (Nat.le_refl _)).toBelow (Nat.le_refl _) (fun _ _ h => h.elim)
    case hstop => rintro Dd cd k A hDd hlt h hdd; exact h.elim
end Go.Proofs.Ytalnmaoidaldhaa

/- Texts appended to bytes; the walk of withTexts. -/
namespace Go.Proofs.Ytalnmaoidaldhaa
open Go Go.RowKit Sm
attribute [local go_sem] Oper.semAt_some

/-! ### append of a text to bytes -/
theorem run_append_room_text {P : Program} (w : World) (t u ty e : TypeId) (i : TypeInfo) (ht : P.underlying t = some (.slice e)) (hu : P.underlying u = some .string) (hi : P.info? e = some i) (hs1 : i.size = 1)
    (g sLen sCap : Nat) (cur : Array Value) (hg : w.heap[g]? = some (.cells cur e (0, 0))) (s : List UInt8)
    (hroom : sLen + s.length ≤ sCap) (hfit : sLen + s.length ≤ cur.size) :
    (Builtin.append_ #[t, u] ty #[.slice (some ⟨g, 0, none⟩) sLen sCap, .string ⟨s.toArray⟩]).run P w =
      .ok (.slice (some ⟨g, 0, none⟩) (sLen + s.length) sCap) (w.setRow g (cur.toList.take sLen ++ u8s s ++ cur.toList.drop (sLen + s.length)).toArray) := by
  have hl : (u8s s).length = s.length := by simp [u8s]
  have hst := run_storeCells_at P g sLen e (u8s s) 0 cur w hg (by rw [hl]; simpa using hfit) (fun v hv => by simp only [u8s, List.mem_map] at hv; obtain ⟨c, _, rfl⟩ := hv; rfl)
  simp only [Nat.add_zero, hl] at hst
  have hn : (⟨s.toArray⟩ : ByteArray).size = s.length := by simp [ByteArray.size]
  simp [Builtin.append_, run_underlying ht, run_underlying hu, sizeOf, typeInfo, hi, Builtin.lenOf, Builtin.firstCells, hn, hroom, Addr.add_lit, hs1]
  have hk : List.take s.length (List.map (fun b : UInt8 => Value.int IntKind.u8 (b.toNat : Int)) s) = u8s s := by
    rw [List.take_of_length_le (by simp)]; rfl
  rw [hk, hst]
  simp
theorem run_append_grow_text {P : Program} (w : World) (t u ty e : TypeId) (i : TypeInfo) (z : Value) (ht : P.underlying t = some (.slice e)) (hu : P.underlying u = some .string) (hi : P.info? e = some i) (hz : i.zero = some z) (hs1 : i.size = 1)
    (b : Addr) (sLen sCap : Nat) (olds : List Value) (hlo : olds.length = sLen) (holds : ∀ j v, olds[j]? = some v → w.cell? (b.add j) = some v) (s : List UInt8)
    (hg : sCap < sLen + s.length) (h63 : ((sLen + s.length : Nat) : Int) ≤ 9223372036854775807) (hfit : Builtin.nextslicecap (sLen + s.length) sCap * i.bytes ≤ 281474976710656) :
    (Builtin.append_ #[t, u] ty #[.slice (some b) sLen sCap, .string ⟨s.toArray⟩]).run P w =
      .ok (.slice (some ⟨w.heap.size, 0, none⟩) (sLen + s.length) (grownCap w (sLen + s.length) sCap e))
        (w.drew.alloc (.cells (olds.toArray ++ (u8s s).toArray ++ Builtin.zeroCells z.cells (grownCap w (sLen + s.length) sCap e - (sLen + s.length))) e)) := by
  have hn : ¬ (sLen + s.length ≤ sCap) := by omega
  have h63' : ¬ (9223372036854775807 < ((sLen : Int) + (s.length : Int))) := by omega
  have h48' : ¬ (281474976710656 < Builtin.nextslicecap (sLen + s.length) sCap * i.bytes) := by omega
  have hz' : (⟨s.toArray⟩ : ByteArray).size = s.length := by simp [ByteArray.size]
  have hfo := run_firstCells_some (P := P) w.drew 1 sLen b sLen sCap olds (by simpa using hlo) (by simpa using holds)
  simp [Builtin.append_, run_underlying ht, run_underlying hu, sizeOf, typeInfo, zeroValue, hi, hz, hs1, Builtin.lenOf, hz', hn, h63', h48', Question.forced, hfo, newRow, grownCap]
  simp [Builtin.firstCells]
  congr 2
  apply Array.ext'
  simp [u8s, u8v, List.append_assoc]
theorem run_append_own_text {P : Program} (w : World) (base : Nat) (t u ty e : TypeId) (i : TypeInfo) (z : Value) (bytes : Nat) (ht : P.underlying t = some (.slice e)) (hu : P.underlying u = some .string) (hi : P.info? e = some i) (hz : i.zero = some z)
    (hs1 : i.size = 1) (hby : i.bytes = bytes) (hzs : z.cells.size = 1)
    (v : Value) (n : Nat) (xs : List Value) (hown : w.ownsRow base e 1 v n xs) (s : List UInt8)
    (h63 : n + s.length ≤ maxLen) (hbytes : (n + s.length) * bytes ≤ 140737488355328) (hbase : base ≤ w.heap.size) :
    ∃ v' w', (Builtin.append_ #[t, u] ty #[v, .string ⟨s.toArray⟩]).run P w = .ok v' w' ∧ w'.ownsRow base e 1 v' (n + s.length) (xs ++ u8s s) ∧ w.grownBy w' v.ownBlock ∧
      (v'.ownBlock = v.ownBlock ∨ v'.ownBlock = some w.heap.size) := by
  subst hby
  have hl : (u8s s).length = s.length := by simp [u8s]
  have hxn : xs.length = n := by have := hown.1; omega
  have hsmall : n + s.length ≤ 9223372036854775807 := by simp only [maxLen] at h63; omega
  have hlen : (xs ++ u8s s).length = (n + s.length) * 1 := by rw [List.length_append, hxn, hl, Nat.mul_one]
  have grown : ∀ (old : Nat), old < n + s.length → ∀ (row : Option Nat),
      (w.drew.alloc (.cells (xs.toArray ++ (u8s s).toArray ++ Builtin.zeroCells z.cells (grownCap w (n + s.length) old e - (n + s.length))) e)).ownsRow base e 1
        (.slice (some ⟨w.heap.size, 0, none⟩) (n + s.length) (grownCap w (n + s.length) old e)) (n + s.length) (xs ++ u8s s) ∧
      w.grownBy (w.drew.alloc (.cells (xs.toArray ++ (u8s s).toArray ++ Builtin.zeroCells z.cells (grownCap w (n + s.length) old e - (n + s.length))) e)) row := by
    intro old ho row
    have hge := grownCap_ge w (n + s.length) old e
    have hcm : grownCap w (n + s.length) old e ≤ maxLen := grownCap_le_maxLen w (n + s.length) old e h63
    refine ⟨⟨hlen, .inr ⟨w.heap.size, _, _, rfl, hbase, heap_alloc_new w.drew _, hge, hcm, ?_, ?_⟩⟩, ⟨rfl, rfl, rfl, by simp, fun k hk _ => by first | exact heap_alloc_old w.drew _ hk | exact heap_alloc_old w.drew _ _ hk⟩⟩
    · simp only [Array.size_append, List.size_toArray, size_zeroCells, hzs, hxn, hl]
      omega
    · simp only [Array.toList_append, List.append_assoc]
      rw [← List.append_assoc, ← hlen]
      exact List.take_left
  rcases hown.2 with ⟨rfl, rfl⟩ | ⟨g, cap, cur, rfl, hbg, hg, hnc, hcm, hcs, htake⟩
  · obtain rfl : xs = [] := List.eq_nil_of_length_eq_zero hxn
    by_cases hm : s.length = 0
    · obtain rfl : s = [] := List.eq_nil_of_length_eq_zero hm
      refine ⟨.slice none 0 0, w, ?_, World.ownsRow_nil w base e 1, World.grownBy.refl _ _, Or.inl rfl⟩
      have he : (⟨([] : List UInt8).toArray⟩ : ByteArray) = ByteArray.empty := rfl
      rw [he]
      simp [Builtin.append_, run_underlying ht, run_underlying hu, sizeOf, typeInfo, hi, Builtin.lenOf, Builtin.firstCells]
    · have hsz : (⟨s.toArray⟩ : ByteArray).size = s.length := by simp [ByteArray.size]
      have hr := run_append_nil_string (P := P) (w := w) t u ty e i z ht hu hi hz ⟨s.toArray⟩ (by omega) (by omega) (by rw [hsz]; have hb := hbytes; simp only [Nat.zero_add] at hb; omega)
      have hgr := grown 0 (by omega) (Value.ownBlock (.slice none 0 0))
      simp only [Nat.zero_add, List.nil_append, Array.empty_append] at hgr ⊢
      rw [hsz] at hr
      have hx : Array.map (fun b : UInt8 => Value.int IntKind.u8 (b.toNat : Int)) s.toArray = (u8s s).toArray := by
        apply Array.ext'
        simp [u8s, u8v]
      simp only [hx] at hr
      exact ⟨_, _, hr, hgr.1, hgr.2, Or.inr rfl⟩
  · by_cases hroom : n + s.length ≤ cap
    · have hr := run_append_room_text (P := P) w t u ty e i ht hu hi hs1 g n cap cur hg s hroom (by rw [hcs]; omega)
      refine ⟨_, _, hr, ⟨hlen, .inr ⟨g, cap, _, rfl, hbg, setRow_heap w g cur _ e _ hg, hroom, hcm, ?_, ?_⟩⟩, ⟨rfl, rfl, rfl, by simp, fun k _ hk => setRow_other w g k _ (fun e => hk (by simp [Value.ownBlock, e]))⟩, Or.inl rfl⟩
      · simp only [List.size_toArray, List.length_append, List.length_take, List.length_drop, Array.length_toList, hl]
        omega
      · rw [Nat.mul_one] at htake
        rw [htake, ← hlen]
        exact List.take_left
    · have holds : ∀ j u, xs[j]? = some u → w.cell? ((⟨g, 0, none⟩ : Addr).add j) = some u := hown.cells (g := g) rfl
      have hr := run_append_grow_text (P := P) w t u ty e i z ht hu hi hz hs1 ⟨g, 0, none⟩ n cap xs hxn holds s (by omega) (by omega) (growslice_fits (by omega) hbytes)
      have hgr := grown cap (by omega) (Value.ownBlock (.slice (some ⟨g, 0, none⟩) n cap))
      exact ⟨_, _, hr, hgr.1, hgr.2, Or.inr rfl⟩

theorem wpList_append_text {w : World} {ops : Array Oper} {rest : List Oper} {o : Oper} {a : Act} {Q : Exit → Act → World → Prop} (hgd : o.guard = none) (s x : Operand)
    (ho : o.op = .call { callee := .builtin .append, args := #[s, x], argTypes := #[58, 9] })
    (base : Nat) (v : Value) (L T : List UInt8) (hs : a.eval s = v) (hown : OwnB w base v L) (hx : a.eval x = .string ⟨T.toArray⟩) (hL : L.length + T.length ≤ 100000000000) (hbase : base ≤ w.heap.size)
    (h : ∀ v' w', OwnB w' base v' (L ++ T) → w.grownBy w' v.ownBlock → (∀ k, v'.ownBlock = some k → v.ownBlock = some k ∨ w.heap.size ≤ k) → wpList Try.prog ops Q rest (a.put o.dst v') w') : wpList Try.prog ops Q (o :: rest) a w := by
  obtain ⟨i0, hi0, hz0, hz1, hz2⟩ := info_parts info_u8
  obtain ⟨v', w', hr, h1, h2, h3⟩ := run_append_own_text (P := Try.prog) w base 58 9 o.type 5 i0 _ 1 Try.underlying58 Try.underlying9 hi0 hz0 hz1 hz2 rfl v L.length (u8s L) hown T (by unfold maxLen; omega) (by omega) hbase
  refine wpList_plain hgd fun K hK => ?_
  unfold Oper.wp execOp
  simp only [ho, resolve, invoke, builtin, Sem.run_bind, Sem.run_pure, Result.andThen_ok, List.map_toArray, List.map_cons, List.map_nil, hs, hx, hr]
  refine hK _ _ (h v' w' ?_ h2 fun k hk => ?_)
  · unfold OwnB
    simpa [u8s] using h1
  · rcases h3 with h3 | h3
    · exact .inl (by rw [← h3]; exact hk)
    · right; rw [h3] at hk; cases hk; exact Nat.le_refl _
end Go.Proofs.Ytalnmaoidaldhaa

/- The walk of withTexts. -/
namespace Go.Proofs.Ytalnmaoidaldhaa
open Go Go.RowKit Sm
attribute [local go_sem] Oper.semAt_some

theorem nbyte0 (n : Nat) : (n : Int) % 256 = ((byteAt n 0).toNat : Int) := by
  simp only [byteAt, Nat.toUInt8, UInt8.toNat_ofNat', Nat.pow_zero, Nat.div_one]
  have : (2 : Nat) ^ 8 = 256 := rfl
  rw [this]; omega
theorem putB_one (n : Nat) : putB n 1 = [byteAt n 0] := rfl
/-- Bytes that a call goes on with: its own, grown. -/
structure OnB (w : World) (base : Nat) (v0 : Value) (v : Value) (L : List UInt8) (A : World) : Prop where
  o : OwnB A base v L
  t : Turned (fun j => v0.ownBlock = some j) w A
  b : ∀ j, v.ownBlock = some j → v0.ownBlock = some j ∨ w.heap.size ≤ j
theorem OnB.grow {w A A1 A' : World} {base : Nat} {v0 v v' : Value} {L L' : List UInt8} (h : OnB w base v0 v L A) (hb : Below A.heap.size A A1) (hg : A1.grownBy A' v.ownBlock) (ho : OwnB A' base v' L') (hv : ∀ j, v'.ownBlock = some j → v.ownBlock = some j ∨ A.heap.size ≤ j) : OnB w base v0 v' L' A' := by
  have ht : Turned (fun j => v.ownBlock = some j) A A' := (Turned.new hb : Turned (fun j => v.ownBlock = some j) A A1).trans (Turned.grown hg (fun j hj _ => hj))
  refine ⟨ho, h.t.then ht (fun k hk e => ?_), fun j hj => ?_⟩
  · rcases h.b k e with h1 | h1
    · exact h1
    · omega
  · rcases hv j hj with h1 | h1
    · exact h.b j h1
    · exact .inr (Nat.le_trans h.t.size h1)

set_option maxRecDepth 20000 in
set_option maxHeartbeats 2000000 in
theorem with_of {w : World} {base : Nat} {v0 : Value} {L : List UInt8} (hown : OwnB w base v0 L) (hbase : base ≤ w.heap.size) {p : Option Addr} {T : List (List UInt8)} (h : Els elK w p T) (hp : ∀ a, p = some a → v0.ownBlock ≠ some a.block) (cap : Nat) (hl : L.length + tsz T ≤ 1000000) (hT : T.length ≤ 10) :
    Calls Try.prog 30 #[v0, .slice p T.length cap] w fun e w' => ∃ v, e = .returned v ∧ OnB w base v0 v (L ++ txB T) w' := by
  have HH : Veil _ := ⟨h⟩
  have HP : Veil _ := ⟨hp⟩
  have HO : Veil _ := ⟨hown⟩
  have HTL : Veil (∀ k, k ≤ T.length → (txB (T.take k)).length ≤ tsz T) := ⟨fun k hk => by
    have e : txB T = txB (T.take k) ++ txB (T.drop k) := by
      unfold txB
      rw [← List.flatMap_append, List.take_append_drop]
    rw [← txB_len T, e, List.length_append]; omega⟩
  clear h hp hown
  go_enter Try.func30, Try.ntmps30
  go_wp2
  go_loopw [0, 9] (fun b i wr => ∃ (k : Nat) (v : Value), k ≤ T.length ∧ i = .int .i64 k ∧ v = b ∧ Veil (OnB w base v0 v (L ++ txB (T.take k)) wr)) (fun _ i _ => T.length - (intOf i).toNat)
  case atStart => exact ⟨0, v0, Nat.zero_le _, rfl, rfl, ⟨by simpa [txB] using HO.out, Turned.refl _ _, fun j hj => .inl hj⟩⟩
  case round =>
    obtain ⟨k, v, hk, rfl, rfl, HI⟩ := hrel
    by_cases hlt : k < T.length
    · obtain ⟨b, o, rfl, hc⟩ := (HH.out.turned HI.out.t HP.out).text (by rintro rfl; simp at hlt)
      have c1 := hc k hlt
      have HTK : Veil _ := ⟨txB_take T k hlt⟩
      have hb1 : (txB (T.take (k + 1))).length ≤ tsz T := HTL.out (k + 1) (by omega)
      rw [HTK.out, List.length_append, List.length_append, putB_length] at hb1
      have HB1 : Veil (L.length + (txB (T.take k)).length + 1 + (T.getD k []).length ≤ 1000000) := ⟨by omega⟩
      clear hc hb1
      revert c1 HTK HB1
      generalize T.getD k [] = s
      generalize hM : txB (T.take k) = M at HI ⊢
      intro c1 HTK HB1
      clear hM
      have hsl : s.length ≤ 1000000 := by have := HB1.out; omega
      have hbyte := nbyte0 s.length
      obtain ⟨W4, hW4⟩ : ∃ W4, wr.alloc (.cells #[.int .u8 ((byteAt s.length 0).toNat : Int)] 5) = W4 := ⟨_, rfl⟩
      have HB4 : Veil (Below wr.heap.size wr W4) := ⟨by rw [← hW4]; exact below_al (Below.refl _ _) _⟩
      have HC4 : Veil (W4.cell? ⟨wr.heap.size, 0, none⟩ = some (.int .u8 ((byteAt s.length 0).toNat : Int))) := ⟨by rw [← hW4]; exact cell_alloc_one _ _ _⟩
      have HO4 : Veil (OwnB W4 base v (L ++ M)) := ⟨(Turned.new HB4.out : Turned (fun _ => False) _ _).ownsRow HI.out.o (fun _ _ h => h)⟩
      have HZ4 : Veil (base ≤ W4.heap.size) := ⟨Nat.le_trans hbase (Nat.le_trans HI.out.t.size HB4.out.size)⟩
      have HS4 : Veil (W4.heap.size = wr.heap.size + 1) := ⟨by rw [← hW4]; simp⟩
      generalize hcb : byteAt s.length 0 = cb at *
      have HCB : Veil _ := ⟨hcb⟩
      clear hcb
      go_wp2_with (first
        | (at_builtin; refine wpList_append_text rfl (.tmp 19) (.tmp 20) rfl base _ _ s rfl HO5.out rfl HL5.out HZ5.out ?_; intro v6 w6 hown6 hgrow6 hv6)
        | (at_builtin; refine wpList_append_u8 rfl (.tmp 13) (.tmp 17) rfl base v (L ++ M) cb rfl HO4.out ⟨wr.heap.size, 0, none⟩ rfl HC4.out (by have := HB1.out; simp only [List.length_append]; omega) HZ4.out ?_; intro g5 c5 w5 hown5 hgrow5 hv5 hlt5; rw [List.length_append] at hown5; have HO5 : Veil _ := ⟨hown5⟩; have HG5 : Veil _ := ⟨hgrow5⟩; have HV5 : Veil _ := ⟨hv5⟩; have HZ5 : Veil (base ≤ w5.heap.size) := ⟨Nat.le_trans HZ4.out hgrow5.size⟩; have HL5 : Veil ((L ++ M ++ [cb]).length + s.length ≤ 100000000000) := (by refine ⟨?_⟩; have := HB1.out; simp only [List.length_append, List.length_cons, List.length_nil]; omega); clear hown5 hgrow5 hv5 hlt5))
      refine ⟨⟨k + 1, v6, by omega, by go_num, rfl, ?_⟩, ?_⟩
      · refine ⟨?_⟩
        have h5 := HI.out.grow HB4.out HG5.out HO5.out (fun j hj => by
          have e : g5 = j := Option.some.inj hj
          subst e
          rcases HV5.out with h | h
          · exact .inl h
          · right; have := HS4.out; omega)
        have h6 := h5.grow (Below.refl _ _) hgrow6 hown6 hv6
        rw [HTK.out, putB_one, HCB.out]
        simpa [List.append_assoc] using h6
      · simp only [intOf]; omega
    · obtain rfl : k = T.length := by omega
      have HI2 : Veil (OnB w base v0 v (L ++ txB T) wr) := ⟨by have := HI.out; rwa [List.take_length] at this⟩
      clear HI
      go_wp2
      go_ret
      exact ⟨v, rfl, HI2.out⟩
end Go.Proofs.Ytalnmaoidaldhaa

/- The walk of Encode. -/
namespace Go.Proofs.Ytalnmaoidaldhaa
open Go Go.RowKit Sm
attribute [local go_sem] Oper.semAt_some

theorem make6 (m : Nat) (hm : m ≤ 1000) (W : World) : (Instr.makeSlice 58 (.int .i64 0) (.int .i64 (m : Int))).run Try.prog W = .ok (.slice (some ⟨W.heap.size, 0, none⟩) 0 m) (W.alloc (.cells (madeCells #[Value.int .u8 0] m) 5)) := by
  obtain ⟨i0, hi, hz0, hz1, hz2⟩ := info_parts info_u8
  have h := run_make (P := Try.prog) W 58 5 i0 (.int .u8 0) Try.underlying58 hi hz0 .i64 .i64 0 (m : Int) (by omega) (by omega) (by rw [hz2]; omega) (by omega)
  rw [hz1, Nat.mul_one, show ((m : Int).toNat) = m by omega] at h
  exact h
theorem made_own (W : World) (m : Nat) (hm : m ≤ 1000) : OwnB (W.alloc (.cells (madeCells #[Value.int .u8 0] m) 5)) W.heap.size (.slice (some ⟨W.heap.size, 0, none⟩) 0 m) [] :=
  ⟨rfl, .inr ⟨W.heap.size, m, _, rfl, Nat.le_refl _, heap_alloc_new _ _, Nat.zero_le _, by unfold maxLen; omega, by simp [madeCells], rfl⟩⟩
theorem putB_four (d : Nat) : putB d 4 = [byteAt d 3, byteAt d 2, byteAt d 1, byteAt d 0] := rfl
theorem byteN (d i q : Nat) (h : 256 ^ i = q) : (d : Int) / (q : Int) % 256 = ((byteAt d i).toNat : Int) := by
  simp only [byteAt, Nat.toUInt8, UInt8.toNat_ofNat', h]
  have : (2 : Nat) ^ 8 = 256 := rfl
  rw [this]; omega

theorem wpList_append_bytes {w : World} {ops : Array Oper} {rest : List Oper} {o : Oper} {a : Act} {Q : Exit → Act → World → Prop} (hgd : o.guard = none) (s x : Operand)
    (ho : o.op = .call { callee := .builtin .append, args := #[s, x], argTypes := #[58, 58] })
    (base : Nat) (v : Value) (L M : List UInt8) (hs : a.eval s = v) (hown : OwnB w base v L) (g : Nat) (hx : a.eval x = .slice (some ⟨g, 0, none⟩) M.length M.length) (hc : w.heap[g]? = some (.cells (u8s M).toArray 5 (0, 0))) (hM : 0 < M.length) (hL : L.length + M.length ≤ 1000000) (hbase : base ≤ w.heap.size)
    (h : ∀ v' w', OwnB w' base v' (L ++ M) → w.grownBy w' v.ownBlock → (∀ k, v'.ownBlock = some k → v.ownBlock = some k ∨ w.heap.size ≤ k) → wpList Try.prog ops Q rest (a.put o.dst v') w') : wpList Try.prog ops Q (o :: rest) a w := by
  obtain ⟨i0, hi0, hz0, hz1, hz2⟩ := info_parts info_u8
  refine wpList_append_lies _ hgd s x 58 ho base 5 i0 _ 1 1 Try.underlying58 hi0 hz0 hz1 hz2 rfl (Nat.le_refl _) v L.length (u8s L) hs hown ⟨g, 0, none⟩ M.length M.length (u8s M) hx (by simp [u8s]) (news_whole hc) (fun u hu => by simp only [u8s, List.mem_map] at hu; obtain ⟨c, _, rfl⟩ := hu; rfl) hM (by unfold maxLen; omega) (by omega) hbase _ rfl ?_
  intro g' cap w' h1 h2 h3 h4
  refine h _ w' ?_ h2 (own_here h3)
  unfold OwnB
  simpa [u8s] using h1

/-- Between two rounds: the node's box, the bytes made so far. -/
structure EncI (w : World) (n : Nd) (a : NdP) (H : Nat) (v : Value) (L : List UInt8) (A : World) : Prop where
  b : NdBox w n a A
  o : OwnB A H v L
  z : w.heap.size < H ∧ H ≤ A.heap.size
section
variable {w A A1 A' : World} {n : Nd} {a : NdP} {H : Nat} {v v' : Value} {L L' : List UInt8}
theorem EncI.below (h : EncI w n a H v L A) (hb : Below A.heap.size A A') : EncI w n a H v L A' :=
  ⟨h.b.below hb, (Turned.new hb : Turned (fun _ => False) _ _).ownsRow h.o (fun _ _ h => h), h.z.1, Nat.le_trans h.z.2 hb.size⟩
theorem EncI.go (h : EncI w n a H v L A) (h0 : NdAt w n a) (hg : OnB A H v v' L' A') : EncI w n a H v' L' A' :=
  have hF : ∀ k, v.ownBlock = some k → w.heap.size < k := fun k hk => Nat.lt_of_lt_of_le h.z.1 (own_lt h.o hk).1
  ⟨⟨hg.t.heap h.b.b (fun e => by have := hF _ e; omega), h.b.x.trans (hg.t.toBelow h.b.x.size (fun k _ e => by have := hF _ e; omega)), h.b.s.turned hg.t (fun k e => by have := hF _ e; omega) h0⟩,
    hg.o, h.z.1, Nat.le_trans h.z.2 hg.t.size⟩
theorem EncI.grow (h : EncI w n a H v L A) (h0 : NdAt w n a) (hb : Below A.heap.size A A1) (hg : A1.grownBy A' v.ownBlock) (ho : OwnB A' H v' L') (hv : ∀ j, v'.ownBlock = some j → v.ownBlock = some j ∨ A.heap.size ≤ j) : EncI w n a H v' L' A' :=
  h.go h0 ((⟨h.o, Turned.refl _ _, fun _ h => .inl h⟩ : OnB A H v v L A).grow hb hg ho hv)
end

set_option maxRecDepth 20000 in
set_option maxHeartbeats 4000000 in
theorem encode_of {w : World} {n : Nd} {a : NdP} (h : NdAt w n a) (hf : SlOk a.pk n.ks.length a.ck) (hok : Veil n.Ok) :
    Calls Try.prog 13 #[n.v a] w fun e w' => e = .returned n.encR ∧ Below w.heap.size w w' := by
  have HSz : Veil (∀ w, NdAt w n a → Calls Try.prog 29 #[n.v a] w fun e w' => e = .returned (.int .i64 n.size) ∧ Below w.heap.size w w') := ⟨fun w h => size_of h hf hok⟩
  have HKd : Veil (∀ w, NdAt w n a → Calls Try.prog 25 #[n.v a] w fun e w' => e = .returned (.int .i64 ((if n.right then n.kind else 0 : Nat) : Int)) ∧ Below w.heap.size w w') := ⟨fun w h => kindOf_of h hok⟩
  have HB : Veil _ := ⟨NdBox.new h⟩
  have HH : Veil _ := ⟨h⟩
  obtain ⟨W1, hW1⟩ : ∃ W1, w.alloc (.cells #[.slice a.pp n.ps.length a.cp, .slice a.pk n.ks.length a.ck, .slice a.pd n.ds.length a.cd] 26) = W1 := ⟨_, rfl⟩
  rw [hW1] at HB
  obtain ⟨a0, a1, a2⟩ := HB.out.cells
  clear h
  unfold Nd.encR
  cases hft : n.fits
  · have hsz : n.size = 0 ∨ 237 < n.size := by
      unfold Nd.fits at hft
      unfold Nd.size
      cases hr : n.right
      · left; simp
      · rw [hr] at hft
        simp at hft
        right; simpa using hft
    have hsl : n.size ≤ 9000000000000 := by
      unfold Nd.size
      split
      · exact Nd.enc_le hok.out
      · omega
    clear hft hok hf HKd
    simp only [Bool.false_eq_true, if_false]
    unfold Nd.v at *
    revert hsz hsl HSz
    generalize n.size = sz
    intro HSz hsz hsl
    rcases hsz with rfl | hsz
    · go_enter Try.func13, Try.ntmps13
      go_wp2_with (go_at_call 29; refine (HSz.out _ HB.out.s).mono ?_; rintro e w2 ⟨rfl, hb⟩; replace HB : Veil _ := ⟨HB.out.below hb⟩; clear hb a0 a1 a2)
      refine bodyPost_ret (results_three rfl rfl rfl rfl) rfl ?_
      exact ⟨rfl, HB.out.x⟩
    · have hg : ((sz : Int) == 0) = false := by rw [beq_eq_false_iff_ne]; omega
      go_enter Try.func13, Try.ntmps13
      go_wp2_with (go_at_call 29; refine (HSz.out _ HB.out.s).mono ?_; rintro e w2 ⟨rfl, hb⟩; replace HB : Veil _ := ⟨HB.out.below hb⟩; clear hb a0 a1 a2)
      refine bodyPost_ret (results_three rfl rfl rfl rfl) rfl ?_
      exact ⟨rfl, HB.out.x⟩
  · have hr : n.right = true := by unfold Nd.fits at hft; simp at hft; exact hft.1
    have hel : n.enc.length ≤ 237 := by unfold Nd.fits at hft; simp at hft; exact hft.2
    have hep := n.enc_pos
    have hsz : n.size = n.enc.length := by rw [Nd.size, if_pos hr]
    rw [hsz] at HSz
    rw [hr] at HKd
    have HEQ : Veil (n.enc = encP n (n.ps.length + n.ds.length)) := ⟨enc_right hr⟩
    have HLE : Veil (∀ k, k ≤ n.ps.length + n.ds.length → (encP n k).length ≤ n.enc.length) := ⟨fun k hk => by
      rw [HEQ.out, encP, encP, List.length_append, List.length_append]
      have : (List.range (n.ps.length + n.ds.length)).flatMap n.partB = (List.range k).flatMap n.partB ++ ((List.range (n.ps.length + n.ds.length)).drop k).flatMap n.partB := by
        rw [← List.flatMap_append]
        congr 1
        conv => lhs; rw [← List.take_append_drop k (List.range (n.ps.length + n.ds.length))]
        rw [List.take_range, Nat.min_eq_left hk]
      rw [this, List.length_append]; omega⟩
    have HXD : Veil _ := ⟨Nd.right_xd hr⟩
    have HRK : Veil _ := ⟨Nd.right_kd hr⟩
    have HAh : Veil (∀ k, k < n.ds.length → ∀ W, NdAt W n a → Calls Try.prog 31 #[n.v a, .int .i64 k] W fun e w' => ∃ p c, e = .returned (.slice p (n.ahead k).length c) ∧ Els elK w' p (n.ahead k) ∧ (∀ x, p = some x → n.ks ≠ [] ∧ ∃ y, a.pk = some y ∧ y.block = x.block) ∧ Below W.heap.size W w') := ⟨fun k hk W h => ahead_of h hf hok.out.k k (by have := Nd.right_kd hr; omega) (by have := hok.out.d; omega)⟩
    have hP : n.ps.length ≤ 255 ∧ n.ds.length ≤ 255 := by
      rcases Bool.or_eq_true_iff.1 hr with h | h
      · have := (n.leaf_iff.1 h).1; omega
      · have := (n.branch_iff.1 h).1; omega
    have hdt := hok.out.dt
    clear hft hf hsz
    simp only [if_true] at HKd ⊢
    unfold Nd.v at *
    obtain ⟨sz, hsz⟩ : ∃ sz, n.enc.length = sz := ⟨_, rfl⟩
    rw [hsz] at HSz HLE hel hep
    have hg : ((sz : Int) == 0) = false := by rw [beq_eq_false_iff_ne]; omega
    have hg2 : decide ((237 : Int) < sz) = false := by rw [decide_eq_false_iff_not]; omega
    have hmk : ∀ W : World, (Instr.makeSlice 58 (.int .i64 0) (.int .i64 (sz : Int))).run Try.prog W = .ok (.slice (some ⟨W.heap.size, 0, none⟩) 0 sz) (W.alloc (.cells (madeCells #[Value.int .u8 0] sz) 5)) := make6 sz (by omega)
    clear hsz
    have HSL : Veil (sz ≤ 237) := ⟨hel⟩
    have hnn : (((n.ps.length : Int) + n.ds.length) % 256) = ((byteAt (n.ps.length + n.ds.length) 0).toNat : Int) := by rw [← nbyte0]; omega
    obtain ⟨cb, hcb⟩ : ∃ cb, byteAt (n.ps.length + n.ds.length) 0 = cb := ⟨_, rfl⟩
    rw [hcb] at hnn
    have HCB : Veil _ := ⟨hcb⟩
    clear hcb
    go_enter Try.func13, Try.ntmps13
    go_wp2_with (first
      | (at_builtin; refine wpList_append_u8 rfl (.tmp 21) (.tmp 30) rfl w2.heap.size _ [] cb rfl HO4.out ⟨W3.heap.size, 0, none⟩ rfl HC4.out (by simp) HZ4.out ?_; intro g5 c5 w5 hown5 hgrow5 hv5 hlt5; have HI5 : Veil (EncI w n a w2.heap.size (.slice (some ⟨g5, 0, none⟩) 1 c5) (encP n 0) w5) := (by refine ⟨?_⟩; have hi := HI3.out.grow HH.out HB4.out hgrow5 hown5 (fun j hj => (by have e : g5 = j := Option.some.inj hj; subst e; rcases hv5 with h | h; exact Or.inl h; exact Or.inr (by have := HS4.out; omega))); rw [encP_zero, putB_one, HCB.out]; exact hi); clear hown5 hgrow5 hv5 hlt5 a0 a1 a2; obtain ⟨a0, a1, a2⟩ := HI5.out.b.cells)
      | (go_at_call 29; refine (HSz.out _ HB.out.s).mono ?_; rintro e w2 ⟨rfl, hb⟩; replace HB : Veil _ := ⟨HB.out.below hb⟩; clear hb a0 a1 a2; obtain ⟨W3, hW3⟩ : ∃ W3, w2.alloc (.cells (madeCells #[Value.int .u8 0] sz) 5) = W3 := ⟨_, rfl⟩; obtain ⟨W4, hW4⟩ : ∃ W4, W3.alloc (.cells #[.int .u8 (cb.toNat : Int)] 5) = W4 := ⟨_, rfl⟩; have HB3 : Veil (Below w2.heap.size w2 W3) := ⟨(by rw [← hW3]; exact below_al (Below.refl _ _) _)⟩; have HB4 : Veil (Below W3.heap.size W3 W4) := ⟨(by rw [← hW4]; exact below_al (Below.refl _ _) _)⟩; have HO3 : Veil (OwnB W3 w2.heap.size (.slice (some ⟨w2.heap.size, 0, none⟩) 0 sz) []) := ⟨(by rw [← hW3]; exact made_own w2 sz (by have := HSL.out; omega))⟩; have HO4 : Veil (OwnB W4 w2.heap.size (.slice (some ⟨w2.heap.size, 0, none⟩) 0 sz) []) := ⟨(Turned.new HB4.out : Turned (fun _ => False) _ _).ownsRow HO3.out (fun _ _ h => h)⟩; have HC4 : Veil (W4.cell? ⟨W3.heap.size, 0, none⟩ = some (.int .u8 (cb.toNat : Int))) := ⟨(by rw [← hW4]; exact cell_alloc_one _ _ _)⟩; have HS4 : Veil (W4.heap.size = W3.heap.size + 1) := ⟨(by rw [← hW4]; simp)⟩; have HZ3 : Veil (w2.heap.size ≤ W3.heap.size) := ⟨HB3.out.size⟩; have HZ4 : Veil (w2.heap.size ≤ W4.heap.size) := ⟨Nat.le_trans HB3.out.size HB4.out.size⟩; have HI3 : Veil (EncI w n a w2.heap.size (.slice (some ⟨w2.heap.size, 0, none⟩) 0 sz) [] W3) := ⟨⟨HB.out.below HB3.out, HO3.out, lt_of_heap HB.out.b, HZ3.out⟩⟩; obtain ⟨a0, a1, a2⟩ := (HB.out.below HB3.out).cells))
    clear a0 a1 a2 hW3 hW4 HB3 HB4 HO3 HO4 HC4 HS4 HZ3 HZ4 HI3 HB hnn HCB hmk hg hg2 HSz hW1
    obtain ⟨G, hG⟩ : ∃ G, w2.heap.size = G := ⟨_, rfl⟩
    rw [hG] at HI5
    clear hG
    go_loopw [6, 35] (fun b i wr => ∃ (k : Nat) (v : Value), k ≤ n.ps.length ∧ i = .int .i64 k ∧ v = b ∧ Veil (EncI w n a G v (encP n k) wr)) (fun _ i _ => n.ps.length - (intOf i).toNat)
    case atStart => exact ⟨0, _, Nat.zero_le _, rfl, rfl, HI5⟩
    case round =>
      obtain ⟨k, v, hk, rfl, rfl, HI⟩ := hrel
      by_cases hlt : k < n.ps.length
      · obtain ⟨b, o, hpe, hc⟩ := HI.out.b.s.pair (by rintro he; simp [he] at hlt)
        rw [hpe]
        clear hpe
        obtain ⟨c1, c2⟩ := hc k hlt
        have HSC : Veil _ := ⟨encP_succ n k⟩
        have hle := HLE.out (k + 1) (by omega)
        rw [encP_succ, List.length_append] at hle
        have hpb : n.partB k = txB [(n.ps.getD k Pr.zero).k, (n.ps.getD k Pr.zero).v] := by rw [Nd.partB, if_pos hlt]
        rw [hpb] at HSC hle
        rw [txB_len] at hle
        clear hc hpb
        revert c1 c2 HSC hle
        generalize n.ps.getD k Pr.zero = s
        obtain ⟨sk, sv⟩ := s
        dsimp only
        intro c1 c2 HSC hle
        obtain ⟨W6, hW6⟩ : ∃ W6, wr.alloc (.cells #[.string ⟨sk.toArray⟩, .string ⟨sv.toArray⟩] 39) = W6 := ⟨_, rfl⟩
        obtain ⟨W7, hW7⟩ : ∃ W7, W6.alloc (.cells #[.string ⟨sk.toArray⟩, .string ⟨sv.toArray⟩] 9) = W7 := ⟨_, rfl⟩
        have HB6 : Veil (Below wr.heap.size wr W6) := ⟨by rw [← hW6]; exact below_al (Below.refl _ _) _⟩
        have HB7 : Veil (Below W6.heap.size W6 W7) := ⟨by rw [← hW7]; exact below_al (Below.refl _ _) _⟩
        have HI7 : Veil _ := ⟨HI.out.below (bn_then HB6.out HB7.out)⟩
        have HWT : Veil (Calls Try.prog 30 #[v, .slice (some ⟨W6.heap.size, 0, none⟩) (2 : Nat) (2 : Nat)] W7 fun e w' => ∃ v', e = .returned v' ∧ OnB W7 G v v' (encP n k ++ txB [sk, sv]) w') := ⟨by
          refine with_of HI7.out.o HI7.out.z.2 (p := some ⟨W6.heap.size, 0, none⟩) (T := [sk, sv]) (els_of_block (cur := #[.string ⟨sk.toArray⟩, .string ⟨sv.toArray⟩]) (t := 9) (fr := (0, 0)) (by rw [← hW7]; exact heap_alloc_new _ _) (by rfl)) (fun x hx e => ?_) 2 (by have := HSL.out; omega) (by simp)
          cases hx
          have h1 := (own_lt HI.out.o e).2
          have h2 := HB6.out.size
          dsimp only at h1
          omega⟩
        have h6 : W6.heap[wr.heap.size]? = some (.cells [.string ⟨sk.toArray⟩, .string ⟨sv.toArray⟩].toArray 39 (0, 0)) := by rw [← hW6]; exact heap_alloc_new _ _
        have d1 : W6.cell? ⟨wr.heap.size, 0, none⟩ = some (.string ⟨sk.toArray⟩) := cell_whole h6 0
        have d2 : W6.cell? ⟨wr.heap.size, 1, none⟩ = some (.string ⟨sv.toArray⟩) := cell_whole h6 1
        clear h6 hle
        go_wp2_with (go_at_call 30; refine HWT.out.mono ?_; rintro e w8 ⟨v8, rfl, hon⟩; have HON : Veil _ := ⟨hon⟩; clear hon)
        refine ⟨⟨k + 1, v8, by omega, by go_num, rfl, ⟨by rw [HSC.out]; exact HI7.out.go HH.out HON.out⟩⟩, ?_⟩
        simp only [intOf]; omega
      · obtain rfl : k = n.ps.length := by omega
        obtain ⟨a0, a1, a2⟩ := HI.out.b.cells
        have HI6 : Veil (EncI w n a G v (encP n (n.ps.length + 0)) wr) := ⟨HI.out⟩
        clear HI5 HI hk hlt
        go_wp2
        clear a0 a1 a2
        generalize hW9 : wr = W9 at *
        clear hW9
        go_loopw [6, 50] (fun b i wr => ∃ (k : Nat) (v : Value), k ≤ n.ds.length ∧ i = .int .i64 k ∧ v = b ∧ Veil (EncI w n a G v (encP n (n.ps.length + k)) wr)) (fun _ i _ => n.ds.length - (intOf i).toNat)
        case atStart => exact ⟨0, _, Nat.zero_le _, rfl, rfl, HI6⟩
        case round =>
          obtain ⟨k, v, hk, rfl, rfl, HI⟩ := hrel
          by_cases hlt : k < n.ds.length
          · have hps : n.ps.length + k = k := by have := HXD.out; omega
            have HPS : Veil (n.ps.length + (k + 1) = k + 1) := ⟨by omega⟩
            rw [hps] at HI
            obtain ⟨b, o, hpe, hc⟩ := HI.out.b.s.kid (by rintro he; simp [he] at hlt)
            obtain ⟨a0, a1, a2⟩ := HI.out.b.cells
            rw [hpe] at a2
            have c1 := hc k hlt
            have HSC : Veil _ := ⟨encP_succ n k⟩
            have hle := HLE.out (k + 1) (by omega)
            rw [encP_succ, List.length_append] at hle
            have hpb : n.partB k = txB (n.ahead k) ++ putB (n.ds.getD k 0) 4 := by rw [Nd.partB, if_neg (by omega)]
            rw [hpb] at HSC hle
            rw [List.length_append, txB_len, putB_length] at hle
            have hdk := hdt _ (getD_mem hlt 0)
            clear hc hpb hps
            revert c1 HSC hle hdk
            generalize n.ds.getD k 0 = d
            intro c1 HSC hle hdk
            have HA : Veil (∀ W, NdAt W n a → Calls Try.prog 31 #[.agg #[.slice a.pp n.ps.length a.cp, .slice a.pk n.ks.length a.ck, .slice a.pd n.ds.length a.cd], .int .i64 k] W fun e w' => ∃ p c, e = .returned (.slice p (n.ahead k).length c) ∧ Els elK w' p (n.ahead k) ∧ (∀ x, p = some x → n.ks ≠ [] ∧ ∃ y, a.pk = some y ∧ y.block = x.block) ∧ Below W.heap.size W w') := ⟨HAh.out k hlt⟩
            rw [hpe]
            rw [hpe] at HA
            clear hpe
            have HAL : Veil ((n.ahead k).length ≤ 1) := ⟨n.ahead_len k⟩
            have HLL : Veil ((encP n k).length + (tsz (n.ahead k) + 4) ≤ 237) := ⟨by have := HSL.out; omega⟩
            clear hle
            have e3 : (d : Int) / 16777216 = ((byteAt d 3).toNat : Int) := by have := byteN d 3 16777216 (by decide); omega
            have e2 : (d : Int) / 65536 % 256 = ((byteAt d 2).toNat : Int) := byteN d 2 65536 (by decide)
            have e1 : (d : Int) / 256 % 256 = ((byteAt d 1).toNat : Int) := byteN d 1 256 (by decide)
            have e0 : (d : Int) % 256 = ((byteAt d 0).toNat : Int) := nbyte0 d
            have HB4 : Veil (putB d 4 = [byteAt d 3, byteAt d 2, byteAt d 1, byteAt d 0]) := ⟨putB_four d⟩
            revert e3 e2 e1 e0 HB4
            generalize byteAt d 3 = b3
            generalize byteAt d 2 = b2
            generalize byteAt d 1 = b1
            generalize byteAt d 0 = b0
            intro e3 e2 e1 e0 HB4
            revert HSC HA HAL HLL
            generalize n.ahead k = T
            generalize hLk : encP n k = Lk at HI ⊢
            intro HSC HA HAL HLL
            clear hLk
            go_wp2_with (first
              | (at_builtin; refine wpList_append_bytes rfl (.tmp 60) (.tmp 72) rfl G v8 (Lk ++ txB T) [b3, b2, b1, b0] rfl HO9.out w8.heap.size rfl HC9.out (by simp) HL9.out HZ9.out ?_; intro v10 w10 hown10 hgrow10 hv10)
              | (go_at_call 30; refine HWT.out.mono ?_; rintro e w8 ⟨v8, rfl, hon⟩; have HI8 : Veil _ := ⟨HI7.out.go HH.out hon⟩; clear hon; obtain ⟨W9, hW9⟩ : ∃ W9, w8.alloc (.cells #[.int .u8 (b3.toNat : Int), .int .u8 (b2.toNat : Int), .int .u8 (b1.toNat : Int), .int .u8 (b0.toNat : Int)] 5) = W9 := ⟨_, rfl⟩; have HX9 : Veil (Below w8.heap.size w8 W9) := ⟨(by rw [← hW9]; exact below_al (Below.refl _ _) _)⟩; have HC9 : Veil (W9.heap[w8.heap.size]? = some (.cells (u8s [b3, b2, b1, b0]).toArray 5 (0, 0))) := ⟨(by rw [← hW9]; exact heap_alloc_new _ _)⟩; have HO9 : Veil (OwnB W9 G v8 (Lk ++ txB T)) := ⟨(HI8.out.below HX9.out).o⟩; have HZ9 : Veil (G ≤ W9.heap.size) := ⟨(HI8.out.below HX9.out).z.2⟩; have HL9 : Veil ((Lk ++ txB T).length + [b3, b2, b1, b0].length ≤ 1000000) := (by refine ⟨?_⟩; have := HLL.out; simp only [List.length_append, txB_len, List.length_cons, List.length_nil]; omega))
              | (go_at_call 31; refine (HA.out _ HI.out.b.s).mono ?_; rintro e w7 ⟨pq, cq, rfl, hel, hpq, hb7⟩; have HI7 : Veil _ := ⟨HI.out.below hb7⟩; have HWT : Veil (Calls Try.prog 30 #[v, .slice pq T.length cq] w7 fun e w' => ∃ v', e = .returned v' ∧ OnB w7 G v v' (Lk ++ txB T) w') := ⟨with_of HI7.out.o HI7.out.z.2 hel (fun x hx e => (by obtain ⟨h1, y, hy, hyx⟩ := hpq x hx; have h2 := (own_lt HI.out.o e).1; have h3 := HH.out.pkLt h1 y hy; have h4 := HI.out.z.1; omega)) cq (by have := HLL.out; omega) (by have := HAL.out; omega)⟩; clear hel hpq hb7 a0 a1 a2))
            refine ⟨⟨k + 1, v10, by omega, by go_num, rfl, ⟨?_⟩⟩, ?_⟩
            · have := HI8.out.grow HH.out HX9.out hgrow10 hown10 (fun j hj => (hv10 j hj).imp_right (fun h => Nat.le_trans HX9.out.size h))
              rw [HPS.out, HSC.out, HB4.out, ← List.append_assoc]
              exact this
            · simp only [intOf]; omega
          · obtain rfl : k = n.ds.length := by omega
            have HI9 : Veil (EncI w n a G v n.enc wr) := ⟨by rw [HEQ.out]; exact HI.out⟩
            clear HI6 HI HEQ hk hlt
            go_wp2
            refine region_new [.is (.agg #[.slice a.pp n.ps.length a.cp, .slice a.pk n.ks.length a.ck, .slice a.pd n.ds.length a.cd]), .is (.int .i64 n.kind), .is v, .is (.string ⟨n.enc.toArray⟩), .is (.int .i64 n.kind), .is (.string ⟨n.enc.toArray⟩)]
              [[], [(0, 75)], [], [(2, 77)], [(1, 76)], [(3, 78)]]
              [[], [0], [], [2], [0, 1], [0, 1, 2, 3, 4]]
              [(0, 75), (1, 76), (2, 77), (3, 78), (4, 2), (5, 3)] rfl (by kernel_rfl) ⟨?_, ?_, ?_, ?_, ?_, ?_, trivial⟩ ?_
            · intro vals W hB _
              obtain ⟨a0, a1, a2⟩ := (HI9.out.b.below hB).cells
              dsimp only [putsL, slotOf]
              go_wp2
              exact ⟨rfl, Below.refl _ _, rfl⟩
            · intro vals W hB ⟨h0, _⟩
              have h0 : vals 0 = _ := h0
              dsimp only [putsL, slotOf]
              rw [h0]
              go_wp2_with ((go_at_call 25; refine (HKd.out _ (HI9.out.b.below hB).s).mono ?_; rintro e w4 ⟨rfl, hb4⟩))
              exact ⟨rfl, hb4, rfl⟩
            · intro vals W hB _
              dsimp only [putsL, slotOf]
              go_wp2
              exact ⟨rfl, Below.refl _ _, rfl⟩
            · intro vals W hB ⟨h2, _⟩
              have h2 : vals 2 = _ := h2
              have hcv := conv_own (HI9.out.below hB).o
              dsimp only [putsL, slotOf]
              rw [h2]
              go_wp2
              exact ⟨rfl, Below.refl _ _, rfl⟩
            · intro vals W hB ⟨h0, h1, _⟩
              have h1 : vals 1 = _ := h1
              dsimp only [putsL, slotOf]
              rw [h1]
              go_wp2
              exact ⟨rfl, Below.refl _ _, rfl⟩
            · intro vals W hB ⟨h0, h1, h2, h3, h4, _⟩
              have h3 : vals 3 = _ := h3
              dsimp only [putsL, slotOf]
              rw [h3]
              go_wp2
              exact ⟨rfl, Below.refl _ _, rfl⟩
            rintro vals W hB ⟨q0, q1, q2, q3, q4, q5, -⟩
            have h0 : vals 0 = _ := q0
            have h1 : vals 1 = _ := q1
            have h2 : vals 2 = _ := q2
            have h3 : vals 3 = _ := q3
            have h4 : vals 4 = _ := q4
            have h5 : vals 5 = _ := q5
            dsimp only [putsL]
            rw [h0, h1, h2, h3, h4, h5]
            clear h0 q0 h1 q1 h2 q2 h3 q3 h4 q4 h5 q5
            simp only [List.length_cons, List.length_nil, Nat.reduceAdd, List.drop_succ_cons, List.drop_zero, List.setIfInBounds_toArray, List.set_cons_succ, List.set_cons_zero]
            go_wp2
            refine bodyPost_ret (results_three rfl rfl rfl rfl) rfl ?_
            exact ⟨rfl, bn_then HI9.out.b.x hB⟩
end Go.Proofs.Ytalnmaoidaldhaa
