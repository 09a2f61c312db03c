/- The walk of Place. -/
import Derived.Test.YtalnmaoidaldhaaKO1
import Derived.Test.YtalnmaoidaldhaaKN7
namespace Go.Proofs.Ytalnmaoidaldhaa
open Go Go.RowKit Sm
attribute [local go_sem] Oper.semAt_some

theorem results_int6a {fn : Func} {p : Tmp} {tmps : Array Value} {w : World} {x : Value} (h : fn.results = #[.tmp p]) (hp : tmps.getD p undef = x) : (results fn tmps).run Try.prog w = .ok x w := by
  rw [results_tmp h]
  simpa using hp
theorem ReadsN.aside {Bx : Nat} {n : Nd} {a : NdP} {w W W' : World} (h : ReadsN Bx n a W) (hn : NdAt w n a) {F : Nat → Prop} (ht : Turned F W W') (hF : ∀ k, F k → w.heap.size ≤ k) (hB : ¬ F Bx) : ReadsN Bx n a W' :=
  ⟨ht.heap h.b hB, h.s.turned ht hF hn⟩
/-- A key that stands ahead of the place. -/
def passK (KS : List (List UInt8)) (key : List UInt8) (b : Bool) (i : Nat) : Bool := lessB (KS.getD i []) key || (KS.getD i [] == key && b)
/-- So many hold, and the next one does not. -/
def IsLead (f : Nat → Bool) (N L : Nat) : Prop := L ≤ N ∧ (∀ i, i < L → f i = true) ∧ (L < N → f L = false)
theorem cnt_lead {f : Nat → Bool} {L : Nat} (h1 : ∀ i, i < L → f i = true) : ∀ N, L ≤ N → (∀ i, L ≤ i → i < N → f i = false) → cnt f N = L
  | 0, hN, _ => by simp only [cnt]; omega
  | N + 1, hN, h2 => by
    by_cases h : L = N + 1
    · subst h
      have : ∀ k, k ≤ N + 1 → cnt f k = k := by
        intro k
        induction k with
        | zero => intro _; rfl
        | succ k ih =>
          intro hk
          rw [cnt, ih (by omega), if_pos (h1 k (by omega))]
      exact this _ (Nat.le_refl _)
    · rw [cnt, cnt_lead h1 N (by omega) (fun i hi hl => h2 i hi (by omega)), if_neg (by rw [h2 N (by omega) (by omega)]; simp)]
      rfl
theorem rise_lt {KS : List (List UInt8)} (h : riseL KS = true) : ∀ (j i : Nat), i < j → j < KS.length → lessB (KS.getD i []) (KS.getD j []) = true := by
  intro j
  induction j with
  | zero => intro i hi; omega
  | succ j ih =>
    intro i hi hj
    have h1 := (riseL_iff KS).1 h (j + 1) hj
    simp only [goodAt, Bool.and_eq_true, decide_eq_true_eq] at h1
    have h2 := h1.1
    rw [prevK, if_neg (by omega), Nat.add_sub_cancel] at h2
    rcases Nat.lt_or_eq_of_le (Nat.le_of_lt_succ hi) with h3 | h3
    · exact lessB_trans _ _ _ (ih i h3 (by omega)) h2
    · rw [h3]; exact h2
theorem Nd.right_rise {n : Nd} (h : n.right = true) : riseL n.keys = true := by
  rcases Bool.or_eq_true_iff.1 h with h | h
  · rw [n.leaf_eq, Bool.and_eq_true] at h; exact h.2
  · rw [n.branch_eq, Bool.and_eq_true] at h; exact h.2
theorem less_le {a b : List UInt8} (h : lessB a b = false) : a = b ∨ lessB b a = true := by
  by_cases e : a = b
  · exact .inl e
  · exact .inr (lessB_total a b h e)
theorem place_lead {n : Nd} {key : List UInt8} {L : Nat} (hr : n.right = true) (h : IsLead (passK n.keys key (decide (n.kind = 2))) (n.ps.length + n.ks.length) L) : n.place key = L := by
  obtain ⟨h1, h2, h3⟩ := h
  have hrise := Nd.right_rise hr
  rw [Nd.place, if_pos hr]
  rcases Bool.or_eq_true_iff.1 hr with hl | hb
  · have hs := (n.leaf_iff.1 hl).1
    have hk : n.kind = 1 := by rw [Nd.kind, if_pos hs.2.1]
    rw [hs.1, Nat.add_zero] at h1 h3
    rw [hs.1, cnt, Nat.add_zero]
    rw [hk] at h2 h3
    have e : ∀ i, i < n.ps.length → lessP n key i = passK n.keys key false i := fun i hi => by
      rw [lessP, passK, keys_getP hi]; simp
    refine cnt_lead (fun i hi => by rw [e i (by omega)]; exact h2 i hi) _ h1 (fun i hi hlt => ?_)
    have h4 := h3 (by omega)
    simp only [passK, Bool.or_eq_false_iff] at h4
    rw [lessP, ← keys_getP hlt]
    rcases Nat.lt_or_eq_of_le hi with h5 | h5
    · have h6 := rise_lt hrise i L h5 (by rw [keys_len]; omega)
      rcases less_le h4.1 with h7 | h7
      · rw [h7] at h6; exact lessB_asymm h6
      · exact lessB_asymm (lessB_trans _ _ _ h7 h6)
    · rw [← h5]; exact h4.1
  · have hs := (n.branch_iff.1 hb).1
    have hk : n.kind = 2 := by rw [Nd.kind, if_neg (by omega)]
    have hps : n.ps = [] := List.eq_nil_of_length_eq_zero hs.1
    rw [hs.1, Nat.zero_add] at h1 h3
    rw [hs.1, cnt, Nat.zero_add]
    rw [hk] at h2 h3
    have hkeys : n.keys = n.ks := by rw [Nd.keys, hps]; rfl
    rw [hkeys] at h2 h3 hrise
    have e : ∀ i, mostK n key i = passK n.ks key true i := fun i => by
      rw [mostK, passK, Bool.and_true]
      cases h8 : lessB key (n.ks.getD i []) with
      | true => rw [lessB_asymm h8, Bool.false_or, Bool.not_true, eq_comm, beq_eq_false_iff_ne]; intro e; rw [e, lessB_irrefl] at h8; cases h8
      | false =>
        rcases less_le h8 with h9 | h9
        · rw [← h9]; simp
        · rw [h9]; rfl
    refine cnt_lead (fun i hi => by rw [e i]; exact h2 i hi) _ h1 (fun i hi hlt => ?_)
    have h4 := h3 (by omega)
    have h5 : passK n.ks key true L = false := h4
    rw [← e L] at h5
    simp only [mostK, Bool.not_eq_false'] at h5
    simp only [mostK, Bool.not_eq_false']
    rcases Nat.lt_or_eq_of_le hi with h6 | h6
    · exact lessB_trans _ _ _ h5 (rise_lt hrise i L h6 hlt)
    · rw [← h6]; exact h5

/-- Two boxes of numbers, made one behind the other, then filled. -/
theorem two_int (w3 : World) (x y : Value) : ∃ w4 w5 w6 w7, w3.alloc (.cells #[.int .i64 0] 3) = w4 ∧ w4.alloc (.cells #[.int .i64 0] 3) = w5 ∧ w5.setCell ⟨w3.heap.size, 0, none⟩ x = w6 ∧ w6.setCell ⟨w4.heap.size, 0, none⟩ y = w7 ∧
    (w5.cell? ⟨w3.heap.size, 0, none⟩ = some (.int .i64 0) ∧ w5.frozen? ⟨w3.heap.size, 0, none⟩ = false) ∧ (w6.cell? ⟨w4.heap.size, 0, none⟩ = some (.int .i64 0) ∧ w6.frozen? ⟨w4.heap.size, 0, none⟩ = false) ∧
    Veil (w7.heap[w3.heap.size]? = some (.cells #[x] 3 (0, 0)) ∧ w7.heap[w4.heap.size]? = some (.cells #[y] 3 (0, 0)) ∧ Below w3.heap.size w3 w7 ∧ w4.heap.size = w3.heap.size + 1) := by
  refine ⟨_, _, _, _, rfl, rfl, rfl, rfl, ?_⟩
  obtain ⟨w4, h4⟩ : ∃ w4, w3.alloc (.cells #[.int .i64 0] 3) = w4 := ⟨_, rfl⟩
  rw [h4]
  obtain ⟨w5, h5⟩ : ∃ w5, w4.alloc (.cells #[.int .i64 0] 3) = w5 := ⟨_, rfl⟩
  rw [h5]
  have b4 : w4.heap[w3.heap.size]? = some (.cells #[.int .i64 0] 3 (0, 0)) := by rw [← h4]; exact heap_alloc_new _ _
  have hb5 : Below w4.heap.size w4 w5 := by rw [← h5]; exact below_al (Below.refl _ _) _
  have hb4 : Below w3.heap.size w3 w4 := by rw [← h4]; exact below_al (Below.refl _ _) _
  have hz : w4.heap.size = w3.heap.size + 1 := by rw [← h4]; simp
  have b5 : w5.heap[w3.heap.size]? = some (.cells #[.int .i64 0] 3 (0, 0)) := (hb5.block _ (lt_of_heap b4)).trans b4
  have d5 : w5.heap[w4.heap.size]? = some (.cells #[.int .i64 0] 3 (0, 0)) := by rw [← h5]; exact heap_alloc_new _ _
  have t6 : Turned (fun k => k = w3.heap.size) w5 (w5.setCell ⟨w3.heap.size, 0, none⟩ x) := (Turned.refl (fun k => k = w3.heap.size) w5).setCell (p := ⟨w3.heap.size, 0, none⟩) rfl x
  have b6 : (w5.setCell ⟨w3.heap.size, 0, none⟩ x).heap[w3.heap.size]? = some (.cells #[x] 3 (0, 0)) := heap_setCell_at b5 0 x
  have d6 := t6.heap d5 (by omega)
  have t7 : Turned (fun k => k = w4.heap.size) (w5.setCell ⟨w3.heap.size, 0, none⟩ x) ((w5.setCell ⟨w3.heap.size, 0, none⟩ x).setCell ⟨w4.heap.size, 0, none⟩ y) := (Turned.refl (fun k => k = w4.heap.size) _).setCell (p := ⟨w4.heap.size, 0, none⟩) rfl y
  have b35 : Below w3.heap.size w3 w5 := hb4.trans (hb5.mono (by omega))
  refine ⟨⟨cell_row6 b5, frozen_whole b5 _⟩, ⟨cell_row6 d6, frozen_whole d6 _⟩, ⟨t7.heap b6 (by omega), heap_setCell_at d6 0 y, ?_, hz⟩⟩
  exact (b35.trans (t6.toBelow b35.size (fun k _ e => by omega))).trans (t7.toBelow (Nat.le_trans b35.size t6.size) (fun k _ e => by omega))

/-- Between two rounds: the key's box, the place's, the kind's, the iterator's. -/
structure PlcI (w : World) (B1 B2 B3 Bx : Nat) (n : Nd) (a : NdP) (key : List UInt8) (kd at' : Nat) (A : World) : Prop where
  kb : A.heap[B1]? = some (.cells #[.string ⟨key.toArray⟩] 9 (0, 0))
  p : A.heap[B2]? = some (.cells #[.int .i64 at'] 3 (0, 0))
  kd : A.heap[B3]? = some (.cells #[.int .i64 kd] 3 (0, 0))
  x : ReadsN Bx n a A
  t : Turned (fun _ => False) w A
theorem PlcI.booked {w : World} {B1 B2 B3 Bx : Nat} {n : Nd} {a : NdP} {key : List UInt8} {kd at' : Nat} {A A' : World} {C : Nat} (h : PlcI w B1 B2 B3 Bx n a key kd at' A) (hb : Booked C A A') (hC : w.heap.size ≤ C) : PlcI w B1 B2 B3 Bx n a key kd at' A' :=
  ⟨hb.heap h.kb, hb.heap h.p, hb.heap h.kd, h.x.booked hb, hb.turned h.t hC⟩

set_option maxRecDepth 20000 in
set_option maxHeartbeats 4000000 in
theorem nplace_of {w : World} {n : Nd} {a : NdP} (h : NdAt w n a) (hok : Veil n.Ok) (key : List UInt8) (_hkey : key.length ≤ 1000000) :
    Calls Try.prog 46 #[n.v a, .string ⟨key.toArray⟩] w fun e w' => e = .returned (.int .i64 (n.place key)) ∧ Below w.heap.size w w' := by
  refine calls_of_wp_marks Try.func46 rfl ?_
  simp only [Try.ntmps46, List.size_toArray, List.length_cons, List.length_nil, Nat.reduceAdd, Nat.reduceSub, Array.replicate_succ, Array.replicate_zero, List.push_toArray, List.append_toArray, List.nil_append, List.cons_append]
  have HKd : Veil (∀ w, NdAt w n a → Calls Try.prog 25 #[n.v a] w fun e w' => e = .returned (.int .i64 ((if n.right then n.kind else 0 : Nat) : Int)) ∧ Below w.heap.size w w') := ⟨fun w h => kindOf_of h hok⟩
  have HKy : Veil (∀ w, NdAt w n a → Calls Try.prog 44 #[n.v a] w fun e w' => ∃ Bx, e = .returned (.func (.func 52) #[] #[.pointer (some ⟨Bx, 0, none⟩)]) ∧ ReadsN Bx n a w' ∧ Below w.heap.size w w') := ⟨fun w h => keysN_of h⟩
  have HSq : Veil (∀ Bx, Seq Try.prog 52 #[.pointer (some ⟨Bx, 0, none⟩)] (handsK n) (n.ps.length + n.ks.length) (ReadsN Bx n a)) := ⟨fun Bx => keys_seq Bx n a (Nat.le_trans hok.out.p (by omega)) (Nat.le_trans hok.out.k (by omega))⟩
  have HPL : Veil (∀ L, n.right = true → IsLead (passK n.keys key (decide (n.kind = 2))) (n.ps.length + n.ks.length) L → n.place key = L) := ⟨fun L hr h => place_lead hr h⟩
  have HP0 : Veil (n.right = false → n.place key = 0) := ⟨fun hr => by rw [Nd.place, if_neg (by simp [hr])]⟩
  have hN : n.ps.length + n.ks.length ≤ 200000 := by have := hok.out.p; have := hok.out.k; omega
  obtain ⟨hk1, hk2⟩ := n.kind_pos
  have HH : Veil _ := ⟨h⟩
  clear hok
  unfold handsK at HSq
  revert HKd HSq HPL HP0 hN hk1 hk2
  generalize n.right = r
  generalize n.kind = kd
  generalize n.keys = KS
  generalize n.place key = pl
  generalize n.ps.length + n.ks.length = N
  intro HKd HSq HPL HP0 hN hk1 hk2
  obtain ⟨W1, hW1⟩ : ∃ W1, w.alloc (.cells #[.slice a.pp n.ps.length a.cp, .slice a.pk n.ks.length a.ck, .slice a.pd n.ds.length a.cd] 26) = W1 := ⟨_, rfl⟩
  obtain ⟨W2, hW2⟩ : ∃ W2, W1.alloc (.cells #[.string ⟨key.toArray⟩] 9) = W2 := ⟨_, rfl⟩
  have hb2 : Below W1.heap.size W1 W2 := by rw [← hW2]; exact below_al (Below.refl _ _) _
  have hz1 : W1.heap.size = w.heap.size + 1 := by rw [← hW1]; simp
  have HB : Veil (NdBox w n a W2) := ⟨by have := NdBox.new h; rw [hW1] at this; exact this.below hb2⟩
  have HK2 : Veil (W2.heap[w.heap.size + 1]? = some (.cells #[.string ⟨key.toArray⟩] 9 (0, 0))) := ⟨by rw [← hz1, ← hW2]; exact heap_alloc_new _ _⟩
  obtain ⟨a0, a1, a2⟩ := HB.out.cells
  clear h hb2
  unfold Nd.v at *
  cases r
  · obtain rfl : pl = 0 := HP0.out rfl
    clear HPL HP0
    simp only [Bool.false_eq_true, if_false] at HKd
    go_wp2
    go_step3
    go_wp2_with (go_at_call 25; refine (HKd.out _ HB.out.s).mono ?_; rintro e w3 ⟨rfl, hb⟩; replace HB : Veil _ := ⟨HB.out.below hb⟩; have HK3 : Veil (w3.heap[w.heap.size + 1]? = some (.cells #[.string ⟨key.toArray⟩] 9 (0, 0))) := ⟨(hb.block _ (lt_of_heap HK2.out)).trans HK2.out⟩; obtain ⟨w4, w5, w6, w7, hw4, hw5, hw6, hw7, ⟨c5, f5⟩, ⟨c6, f6⟩, HTI⟩ := two_int w3 (.int .i64 0) (.int .i64 0); replace HB : Veil _ := ⟨HB.out.below HTI.out.2.2.1⟩; have c7 := cell_row6 HTI.out.2.1; clear hb a0 a1 a2; obtain ⟨a0, a1, a2⟩ := HB.out.cells)
    try rw [Exit.noGoto_ret]
    exact leaves_none (results_int6a rfl rfl) ⟨rfl, HB.out.x⟩
  · simp only [if_true] at HKd
    have hk0 : ((kd : Int) == 0) = false := by rw [beq_eq_false_iff_ne]; omega
    clear HP0
    go_wp2
    go_step3
    go_wp2_with (go_at_call 25; refine (HKd.out _ HB.out.s).mono ?_; rintro e w3 ⟨rfl, hb⟩; replace HB : Veil _ := ⟨HB.out.below hb⟩; have HK3 : Veil (w3.heap[w.heap.size + 1]? = some (.cells #[.string ⟨key.toArray⟩] 9 (0, 0))) := ⟨(hb.block _ (lt_of_heap HK2.out)).trans HK2.out⟩; obtain ⟨w4, w5, w6, w7, hw4, hw5, hw6, hw7, ⟨c5, f5⟩, ⟨c6, f6⟩, HTI⟩ := two_int w3 (.int .i64 0) (.int .i64 kd); replace HB : Veil _ := ⟨HB.out.below HTI.out.2.2.1⟩; have c7 := cell_row6 HTI.out.2.1; clear hb a0 a1 a2; obtain ⟨a0, a1, a2⟩ := HB.out.cells)
    obtain ⟨B1, e1⟩ : ∃ B1, w.heap.size + 1 = B1 := ⟨_, rfl⟩
    obtain ⟨B2, e2⟩ : ∃ B2, w3.heap.size = B2 := ⟨_, rfl⟩
    obtain ⟨B3, e3⟩ : ∃ B3, w4.heap.size = B3 := ⟨_, rfl⟩
    have hT := HTI.out
    rw [e2, e3] at hT
    have hk7 : w7.heap[B1]? = some (.cells #[.string ⟨key.toArray⟩] 9 (0, 0)) := by
      rw [← e1]; exact (HTI.out.2.2.1.block _ (lt_of_heap HK3.out)).trans HK3.out
    have hz3 : B1 < B2 := by have := lt_of_heap HK3.out; omega
    rw [e1, e2, e3]
    have HW : Veil (w.heap.size < B1 ∧ B1 < B2 ∧ B2 < B3) := ⟨by omega⟩
    have HT7 : Veil _ := ⟨hT⟩
    have HK7 : Veil _ := ⟨hk7⟩
    clear e1 e2 e3 hT hk7 hz3 hw4 hw5 hw6 hw7 c5 f5 c6 f6 c7 HTI HK3 HK2 hz1 hW2 hW1
    go_step3
    go_wp2_with (go_at_call 44; refine (HKy.out _ HB.out.s).mono ?_; rintro e w8 ⟨Bx, rfl, hrd, hb8⟩)
    have hI : PlcI w B1 B2 B3 Bx n a key kd 0 w8 := ⟨(hb8.block _ (lt_of_heap HK7.out)).trans HK7.out, (hb8.block _ (lt_of_heap HT7.out.1)).trans HT7.out.1, (hb8.block _ (lt_of_heap HT7.out.2.1)).trans HT7.out.2.1, hrd, Turned.new (bn_then HB.out.x hb8)⟩
    have HZ : Veil (B3 < w8.heap.size) := ⟨lt_of_heap hI.kd⟩
    have HBx : Veil (Bx ≠ B2) := ⟨fun e => by
      have h1 := hI.x.b
      rw [e, hI.p] at h1
      simp at h1⟩
    clear hrd hb8 a0 a1 a2 HB HT7 HK7 HKd HKy
    refine wp_range_break (gf := 52) (lb := #[.pointer (some ⟨Bx, 0, none⟩)]) rfl (enters_of Try.func52 (by kernel_rfl) rfl)
      (HSq.out Bx) (fun k => rfl)
      (fun k A => k ≤ N ∧ PlcI w B1 B2 B3 Bx n a key kd k A ∧ ∀ i, i < k → passK KS key (decide (kd = 2)) i = true)
      (fun A => ∃ L, IsLead (passK KS key (decide (kd = 2))) N L ∧ PlcI w B1 B2 B3 Bx n a key kd L A) ?hI ?hE ?hF ?h0 ?hN ?hround ?hend
    case hI => rintro k A A' ⟨h0, h1, h3⟩ hb; exact ⟨h0, h1.booked hb (by have := HW.out; have := HZ.out; omega), h3⟩
    case hE => rintro A A' ⟨L, h0, h1⟩ hb; exact ⟨L, h0, h1.booked hb (by have := HW.out; have := HZ.out; omega)⟩
    case hF => rintro k A ⟨_, h, _⟩; exact h.x
    case h0 => exact ⟨Nat.zero_le _, hI, fun i hi => absurd hi (by omega)⟩
    case hN => rintro A ⟨_, h1, h3⟩; exact ⟨N, ⟨Nat.le_refl _, h3, fun h => absurd h (by omega)⟩, h1⟩
    case hround =>
      rintro l m k A hl2 hlt ⟨hk0', hi, hr⟩
      simp only [List.zip_cons_cons, List.zip_nil_right, List.foldl_cons, List.foldl_nil, List.setIfInBounds_toArray, List.set_cons_succ, List.set_cons_zero]
      have HR : Veil _ := ⟨hr⟩
      have HI1 : Veil _ := ⟨hi⟩
      have HG : Veil (passK KS key (decide (kd = 2)) k = (lessB (KS.getD k []) key || (KS.getD k [] == key && decide (kd = 2)))) := ⟨rfl⟩
      have HGN : Veil (passK KS key (decide (kd = 2)) k = true → ∀ i, i < k + 1 → passK KS key (decide (kd = 2)) i = true) := ⟨fun ht i hi => by
        rcases Nat.lt_or_eq_of_le (Nat.le_of_lt_succ hi) with h | h
        · exact HR.out i h
        · rw [h]; exact ht⟩
      have HGF : Veil (passK KS key (decide (kd = 2)) k = false → IsLead (passK KS key (decide (kd = 2))) N k) := ⟨fun hf => ⟨hk0', HR.out, fun _ => hf⟩⟩
      clear hI hr hi
      revert HG
      generalize KS.getD k [] = s
      intro HG
      gi_wp2
      refine ⟨KeepsFrom.refl _ _, fun A2 hbk hsz => ?_⟩
      have HI2 : Veil _ := ⟨HI1.out.booked hbk (by have := HW.out; have := HZ.out; omega)⟩
      clear hbk hsz HI1
      have q1 := cell_row6 HI2.out.kb
      have q2 := cell_row6 HI2.out.p
      have f2 : A2.frozen? ⟨B2, 0, none⟩ = false := frozen_whole HI2.out.p _
      have q3 := cell_row6 HI2.out.kd
      have HMO : Veil (passK KS key (decide (kd = 2)) k = true → KeepsFrom w8.heap.size A2 (A2.setCell ⟨B2, 0, none⟩ (.int .i64 ((k + 1 : Nat) : Int))) ∧ k + 1 ≤ N ∧ PlcI w B1 B2 B3 Bx n a key kd (k + 1) (A2.setCell ⟨B2, 0, none⟩ (.int .i64 ((k + 1 : Nat) : Int))) ∧ ∀ i, i < k + 1 → passK KS key (decide (kd = 2)) i = true) := ⟨fun ht => by
        have hT := (Turned.refl (· = B2) A2).setCell (p := ⟨B2, 0, none⟩) rfl (.int .i64 ((k + 1 : Nat) : Int))
        have hW := HW.out
        exact ⟨keepsFrom_turned6 hT (fun j hj => .inl (by have := HZ.out; omega)), by omega, ⟨hT.heap HI2.out.kb (by omega), heap_setCell_at HI2.out.p 0 _, hT.heap HI2.out.kd (by omega), HI2.out.x.aside HH.out hT (fun k hk => by omega) (fun e => HBx.out e), HI2.out.t.then hT (fun k hk e => by omega)⟩, HGN.out ht⟩⟩
      have e : ((k + 1 : Nat) : Int) = (k : Int) + 1 := by omega
      have hkN : k ≤ 200000 := by omega
      cases hs : lessB s key
      · have k1 : Op.bytesLess s key = false := by rw [bytesLess_lessB]; exact hs
        by_cases he : s = key
        · have k2 : (s == key) = true := by rw [beq_iff_eq]; exact he
          clear he
          by_cases hkd : kd = 2
          · have k3 : ((kd : Int) == 2) = true := by rw [beq_iff_eq]; omega
            have hmo := HMO.out (by rw [HG.out, hs, k2]; simp [hkd])
            rw [e] at hmo
            have HM : Veil _ := ⟨hmo⟩
            clear hmo hkd hs HMO HG HGN HGF
            gi_wp2
            exact HM.out
          · have k3 : ((kd : Int) == 2) = false := by rw [beq_eq_false_iff_ne]; omega
            have hst := HGF.out (by rw [HG.out, hs, k2]; simp [hkd])
            have HS : Veil _ := ⟨hst⟩
            clear hst hkd hs HMO HG HGN HGF
            gi_wp2
            exact ⟨KeepsFrom.refl _ _, rfl, k, HS.out, HI2.out⟩
        · have k2 : (s == key) = false := by rw [beq_eq_false_iff_ne]; exact he
          have hst := HGF.out (by rw [HG.out, hs, k2]; rfl)
          have HS : Veil _ := ⟨hst⟩
          clear hst hs he HMO HG HGN HGF
          gi_wp2
          exact ⟨KeepsFrom.refl _ _, rfl, k, HS.out, HI2.out⟩
      · have k1 : Op.bytesLess s key = true := by rw [bytesLess_lessB]; exact hs
        have hmo := HMO.out (by rw [HG.out, hs]; rfl)
        rw [e] at hmo
        have HM : Veil _ := ⟨hmo⟩
        clear hmo hs HMO HG HGN HGF
        gi_wp2
        exact HM.out
    case hend =>
      rintro Dd A hDd ⟨L, hL, h1⟩ hdd
      have HI : Veil _ := ⟨h1⟩
      have HD : Veil _ := ⟨hdd⟩
      obtain rfl : pl = L := HPL.out L trivial hL
      have c1 := cell_row6 h1.p
      clear h1 hdd hI
      go_wp2
      try rw [Exit.noGoto_ret]
      refine leaves_mark (D := Dd) (B := w.heap.size) HD.out (by have := HW.out; have := HZ.out; omega) ?_
      intro w' hb _
      refine leaves_none (results_int6a rfl rfl) ⟨rfl, ?_⟩
      exact (hb.turned HI.out.t (Nat.le_refl _)).toBelow (Nat.le_refl _) (fun _ _ h => h.elim)
end Go.Proofs.Ytalnmaoidaldhaa
