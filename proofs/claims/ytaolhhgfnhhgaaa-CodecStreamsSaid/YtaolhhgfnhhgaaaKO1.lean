/- The walk of rising: keys that rise. -/
import Derived.RangeFuncCalls
import Derived.Test.YtaolhhgfnhhgaaaKN6
import Derived.Test.YtaolhhgfnhhgaaaKP2
namespace Go.Proofs.Ytaolhhgfnhhgaaa
open Go Go.RowKit Sm
attribute [local go_sem] Oper.semAt_some

theorem keepsFrom_turned6 {F : Nat → Prop} {B : Nat} {A A' : World} (h : Turned F A A') (hF : ∀ k, F k → k < B ∨ ∃ c t fr, A.heap[k]? = some (.cells c t fr)) : KeepsFrom B A A' :=
  ⟨h.size, fun k o hB hk ho => h.heap hk fun hf => by
    rcases hF k hf with hlt | ⟨c, t, fr, hc⟩
    · omega
    · rw [hc] at hk; cases hk; cases ho⟩
theorem keepsFrom_new6 {B : Nat} {A A' : World} (h : Turned (fun _ => False) A A') : KeepsFrom B A A' := keepsFrom_turned6 h fun _ h => h.elim
theorem cell_row6 {w : World} {b : Nat} {x : Value} {t : TypeId} {fr : Nat × Nat} (h : w.heap[b]? = some (.cells #[x] t fr)) : w.cell? ⟨b, 0, none⟩ = some x := by simp [World.cell?, h]
theorem results_bool6 {fn : Func} {p : Tmp} {tmps : Array Value} {w : World} {g : Nat} {x : Value} (h : fn.results = #[.cell p 4]) (hp : tmps.getD p undef = .pointer (some ⟨g, 0, none⟩)) (hg : w.heap[g]? = some (.cells #[x] 4 (0, 0))) :
    (results fn tmps).run Try.prog w = .ok x w := by
  have hp' : tmps[p]?.getD undef = .pointer (some ⟨g, 0, none⟩) := by simpa using hp
  have c0 := cell_row6 hg
  simp [results, h, go_sem, hp', c0]

def prevK (KS : List (List UInt8)) (i : Nat) : List UInt8 := if i = 0 then [] else KS.getD (i - 1) []
def goodAt (KS : List (List UInt8)) (i : Nat) : Bool := lessB (prevK KS i) (KS.getD i []) && decide ((KS.getD i []).length ≤ 24)
def riseL (KS : List (List UInt8)) : Bool := allTo (goodAt KS) KS.length
theorem riseL_iff (KS : List (List UInt8)) : riseL KS = true ↔ ∀ i, i < KS.length → goodAt KS i = true := by simp [riseL, allTo_iff]

section
variable {w : World} {B1 B2 Bx : Nat} {n : Nd} {a : NdP} {q : List UInt8} {A A' : World}
end
end Go.Proofs.Ytaolhhgfnhhgaaa

/- The walks of leafShaped, branchShaped, kindOf, Right. -/
namespace Go.Proofs.Ytaolhhgfnhhgaaa
open Go Go.RowKit Sm
attribute [local go_sem] Oper.semAt_some

def shortV (P : List Pr) (i : Nat) : Bool := decide ((P.getD i Pr.zero).v.length ≤ 60)
def Nd.leafS (n : Nd) : Bool := decide (n.ps.length ≤ 255 ∧ n.ks.length = 0 ∧ n.ds.length = 0) && allTo (shortV n.ps) n.ps.length
def Nd.branchS (n : Nd) : Bool := decide (n.ps.length = 0 ∧ n.ds.length ≤ 255 ∧ n.ds.length = n.ks.length + 1) && allTo (goodD n.ds) n.ds.length
theorem Nd.leafS_iff (n : Nd) : n.leafS = true ↔ (n.ps.length ≤ 255 ∧ n.ks.length = 0 ∧ n.ds.length = 0) ∧ ∀ i, i < n.ps.length → shortV n.ps i = true := by simp [Nd.leafS, allTo_iff]
theorem Nd.branchS_iff (n : Nd) : n.branchS = true ↔ (n.ps.length = 0 ∧ n.ds.length ≤ 255 ∧ n.ds.length = n.ks.length + 1) ∧ ∀ i, i < n.ds.length → goodD n.ds i = true := by simp [Nd.branchS, allTo_iff]
/-- The kind of a node, 0 of one that is not right. -/
def Nd.kindO (n : Nd) : Nat := if n.leafS && riseL n.keys then 1 else if n.branchS && riseL n.keys then 2 else 0

end Go.Proofs.Ytaolhhgfnhhgaaa

/- The walks of kindOf, Right. -/
namespace Go.Proofs.Ytaolhhgfnhhgaaa
open Go Go.RowKit Sm
attribute [local go_sem] Oper.semAt_some

theorem prevK_at (KS : List (List UInt8)) (i : Nat) : prevK KS i = if i = 0 then [] else KS.getD (i - 1) [] := rfl
theorem less_nil (s : List UInt8) : lessB [] s = decide (1 ≤ s.length) := by cases s <;> simp [lessB]
theorem lessB_pos {a b : List UInt8} (h : lessB a b = true) : 1 ≤ b.length := by
  cases b with
  | nil => cases a <;> simp [lessB] at h
  | cons => simp
/-- The same as the document's. -/
theorem Nd.leaf_eq (n : Nd) : n.leaf = (n.leafS && riseL n.keys) := by
  rw [Bool.eq_iff_iff, Bool.and_eq_true, n.leaf_iff, n.leafS_iff, riseL_iff]
  constructor
  · rintro ⟨⟨h1, h2, h3⟩, h4⟩
    have hk : n.keys.length = n.ps.length := by rw [keys_len]; omega
    refine ⟨⟨⟨h3, h1, h2⟩, fun i hi => ?_⟩, fun i hi => ?_⟩
    · have := h4 i hi
      simp only [goodP, Bool.and_eq_true, rightP_iff] at this
      simp only [shortV, decide_eq_true_eq]
      exact this.1.2.2
    · rw [hk] at hi
      have := h4 i hi
      simp only [goodP, Bool.and_eq_true, rightP_iff, Bool.or_eq_true, decide_eq_true_eq] at this
      obtain ⟨⟨e1, e2, e3⟩, e4⟩ := this
      simp only [goodAt, Bool.and_eq_true, decide_eq_true_eq, keys_getP hi]
      refine ⟨?_, e2⟩
      cases i with
      | zero => rw [prevK, if_pos rfl, less_nil]; simpa using e1
      | succ j =>
        have e5 : lessB (n.ps.getD j Pr.zero).k (n.ps.getD (j + 1) Pr.zero).k = true := by
          rcases e4 with e4 | e4
          · omega
          · simpa using e4
        rw [prevK, if_neg (by omega), Nat.add_sub_cancel, keys_getP (by omega)]
        exact e5
  · rintro ⟨⟨⟨h3, h1, h2⟩, h4⟩, h5⟩
    have hk : n.keys.length = n.ps.length := by rw [keys_len]; omega
    refine ⟨⟨h1, h2, h3⟩, fun i hi => ?_⟩
    have e1 := h4 i hi
    have e2 := h5 i (by rw [hk]; exact hi)
    simp only [goodAt, Bool.and_eq_true, decide_eq_true_eq, keys_getP hi] at e2
    simp only [shortV, decide_eq_true_eq] at e1
    simp only [goodP, Bool.and_eq_true, rightP_iff, Bool.or_eq_true, decide_eq_true_eq]
    refine ⟨⟨lessB_pos e2.1, e2.2, e1⟩, ?_⟩
    cases i with
    | zero => exact .inl rfl
    | succ j =>
      right
      have := e2.1
      rw [prevK, if_neg (by omega), Nat.add_sub_cancel, keys_getP (by omega)] at this
      simpa using this
theorem Nd.branch_eq (n : Nd) : n.branch = (n.branchS && riseL n.keys) := by
  rw [Bool.eq_iff_iff, Bool.and_eq_true, n.branch_iff, n.branchS_iff, riseL_iff]
  constructor
  · rintro ⟨⟨h1, h2, h3, h4⟩, h5, h6⟩
    have hk : n.keys = n.ks := by
      rw [Nd.keys, List.eq_nil_of_length_eq_zero h1]; rfl
    refine ⟨⟨⟨h1, h3, by omega⟩, h5⟩, fun i hi => ?_⟩
    rw [hk] at hi ⊢
    have := h6 i hi
    simp only [goodK, Bool.and_eq_true, Bool.or_eq_true, decide_eq_true_eq] at this
    obtain ⟨⟨e1, e2⟩, e4⟩ := this
    simp only [goodAt, Bool.and_eq_true, decide_eq_true_eq]
    refine ⟨?_, e2⟩
    cases i with
    | zero => rw [prevK, if_pos rfl, less_nil]; simpa using e1
    | succ j =>
      rcases e4 with e4 | e4
      · omega
      · rw [prevK, if_neg (by omega)]; exact e4
  · rintro ⟨⟨⟨h1, h3, h4⟩, h5⟩, h6⟩
    have hk : n.keys = n.ks := by
      rw [Nd.keys, List.eq_nil_of_length_eq_zero h1]; rfl
    rw [hk] at h6
    refine ⟨⟨h1, by omega, h3, by omega⟩, h5, fun i hi => ?_⟩
    have e2 := h6 i hi
    simp only [goodAt, Bool.and_eq_true, decide_eq_true_eq] at e2
    simp only [goodK, Bool.and_eq_true, Bool.or_eq_true, decide_eq_true_eq]
    refine ⟨⟨lessB_pos e2.1, e2.2⟩, ?_⟩
    cases i with
    | zero => exact .inl rfl
    | succ j =>
      right
      have := e2.1
      rwa [prevK, if_neg (by omega)] at this
theorem Nd.kindO_eq (n : Nd) : n.kindO = if n.right then n.kind else 0 := by
  unfold Nd.kindO Nd.right
  rw [← n.leaf_eq, ← n.branch_eq]
  cases h1 : n.leaf with
  | true =>
    have := (n.leaf_iff.1 h1).1.2.1
    simp [Nd.kind, this]
  | false =>
    cases h2 : n.branch with
    | true =>
      have := (n.branch_iff.1 h2).1.2.1
      have hk : n.kind = 2 := by rw [Nd.kind, if_neg (by omega)]
      simp [hk]
    | false => simp
theorem Nd.kind_pos (n : Nd) : 1 ≤ n.kind ∧ n.kind ≤ 2 := by unfold Nd.kind; split <;> omega

end Go.Proofs.Ytaolhhgfnhhgaaa

/- The walks of textSize, cut, ahead. -/
namespace Go.Proofs.Ytaolhhgfnhhgaaa
open Go Go.RowKit Sm
attribute [local go_sem] Oper.semAt_some

/-- Where a list that was cut lies. -/
def cutE {α : Type} (E : El α) (p : Option Addr) (f n : Nat) : Option Addr := if n = 0 then p else dropP E p f
theorem Els.cut {α : Type} {E : El α} {w : World} {p : Option Addr} {L : List α} (h : Els E w p L) (f n : Nat) : Els E w (cutE E p f n) ((L.drop f).take n) := by
  by_cases hn : n = 0
  · subst hn; simp only [List.take_zero]; exact Els.nil _ _
  · rw [cutE, if_neg hn]; exact (h.drop f).take n
theorem cutE_ok {α : Type} {E : El α} {p : Option Addr} {n c : Nat} (h : SlOk p n c) (f m : Nat) (hfm : f + m ≤ n) : SlOk (cutE E p f m) m m := by
  refine ⟨Nat.le_refl _, Nat.le_trans (by have := h.le; omega) h.few, fun hp => ?_, fun a ha => ?_⟩
  · unfold cutE at hp
    split at hp
    · omega
    · unfold dropP at hp
      cases p with
      | none => have := h.none rfl; have := h.le; omega
      | some a => cases hp
  · unfold cutE at ha
    split at ha
    · exact h.spot a ha
    · unfold dropP at ha
      cases p with
      | none => cases ha
      | some b => cases ha; rfl

def tsz (T : List (List UInt8)) : Nat := (T.map fun s => s.length + 1).sum
theorem tsz_take (T : List (List UInt8)) (k : Nat) (h : k < T.length) : tsz (T.take (k + 1)) = tsz (T.take k) + ((T.getD k []).length + 1) := by
  have e : T.take (k + 1) = T.take k ++ [T.getD k []] := by
    rw [List.take_add_one]; simp [List.getD, h]
  rw [e]; simp [tsz]
theorem tsz_le : ∀ (T : List (List UInt8)), (∀ s ∈ T, s.length ≤ 1000000) → tsz T ≤ T.length * 1000001
  | [], _ => by simp [tsz]
  | s :: r, h => by
    have h1 := tsz_le r fun x hx => h x (List.mem_cons_of_mem _ hx)
    have h2 := h s List.mem_cons_self
    simp only [tsz, List.map_cons, List.sum_cons, List.length_cons] at h1 ⊢
    omega
theorem Els.text {w : World} {p : Option Addr} {L : List (List UInt8)} (h : Els elK w p L) (hne : L ≠ []) : ∃ b o, p = some ⟨b, o, none⟩ ∧ ∀ i, i < L.length → w.cell? ⟨b, o + i, none⟩ = some (.string ⟨(L.getD i []).toArray⟩) := by
  obtain ⟨b, o, hp, hc⟩ := h hne
  exact ⟨b, o, hp, fun i hi => by have := hc i 0 hi (by decide); rwa [show o + i * elK.z + 0 = o + i from by show o + i * 1 + 0 = o + i; omega] at this⟩

def Nd.ahead (n : Nd) (at' : Nat) : List (List UInt8) := if at' = 0 ∨ n.ks.length = 0 then [] else [n.ks.getD (at' - 1) []]
theorem Nd.ahead_len (n : Nd) (i : Nat) : (n.ahead i).length ≤ 1 := by unfold Nd.ahead; split <;> simp
theorem Nd.ahead_mem {n : Nd} {i : Nat} (hi : n.ks.length = 0 ∨ i ≤ n.ks.length) (h : ∀ s ∈ n.ks, s.length ≤ 1000000) : ∀ s ∈ n.ahead i, s.length ≤ 1000000 := fun s hs => by
  unfold Nd.ahead at hs
  split at hs
  · simp at hs
  · rw [List.mem_singleton] at hs; subst hs; exact h _ (getD_mem (by omega) [])

end Go.Proofs.Ytaolhhgfnhhgaaa

/- The iterator over a node's parts; the walk of Size. -/
namespace Go.Proofs.Ytaolhhgfnhhgaaa
open Go Go.RowKit Sm
attribute [local go_sem] Oper.semAt_some

theorem calls_wide6 {P : Program} {f : FuncId} {args : Array Value} {w : World} {R : Ending → World → Prop} {n : Nat} (h : Calls P f args w R) : Fence.wide.fn f ∧ CallsIn Fence.wide n P f args w R :=
  ⟨trivial, (callsIn_wide (n := n)).2 h⟩
theorem below_drewN6 {w w' : World} (h : ∃ n, w' = w.drewN n) : Below w.heap.size w w' := by obtain ⟨n, rfl⟩ := h; exact bn_drewN n (Below.refl _ _)
def Nd.part (n : Nd) (k : Nat) : Nat := if k < n.ps.length then tsz [(n.ps.getD k Pr.zero).k, (n.ps.getD k Pr.zero).v] else tsz (n.ahead k) + 4
def handsQ (n : Nd) (k : Nat) : Array Value := #[.int .i64 k, .int .i64 (n.part k)]
end Go.Proofs.Ytaolhhgfnhhgaaa

/- A node's bytes, part by part; the walk of Size. -/
namespace Go.Proofs.Ytaolhhgfnhhgaaa
open Go Go.RowKit Sm
attribute [local go_sem] Oper.semAt_some

def txB (T : List (List UInt8)) : List UInt8 := T.flatMap fun s => putB s.length 1 ++ s
theorem txB_len (T : List (List UInt8)) : (txB T).length = tsz T := by
  induction T with
  | nil => rfl
  | cons s r ih =>
    simp only [txB, tsz, List.flatMap_cons, List.length_append, putB_length, List.map_cons, List.sum_cons] at ih ⊢
    omega
theorem txB_take (T : List (List UInt8)) (k : Nat) (h : k < T.length) : txB (T.take (k + 1)) = txB (T.take k) ++ putB (T.getD k []).length 1 ++ T.getD k [] := by
  have e : T.take (k + 1) = T.take k ++ [T.getD k []] := by
    rw [List.take_add_one]; simp [List.getD, h]
  rw [e]; simp [txB]
def Nd.partB (n : Nd) (k : Nat) : List UInt8 := if k < n.ps.length then txB [(n.ps.getD k Pr.zero).k, (n.ps.getD k Pr.zero).v] else txB (n.ahead k) ++ putB (n.ds.getD k 0) 4
theorem partB_len (n : Nd) (k : Nat) : (n.partB k).length = n.part k := by
  unfold Nd.partB Nd.part
  split
  · rw [txB_len]
  · rw [List.length_append, txB_len, putB_length]
def encP (n : Nd) (k : Nat) : List UInt8 := putB (n.ps.length + n.ds.length) 1 ++ (List.range k).flatMap n.partB
theorem encP_zero (n : Nd) : encP n 0 = putB (n.ps.length + n.ds.length) 1 := by simp [encP]
theorem encP_succ (n : Nd) (k : Nat) : encP n (k + 1) = encP n k ++ n.partB k := by
  unfold encP
  rw [List.range_succ]
  simp
theorem enc_leaf {n : Nd} (h : n.ds.length = 0) : n.enc = encP n (n.ps.length + n.ds.length) := by
  have h' : ∀ k, k ≤ n.ps.length → psB n.ps k = encP n k := by
    intro k
    induction k with
    | zero => intro _; simp [psB, encP, h]
    | succ k ih =>
      intro hk
      rw [psB_succ n.ps k (by omega), encP_succ, ih (by omega), Nd.partB, if_pos (by omega)]
      simp [txB]
  rw [Nd.enc, if_pos h, h, Nat.add_zero, h' _ (Nat.le_refl _)]
theorem enc_branch {n : Nd} (h : n.ps.length = 0) (hkd : n.ks.length + 1 = n.ds.length) : n.enc = encP n (n.ps.length + n.ds.length) := by
  have h' : ∀ k, k ≤ n.ks.length → bsB n k = encP n (k + 1) := by
    intro k
    induction k with
    | zero =>
      intro _
      rw [encP_succ, encP_zero, Nd.partB, if_neg (by omega), Nd.ahead, if_pos (.inl rfl), h, Nat.zero_add]
      simp [bsB, txB]
    | succ k ih =>
      intro hk
      rw [bsB_succ, encP_succ, ih (by omega), Nd.partB, if_neg (by omega), Nd.ahead, if_neg (by omega)]
      simp [txB]
  rw [Nd.enc, if_neg (by omega), h, Nat.zero_add, ← hkd, h' _ (Nat.le_refl _)]
theorem Nd.right_xd {n : Nd} (h : n.right = true) : n.ps.length = 0 ∨ n.ds.length = 0 := by
  rcases Bool.or_eq_true_iff.1 h with h | h
  · exact Or.inr (n.leaf_iff.1 h).1.2.1
  · exact Or.inl (n.branch_iff.1 h).1.1
theorem enc_right {n : Nd} (h : n.right = true) : n.enc = encP n (n.ps.length + n.ds.length) := by
  rcases Bool.or_eq_true_iff.1 h with h | h
  · exact enc_leaf (n.leaf_iff.1 h).1.2.1
  · exact enc_branch (n.branch_iff.1 h).1.1 (n.branch_iff.1 h).1.2.2.2
theorem part_le {n : Nd} (hok : n.Ok) (hkd : n.ds.length = 0 ∨ n.ks.length + 1 = n.ds.length) {k : Nat} (hk : k < n.ps.length + n.ds.length) (hx : n.ps.length = 0 ∨ n.ds.length = 0) : n.part k ≤ 2000006 := by
  unfold Nd.part
  split
  · rename_i h
    obtain ⟨h1, h2⟩ := hok.pt _ (getD_mem h Pr.zero)
    simp only [tsz, List.map_cons, List.map_nil, List.sum_cons, List.sum_nil]
    omega
  · have h1 := tsz_le (n.ahead k) (Nd.ahead_mem (by omega) hok.kt)
    have h2 := n.ahead_len k
    have h3 : (n.ahead k).length * 1000001 ≤ 1 * 1000001 := Nat.mul_le_mul_right _ h2
    omega
theorem encP_len {n : Nd} (hok : n.Ok) (hkd : n.ds.length = 0 ∨ n.ks.length + 1 = n.ds.length) (hx : n.ps.length = 0 ∨ n.ds.length = 0) : ∀ k, k ≤ n.ps.length + n.ds.length → (encP n k).length ≤ 1 + k * 2000006
  | 0, _ => by simp [encP]
  | k + 1, hk => by
    have ih := encP_len hok hkd hx k (by omega)
    have := part_le hok hkd (show k < n.ps.length + n.ds.length by omega) hx
    rw [encP_succ, List.length_append, partB_len]
    omega

theorem results_int6 {fn : Func} {p : Tmp} {tmps : Array Value} {w : World} {x : Value} (h : fn.results = #[.tmp p]) (hp : tmps.getD p undef = x) : (results fn tmps).run Try.prog w = .ok x w := by
  rw [results_tmp h]
  simpa using hp
end Go.Proofs.Ytaolhhgfnhhgaaa

/- Texts appended to bytes; the walk of withTexts. -/
namespace Go.Proofs.Ytaolhhgfnhhgaaa
open Go Go.RowKit Sm
attribute [local go_sem] Oper.semAt_some

/-! ### append of a text to bytes -/
theorem run_append_room_text {P : Program} (w : World) (t u ty e : TypeId) (i : TypeInfo) (ht : P.underlying t = some (.slice e)) (hu : P.underlying u = some .string) (hi : P.info? e = some i) (hs1 : i.size = 1)
    (g sLen sCap : Nat) (cur : Array Value) (hg : w.heap[g]? = some (.cells cur e (0, 0))) (s : List UInt8)
    (hroom : sLen + s.length ≤ sCap) (hfit : sLen + s.length ≤ cur.size) :
    (Builtin.append_ #[t, u] ty #[.slice (some ⟨g, 0, none⟩) sLen sCap, .string ⟨s.toArray⟩]).run P w =
      .ok (.slice (some ⟨g, 0, none⟩) (sLen + s.length) sCap) (w.setRow g (cur.toList.take sLen ++ u8s s ++ cur.toList.drop (sLen + s.length)).toArray) := by
  have hl : (u8s s).length = s.length := by simp [u8s]
  have hst := run_storeCells_at P g sLen e (u8s s) 0 cur w hg (by rw [hl]; simpa using hfit) (fun v hv => by simp only [u8s, List.mem_map] at hv; obtain ⟨c, _, rfl⟩ := hv; rfl)
  simp only [Nat.add_zero, hl] at hst
  have hn : (⟨s.toArray⟩ : ByteArray).size = s.length := by simp [ByteArray.size]
  simp [Builtin.append_, run_underlying ht, run_underlying hu, sizeOf, typeInfo, hi, Builtin.lenOf, Builtin.firstCells, hn, hroom, Addr.add_lit, hs1]
  have hk : List.take s.length (List.map (fun b : UInt8 => Value.int IntKind.u8 (b.toNat : Int)) s) = u8s s := by
    rw [List.take_of_length_le (by simp)]; rfl
  rw [hk, hst]
  simp
theorem run_append_grow_text {P : Program} (w : World) (t u ty e : TypeId) (i : TypeInfo) (z : Value) (ht : P.underlying t = some (.slice e)) (hu : P.underlying u = some .string) (hi : P.info? e = some i) (hz : i.zero = some z) (hs1 : i.size = 1)
    (b : Addr) (sLen sCap : Nat) (olds : List Value) (hlo : olds.length = sLen) (holds : ∀ j v, olds[j]? = some v → w.cell? (b.add j) = some v) (s : List UInt8)
    (hg : sCap < sLen + s.length) (h63 : ((sLen + s.length : Nat) : Int) ≤ 9223372036854775807) (hfit : Builtin.nextslicecap (sLen + s.length) sCap * i.bytes ≤ 281474976710656) :
    (Builtin.append_ #[t, u] ty #[.slice (some b) sLen sCap, .string ⟨s.toArray⟩]).run P w =
      .ok (.slice (some ⟨w.heap.size, 0, none⟩) (sLen + s.length) (grownCap w (sLen + s.length) sCap e))
        (w.drew.alloc (.cells (olds.toArray ++ (u8s s).toArray ++ Builtin.zeroCells z.cells (grownCap w (sLen + s.length) sCap e - (sLen + s.length))) e)) := by
  have hn : ¬ (sLen + s.length ≤ sCap) := by omega
  have h63' : ¬ (9223372036854775807 < ((sLen : Int) + (s.length : Int))) := by omega
  have h48' : ¬ (281474976710656 < Builtin.nextslicecap (sLen + s.length) sCap * i.bytes) := by omega
  have hz' : (⟨s.toArray⟩ : ByteArray).size = s.length := by simp [ByteArray.size]
  have hfo := run_firstCells_some (P := P) w.drew 1 sLen b sLen sCap olds (by simpa using hlo) (by simpa using holds)
  simp [Builtin.append_, run_underlying ht, run_underlying hu, sizeOf, typeInfo, zeroValue, hi, hz, hs1, Builtin.lenOf, hz', hn, h63', h48', Question.forced, hfo, newRow, grownCap]
  simp [Builtin.firstCells]
  congr 2
  apply Array.ext'
  simp [u8s, u8v, List.append_assoc]
theorem run_append_own_text {P : Program} (w : World) (base : Nat) (t u ty e : TypeId) (i : TypeInfo) (z : Value) (bytes : Nat) (ht : P.underlying t = some (.slice e)) (hu : P.underlying u = some .string) (hi : P.info? e = some i) (hz : i.zero = some z)
    (hs1 : i.size = 1) (hby : i.bytes = bytes) (hzs : z.cells.size = 1)
    (v : Value) (n : Nat) (xs : List Value) (hown : w.ownsRow base e 1 v n xs) (s : List UInt8)
    (h63 : n + s.length ≤ maxLen) (hbytes : (n + s.length) * bytes ≤ 140737488355328) (hbase : base ≤ w.heap.size) :
    ∃ v' w', (Builtin.append_ #[t, u] ty #[v, .string ⟨s.toArray⟩]).run P w = .ok v' w' ∧ w'.ownsRow base e 1 v' (n + s.length) (xs ++ u8s s) ∧ w.grownBy w' v.ownBlock ∧
      (v'.ownBlock = v.ownBlock ∨ v'.ownBlock = some w.heap.size) := by
  subst hby
  have hl : (u8s s).length = s.length := by simp [u8s]
  have hxn : xs.length = n := by have := hown.1; omega
  have hsmall : n + s.length ≤ 9223372036854775807 := by simp only [maxLen] at h63; omega
  have hlen : (xs ++ u8s s).length = (n + s.length) * 1 := by rw [List.length_append, hxn, hl, Nat.mul_one]
  have grown : ∀ (old : Nat), old < n + s.length → ∀ (row : Option Nat),
      (w.drew.alloc (.cells (xs.toArray ++ (u8s s).toArray ++ Builtin.zeroCells z.cells (grownCap w (n + s.length) old e - (n + s.length))) e)).ownsRow base e 1
        (.slice (some ⟨w.heap.size, 0, none⟩) (n + s.length) (grownCap w (n + s.length) old e)) (n + s.length) (xs ++ u8s s) ∧
      w.grownBy (w.drew.alloc (.cells (xs.toArray ++ (u8s s).toArray ++ Builtin.zeroCells z.cells (grownCap w (n + s.length) old e - (n + s.length))) e)) row := by
    intro old ho row
    have hge := grownCap_ge w (n + s.length) old e
    have hcm : grownCap w (n + s.length) old e ≤ maxLen := grownCap_le_maxLen w (n + s.length) old e h63
    refine ⟨⟨hlen, .inr ⟨w.heap.size, _, _, rfl, hbase, heap_alloc_new w.drew _, hge, hcm, ?_, ?_⟩⟩, ⟨rfl, rfl, rfl, by simp, fun k hk _ => by first | exact heap_alloc_old w.drew _ hk | exact heap_alloc_old w.drew _ _ hk⟩⟩
    · simp only [Array.size_append, List.size_toArray, size_zeroCells, hzs, hxn, hl]
      omega
    · simp only [Array.toList_append, List.append_assoc]
      rw [← List.append_assoc, ← hlen]
      exact List.take_left
  rcases hown.2 with ⟨rfl, rfl⟩ | ⟨g, cap, cur, rfl, hbg, hg, hnc, hcm, hcs, htake⟩
  · obtain rfl : xs = [] := List.eq_nil_of_length_eq_zero hxn
    by_cases hm : s.length = 0
    · obtain rfl : s = [] := List.eq_nil_of_length_eq_zero hm
      refine ⟨.slice none 0 0, w, ?_, World.ownsRow_nil w base e 1, World.grownBy.refl _ _, Or.inl rfl⟩
      have he : (⟨([] : List UInt8).toArray⟩ : ByteArray) = ByteArray.empty := rfl
      rw [he]
      simp [Builtin.append_, run_underlying ht, run_underlying hu, sizeOf, typeInfo, hi, Builtin.lenOf, Builtin.firstCells]
    · have hsz : (⟨s.toArray⟩ : ByteArray).size = s.length := by simp [ByteArray.size]
      have hr := run_append_nil_string (P := P) (w := w) t u ty e i z ht hu hi hz ⟨s.toArray⟩ (by omega) (by omega) (by rw [hsz]; have hb := hbytes; simp only [Nat.zero_add] at hb; omega)
      have hgr := grown 0 (by omega) (Value.ownBlock (.slice none 0 0))
      simp only [Nat.zero_add, List.nil_append, Array.empty_append] at hgr ⊢
      rw [hsz] at hr
      have hx : Array.map (fun b : UInt8 => Value.int IntKind.u8 (b.toNat : Int)) s.toArray = (u8s s).toArray := by
        apply Array.ext'
        simp [u8s, u8v]
      simp only [hx] at hr
      exact ⟨_, _, hr, hgr.1, hgr.2, Or.inr rfl⟩
  · by_cases hroom : n + s.length ≤ cap
    · have hr := run_append_room_text (P := P) w t u ty e i ht hu hi hs1 g n cap cur hg s hroom (by rw [hcs]; omega)
      refine ⟨_, _, hr, ⟨hlen, .inr ⟨g, cap, _, rfl, hbg, setRow_heap w g cur _ e _ hg, hroom, hcm, ?_, ?_⟩⟩, ⟨rfl, rfl, rfl, by simp, fun k _ hk => setRow_other w g k _ (fun e => hk (by simp [Value.ownBlock, e]))⟩, Or.inl rfl⟩
      · simp only [List.size_toArray, List.length_append, List.length_take, List.length_drop, Array.length_toList, hl]
        omega
      · rw [Nat.mul_one] at htake
        rw [htake, ← hlen]
        exact List.take_left
    · have holds : ∀ j u, xs[j]? = some u → w.cell? ((⟨g, 0, none⟩ : Addr).add j) = some u := hown.cells (g := g) rfl
      have hr := run_append_grow_text (P := P) w t u ty e i z ht hu hi hz hs1 ⟨g, 0, none⟩ n cap xs hxn holds s (by omega) (by omega) (growslice_fits (by omega) hbytes)
      have hgr := grown cap (by omega) (Value.ownBlock (.slice (some ⟨g, 0, none⟩) n cap))
      exact ⟨_, _, hr, hgr.1, hgr.2, Or.inr rfl⟩

theorem wpList_append_text {w : World} {ops : Array Oper} {rest : List Oper} {o : Oper} {a : Act} {Q : Exit → Act → World → Prop} (hgd : o.guard = none) (s x : Operand)
    (ho : o.op = .call { callee := .builtin .append, args := #[s, x], argTypes := #[46, 9] })
    (base : Nat) (v : Value) (L T : List UInt8) (hs : a.eval s = v) (hown : OwnB w base v L) (hx : a.eval x = .string ⟨T.toArray⟩) (hL : L.length + T.length ≤ 100000000000) (hbase : base ≤ w.heap.size)
    (h : ∀ v' w', OwnB w' base v' (L ++ T) → w.grownBy w' v.ownBlock → (∀ k, v'.ownBlock = some k → v.ownBlock = some k ∨ w.heap.size ≤ k) → wpList Try.prog ops Q rest (a.put o.dst v') w') : wpList Try.prog ops Q (o :: rest) a w := by
  obtain ⟨i0, hi0, hz0, hz1, hz2⟩ := info_parts info_u8
  obtain ⟨v', w', hr, h1, h2, h3⟩ := run_append_own_text (P := Try.prog) w base 46 9 o.type 5 i0 _ 1 Try.underlying46 Try.underlying9 hi0 hz0 hz1 hz2 rfl v L.length (u8s L) hown T (by unfold maxLen; omega) (by omega) hbase
  refine wpList_plain hgd fun K hK => ?_
  unfold Oper.wp execOp
  simp only [ho, resolve, invoke, builtin, Sem.run_bind, Sem.run_pure, Result.andThen_ok, List.map_toArray, List.map_cons, List.map_nil, hs, hx, hr]
  refine hK _ _ (h v' w' ?_ h2 fun k hk => ?_)
  · unfold OwnB
    simpa [u8s] using h1
  · rcases h3 with h3 | h3
    · exact .inl (by rw [← h3]; exact hk)
    · right; rw [h3] at hk; cases hk; exact Nat.le_refl _
end Go.Proofs.Ytaolhhgfnhhgaaa
