/- The walks of Size, Encode, Place (the document's own). -/
import Derived.Test.YtaolhhgfnhhgaaaKN1
import Derived.Test.YtaolhhgfnhhgaaaKN4
import Derived.Test.YtaolhhgfnhhgaaaKR
namespace Go.Proofs.Ytaolhhgfnhhgaaa
open Go Go.RowKit Sm
attribute [local go_sem] Oper.semAt_some

theorem Nd.right_kd {n : Nd} (h : n.right = true) : n.ds.length = 0 ∨ n.ks.length + 1 = n.ds.length := by
  rcases Bool.or_eq_true_iff.1 h with h | h
  · exact Or.inl (n.leaf_iff.1 h).1.2.1
  · exact Or.inr (n.branch_iff.1 h).1.2.2.2
theorem Nd.enc_pos (n : Nd) : 1 ≤ n.enc.length := by
  unfold Nd.enc psB bsB
  split <;> simp only [List.length_append, putB_length] <;> omega
theorem Nd.enc_le {n : Nd} (hok : n.Ok) : n.enc.length ≤ 9000000000000 := by
  unfold Nd.enc
  have := hok.p; have := hok.k
  split
  · have := psB_len hok.pt n.ps.length (Nat.le_refl _); omega
  · have := bsB_len hok.kt n.ks.length (Nat.le_refl _); omega
def Nd.size (n : Nd) : Nat := if n.right then n.enc.length else 0
def Nd.fits (n : Nd) : Bool := n.right && decide (n.enc.length ≤ 237)
def Nd.kind (n : Nd) : Nat := if n.ds.length = 0 then 1 else 2
def Nd.encR (n : Nd) : Value := if n.fits then .tuple #[.int .i64 n.kind, .string ⟨n.enc.toArray⟩, .int .i64 0] else .tuple #[.int .i64 0, .string ⟨#[]⟩, .int .i64 60]

end Go.Proofs.Ytaolhhgfnhhgaaa

/- Nodes that a call makes of its own; the law's text. -/
namespace Go.Proofs.Ytaolhhgfnhhgaaa
open Go Go.RowKit Sm
attribute [local go_sem] Oper.semAt_some

/-- A slice as Go has them. -/
structure SlOk (p : Option Addr) (n c : Nat) : Prop where
  le : n ≤ c
  few : c ≤ 9223372036854775807
  none : p = none → c = 0
  spot : ∀ a, p = some a → a.spot = Option.none
structure NdFit (n : Nd) (a : NdP) : Prop where
  p : SlOk a.pp n.ps.length a.cp
  k : SlOk a.pk n.ks.length a.ck
  d : SlOk a.pd n.ds.length a.cd
section
variable {w w' : World} {base : Nat} {v1 v2 v3 v' : Value} {n : Nd}
theorem OwnE.fit {α : Type} {E : El α} {v : Value} {L : List α} (h : OwnE E w base v L) : ∃ p c, v = .slice p L.length c ∧ Els E w p L ∧ SlOk p L.length c ∧ ∀ a, p = some a → base ≤ a.block ∧ a.block < w.heap.size ∧ v.ownBlock = some a.block := by
  have hlt := World.ownsRow.lt h
  obtain ⟨h1, h2⟩ := h
  rcases h2 with ⟨rfl, h0⟩ | ⟨g, cap, cur, rfl, hg, hh, hn, hc, hs, ht⟩
  · obtain rfl : L = [] := List.eq_nil_of_length_eq_zero h0
    exact ⟨none, 0, rfl, Els.nil _ _, ⟨Nat.le_refl _, by decide, fun _ => rfl, fun a ha => (by cases ha)⟩, fun a ha => (by cases ha)⟩
  · exact ⟨_, _, rfl, els_of_block hh ht, ⟨by omega, by first | exact hc | (unfold maxLen at hc; omega), fun h => (by cases h), fun a ha => (by cases ha; rfl)⟩, fun a ha => by cases ha; exact ⟨hg, lt_of_heap hh, rfl⟩⟩
end

theorem min_len6 (n k : Nat) (W : World) : (Builtin.min_ #[3, 3] 3 #[.int .i64 (n : Int), .int .i64 (k : Int)]).run Try.prog W = .ok (.int .i64 ((min n k : Nat) : Int)) W := by
  rw [run_min_int2]
  by_cases h : (k : Int) < n
  · rw [if_pos h, show min n k = k by omega]
  · rw [if_neg h, show min n k = n by omega]
end Go.Proofs.Ytaolhhgfnhhgaaa

/- The walk of the law's cut. -/
namespace Go.Proofs.Ytaolhhgfnhhgaaa
open Go Go.RowKit Sm
attribute [local go_sem] Oper.semAt_some

def cutPr (p : Pr) : Pr := ⟨p.k.take 70, p.v.take 70⟩
/-- The law's node. -/
def Nd.cut (n : Nd) : Nd := ⟨(n.ps.take 260).map cutPr, (n.ks.take 260).map (·.take 70), n.ds.take 260⟩
section
variable {w W W' : World} {n m : Nd} {a : NdP} {v1 v2 v3 v' : Value}
end

theorem OwnE.less {α : Type} {E : El α} {w : World} {B B' : Nat} {v : Value} {L : List α} (h : OwnE E w B v L) (hB : B' ≤ B) : OwnE E w B' v L := by
  obtain ⟨h1, h2⟩ := h
  refine ⟨h1, ?_⟩
  rcases h2 with h2 | ⟨g, cap, cur, hv, hg, h3⟩
  · exact .inl h2
  · exact .inr ⟨g, cap, cur, hv, Nat.le_trans hB hg, h3⟩
theorem cut_take (P : List Pr) (k : Nat) (h : k < P.length) : (P.take (k + 1)).map cutPr = (P.take k).map cutPr ++ [cutPr (P.getD k Pr.zero)] := by
  have e : P.take (k + 1) = P.take k ++ [P.getD k Pr.zero] := by
    rw [List.take_add_one]; simp [List.getD, h]
  rw [e]; simp
theorem cut_takeK (K : List (List UInt8)) (k : Nat) (h : k < K.length) : (K.take (k + 1)).map (·.take 70) = (K.take k).map (·.take 70) ++ [(K.getD k []).take 70] := by
  have e : K.take (k + 1) = K.take k ++ [K.getD k []] := by
    rw [List.take_add_one]; simp [List.getD, h]
  rw [e]; simp

end Go.Proofs.Ytaolhhgfnhhgaaa

/- A node that is built in a box: what stands in it, what was there ahead of it. -/
namespace Go.Proofs.Ytaolhhgfnhhgaaa
open Go Go.RowKit Sm

section
variable {W0 W W' : World} {G : Nat} {m : Nd} {v1 v2 v3 v' : Value}
theorem bld_set (W' : World) (G o : Nat) (v : Value) (hx : Below W0.heap.size W0 W') (hz : G = W0.heap.size) : Below W0.heap.size W0 (W'.setCell ⟨G, o, none⟩ v) :=
  hx.trans (((Turned.refl (· = G) W').setCell (p := ⟨G, o, none⟩) rfl v).toBelow hx.size (fun k _ hf => by omega))
end
end Go.Proofs.Ytaolhhgfnhhgaaa

/- A node's keys: the order of texts; the iterator over them. -/
namespace Go.Proofs.Ytaolhhgfnhhgaaa
open Go Go.RowKit Sm
attribute [local go_sem] Oper.semAt_some

theorem bytesLess_lessB : ∀ (a b : List UInt8), Op.bytesLess a b = lessB a b
  | [], [] => rfl
  | [], _ :: _ => by simp [Op.bytesLess, lessB]
  | _ :: _, [] => by simp [Op.bytesLess, lessB]
  | x :: r, y :: s => by
    have ih := bytesLess_lessB r s
    by_cases h : x = y
    · subst h
      simp [Op.bytesLess, lessB, ih]
    · have hn : x.toNat ≠ y.toNat := fun e => h (UInt8.toNat_inj.1 e)
      simp [Op.bytesLess, lessB, UInt8.lt_iff_toNat_lt, h]
theorem lessB_irrefl (a : List UInt8) : lessB a a = false := by
  induction a with
  | nil => rfl
  | cons x r ih => simp [lessB, ih]
theorem lessB_trans : ∀ (a b c : List UInt8), lessB a b = true → lessB b c = true → lessB a c = true := by
  intro a
  induction a with
  | nil =>
    intro b c _ h2
    cases c with
    | nil => cases b <;> simp [lessB] at h2
    | cons _ _ => simp [lessB]
  | cons x r ih =>
    intro b c h1 h2
    cases b with
    | nil => simp [lessB] at h1
    | cons y s =>
      cases c with
      | nil => simp [lessB] at h2
      | cons z t =>
        simp only [lessB] at h1 h2 ⊢
        by_cases e1 : x = y
        · subst e1
          simp only [if_true] at h1
          by_cases e2 : x = z
          · subst e2
            simp only [if_true] at h2 ⊢
            exact ih s t h1 h2
          · simp only [if_neg e2] at h2 ⊢
            exact h2
        · simp only [if_neg e1, decide_eq_true_eq] at h1
          by_cases e2 : y = z
          · subst e2
            simp only [if_neg e1, decide_eq_true_eq]
            exact h1
          · simp only [if_neg e2, decide_eq_true_eq] at h2
            have : x ≠ z := by rintro rfl; omega
            simp only [if_neg this, decide_eq_true_eq]
            omega
theorem lessB_total : ∀ (a b : List UInt8), lessB a b = false → a ≠ b → lessB b a = true := by
  intro a
  induction a with
  | nil => intro b h hne; cases b with
    | nil => exact absurd rfl hne
    | cons _ _ => simp [lessB] at h
  | cons x r ih =>
    intro b h hne
    cases b with
    | nil => simp [lessB]
    | cons y s =>
      simp only [lessB] at h ⊢
      by_cases e : x = y
      · subst e
        simp only [if_true] at h ⊢
        exact ih s h (fun e => hne (by rw [e]))
      · have hn : x.toNat ≠ y.toNat := fun e' => e (UInt8.toNat_inj.1 e')
        simp only [if_neg e, decide_eq_false_iff_not] at h
        simp only [if_neg (fun e' : y = x => e e'.symm), decide_eq_true_eq]
        omega
theorem lessB_asymm {a b : List UInt8} (h : lessB a b = true) : lessB b a = false := by
  cases hb : lessB b a with
  | false => rfl
  | true => have := lessB_trans a b a h hb; rw [lessB_irrefl] at this; cases this

def Nd.keys (n : Nd) : List (List UInt8) := n.ps.map (·.k) ++ n.ks
def handsK (n : Nd) (k : Nat) : Array Value := #[.string ⟨(n.keys.getD k []).toArray⟩]
theorem keys_getP {n : Nd} {k : Nat} (h : k < n.ps.length) : n.keys.getD k [] = (n.ps.getD k Pr.zero).k := by
  unfold Nd.keys
  rw [List.getD, List.getElem?_append_left (by simpa using h)]
  simp [List.getD, h]
theorem keys_getK {n : Nd} {k : Nat} : n.keys.getD (n.ps.length + k) [] = n.ks.getD k [] := by
  unfold Nd.keys
  rw [List.getD, List.getElem?_append_right (by simp)]
  simp [List.getD]
theorem keys_len (n : Nd) : n.keys.length = n.ps.length + n.ks.length := by simp [Nd.keys]
theorem Booked.cell6 {B : Nat} {w w' : World} (h : Booked B w w') {a : Addr} {x : Value} (hx : w.cell? a = some x) : w'.cell? a = some x := by
  unfold World.cell? at hx ⊢
  cases hk : w.heap[a.block]? with
  | none => rw [hk] at hx; cases hx
  | some o =>
    rw [hk] at hx
    cases o with
    | cells c t fr => rw [h.heap hk]; exact hx
    | _ => cases hx
theorem Els.booked {α : Type} {E : El α} {B : Nat} {w w' : World} {p : Option Addr} {L : List α} (h : Els E w p L) (hb : Booked B w w') : Els E w' p L := h.cells fun _ _ _ _ _ hx => hb.cell6 hx
end Go.Proofs.Ytaolhhgfnhhgaaa
