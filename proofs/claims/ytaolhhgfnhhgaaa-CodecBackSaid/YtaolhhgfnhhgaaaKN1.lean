/- Texts byte by byte: the walk of Less; pairs, texts, numbers as elements; a node. -/
import Derived.BigQuiet
import Derived.Test.YtaolhhgfnhhgaaaKN0
import Derived.Test.YtaolhhgfnhhgaaaKP3
import Derived.Test.YtaolhhgfnhhgaaaKF1
namespace Go.Proofs.Ytaolhhgfnhhgaaa
open Go Go.RowKit Sm
attribute [local go_sem] Oper.semAt_some

theorem bn_then {w w1 w2 : World} (h : Below w.heap.size w w1) (k : Below w1.heap.size w1 w2) : Below w.heap.size w w2 := h.trans (k.mono h.size)
theorem bn_drewN {w w1 : World} (n : Nat) (h : Below w.heap.size w w1) : Below w.heap.size w (w1.drewN n) := ⟨h.os, h.tape, h.output, h.size, h.block⟩

theorem drewN_more {w w1 : World} (m : Nat) : (∃ n, w1 = w.drewN n) → ∃ n, w1.drewN m = w.drewN n := fun ⟨n, h⟩ => ⟨n + m, by rw [h, World.drewN_drewN]⟩

def lessB : List UInt8 → List UInt8 → Bool
  | [], b => decide (0 < b.length)
  | _ :: _, [] => false
  | x :: r, y :: s => if x = y then lessB r s else decide (x.toNat < y.toNat)
theorem lessB_at : ∀ (a b : List UInt8) (m : Nat), m ≤ a.length → m ≤ b.length → a.take m = b.take m → (m = a.length ∨ m = b.length → lessB a b = decide (a.length < b.length)) ∧ (m < a.length → m < b.length → a.getD m 0 ≠ b.getD m 0 → lessB a b = decide ((a.getD m 0).toNat < (b.getD m 0).toNat)) := by
  intro a
  induction a with
  | nil =>
    intro b m h1 h2 h3
    refine ⟨fun _ => by simp [lessB], fun h => by simp at h⟩
  | cons x r ih =>
    intro b m h1 h2 h3
    cases b with
    | nil => exact ⟨fun _ => by simp [lessB], fun _ h => by simp at h⟩
    | cons y s =>
      cases m with
      | zero =>
        refine ⟨fun h => by simp at h, fun _ _ hne => ?_⟩
        simp at hne
        simp [lessB, hne]
      | succ m =>
        simp only [List.take_succ_cons, List.cons.injEq] at h3
        obtain ⟨rfl, h3⟩ := h3
        obtain ⟨k1, k2⟩ := ih s m (by simpa using h1) (by simpa using h2) h3
        refine ⟨fun h => ?_, fun h4 h5 hne => ?_⟩
        · have := k1 (by simpa using h)
          simp [lessB, this]
        · have := k2 (by simpa using h4) (by simpa using h5) (by simpa using hne)
          simpa [lessB] using this
theorem take_next {a b : List UInt8} {m : Nat} (h1 : m < a.length) (h2 : m < b.length) (h : a.take m = b.take m) (he : a.getD m 0 = b.getD m 0) : a.take (m + 1) = b.take (m + 1) := by
  rw [List.take_add_one, List.take_add_one, h]
  have e1 : a[m]? = some (a.getD m 0) := by simp [List.getD, h1]
  have e2 : b[m]? = some (b.getD m 0) := by simp [List.getD, h2]
  rw [e1, e2, he]

theorem below_drewN' {w w' : World} (h : ∃ n, w' = w.drewN n) : Below w.heap.size w w' := by
  obtain ⟨n, rfl⟩ := h
  exact bn_drewN n (Below.refl _ _)

/-! ### A node -/
structure Pr where
  k : List UInt8
  v : List UInt8
def Pr.zero : Pr := ⟨[], []⟩
def Pr.vv (p : Pr) : Value := .agg #[.string ⟨p.k.toArray⟩, .string ⟨p.v.toArray⟩]
def sv (s : List UInt8) : Value := .string ⟨s.toArray⟩
def elK : El (List UInt8) where
  enc s := [sv s]
  z := 1
  ty := 9
  sl := 40
  bytes := 16
  zero := .string ⟨#[]⟩
  d := []
  len _ := rfl
  one x v hv := by
    simp only [List.mem_cons, List.not_mem_nil, or_false] at hv
    subst hv; rfl
  pos := by decide
  under := by kernel_rfl
  info := by kernel_rfl
  zlen := rfl
  few := by decide
end Go.Proofs.Ytaolhhgfnhhgaaa

/- A node: what it is, when it is right; the walk of RightPair. -/
namespace Go.Proofs.Ytaolhhgfnhhgaaa
open Go Go.RowKit Sm
attribute [local go_sem] Oper.semAt_some

/-- So many hold. -/
def allTo (f : Nat → Bool) (n : Nat) : Bool := (List.range n).all f
theorem allTo_iff (f : Nat → Bool) (n : Nat) : allTo f n = true ↔ ∀ i, i < n → f i = true := by simp [allTo]
theorem allTo_false {f : Nat → Bool} {n k : Nat} (hk : k < n) (h : f k = false) : allTo f n = false := by
  cases ha : allTo f n with
  | false => rfl
  | true => rw [(allTo_iff f n).1 ha k hk] at h; cases h
structure Nd where
  ps : List Pr
  ks : List (List UInt8)
  ds : List Nat
def Nd.zero : Nd := ⟨[], [], []⟩
structure Nd.Ok (n : Nd) : Prop where
  p : n.ps.length ≤ 100000
  k : n.ks.length ≤ 100000
  d : n.ds.length ≤ 100000
  pt : ∀ p ∈ n.ps, p.k.length ≤ 1000000 ∧ p.v.length ≤ 1000000
  kt : ∀ s ∈ n.ks, s.length ≤ 1000000
  dt : ∀ d ∈ n.ds, d < 4294967296
theorem getD_mem {α : Type} {L : List α} {i : Nat} (h : i < L.length) (d : α) : L.getD i d ∈ L := by
  rw [List.getD, List.getElem?_eq_getElem h]; exact List.getElem_mem h
def rightP (p : Pr) : Bool := decide (1 ≤ p.k.length ∧ p.k.length ≤ 24 ∧ p.v.length ≤ 60)
theorem rightP_iff (p : Pr) : rightP p = true ↔ (1 ≤ p.k.length ∧ p.k.length ≤ 24 ∧ p.v.length ≤ 60) := by simp [rightP]
def goodP (L : List Pr) (i : Nat) : Bool := rightP (L.getD i Pr.zero) && (decide (i = 0) || lessB (L.getD (i - 1) Pr.zero).k (L.getD i Pr.zero).k)
def goodK (L : List (List UInt8)) (i : Nat) : Bool := decide (1 ≤ (L.getD i []).length ∧ (L.getD i []).length ≤ 24) && (decide (i = 0) || lessB (L.getD (i - 1) []) (L.getD i []))
def goodD (L : List Nat) (i : Nat) : Bool := decide (2 ≤ L.getD i 0 ∧ L.getD i 0 < 16384)
def Nd.leaf (n : Nd) : Bool := decide (n.ks.length = 0 ∧ n.ds.length = 0 ∧ n.ps.length ≤ 255) && allTo (goodP n.ps) n.ps.length
def Nd.branch (n : Nd) : Bool := decide (n.ps.length = 0 ∧ 1 ≤ n.ds.length ∧ n.ds.length ≤ 255 ∧ n.ks.length + 1 = n.ds.length) && (allTo (goodD n.ds) n.ds.length && allTo (goodK n.ks) n.ks.length)
def Nd.right (n : Nd) : Bool := n.leaf || n.branch

/-- Where a node lies. -/
structure NdP where
  pp : Option Addr
  cp : Nat
  pk : Option Addr
  ck : Nat
  pd : Option Addr
  cd : Nat
def Nd.v (n : Nd) (a : NdP) : Value := .agg #[.slice a.pp n.ps.length a.cp, .slice a.pk n.ks.length a.ck, .slice a.pd n.ds.length a.cd]
theorem box3 {w : World} {g : Nat} {a0 a1 a2 : Value} {t : TypeId} (h : w.heap[g]? = some (.cells #[a0, a1, a2] t (0, 0))) :
    (w.cell? ⟨g, 0, none⟩ = some a0 ∧ w.cell? ⟨g, 1, none⟩ = some a1 ∧ w.cell? ⟨g, 2, none⟩ = some a2) ∧ (w.frozen? ⟨g, 0, none⟩ = false ∧ w.frozen? ⟨g, 1, none⟩ = false ∧ w.frozen? ⟨g, 2, none⟩ = false) := by
  have h' : w.heap[g]? = some (.cells [a0, a1, a2].toArray t (0, 0)) := h
  exact ⟨⟨cell_whole h' 0, cell_whole h' 1, cell_whole h' 2⟩, frozen_whole h _, frozen_whole h _, frozen_whole h _⟩

theorem Nd.leaf_iff (n : Nd) : n.leaf = true ↔ (n.ks.length = 0 ∧ n.ds.length = 0 ∧ n.ps.length ≤ 255) ∧ ∀ i, i < n.ps.length → goodP n.ps i = true := by simp [Nd.leaf, allTo_iff]
theorem Nd.branch_iff (n : Nd) : n.branch = true ↔ (n.ps.length = 0 ∧ 1 ≤ n.ds.length ∧ n.ds.length ≤ 255 ∧ n.ks.length + 1 = n.ds.length) ∧ (∀ i, i < n.ds.length → goodD n.ds i = true) ∧ ∀ i, i < n.ks.length → goodK n.ks i = true := by simp [Nd.branch, allTo_iff]

end Go.Proofs.Ytaolhhgfnhhgaaa

/- The walks of branch, Right (the document's own). -/
namespace Go.Proofs.Ytaolhhgfnhhgaaa
open Go Go.RowKit Sm
attribute [local go_sem] Oper.semAt_some

end Go.Proofs.Ytaolhhgfnhhgaaa
