/- Texts byte by byte: the walk of Less; pairs, texts, numbers as elements; a node. -/
import Derived.BigQuiet
import Derived.Test.YtokbmimbbeedcaaGreatDoorKN0
import Derived.Test.YtokbmimbbeedcaaGreatDoorKP1
import Derived.Test.YtokbmimbbeedcaaGreatDoorKF1
import Derived.Test.YtokbmimbbeedcaaGreatDoorKR
import Derived.RangeFuncCalls
namespace Go.Proofs.YtokbmimbbeedcaaGreatDoor
open Go Go.RowKit Sm
attribute [local go_sem] Oper.semAt_some

theorem bn_then {w w1 w2 : World} (h : Below w.heap.size w w1) (k : Below w1.heap.size w1 w2) : Below w.heap.size w w2 := h.trans (k.mono h.size)
theorem bn_drewN {w w1 : World} (n : Nat) (h : Below w.heap.size w w1) : Below w.heap.size w (w1.drewN n) := ⟨h.os, h.tape, h.output, h.size, h.block⟩

def lessB : List UInt8 → List UInt8 → Bool
  | [], b => decide (0 < b.length)
  | _ :: _, [] => false
  | x :: r, y :: s => if x = y then lessB r s else decide (x.toNat < y.toNat)
/-! ### A node -/
structure Pr where
  k : List UInt8
  v : List UInt8
def Pr.zero : Pr := ⟨[], []⟩
def Pr.vv (p : Pr) : Value := .agg #[.string ⟨p.k.toArray⟩, .string ⟨p.v.toArray⟩]
def sv (s : List UInt8) : Value := .string ⟨s.toArray⟩
def elP : El Pr where
  enc p := [sv p.k, sv p.v]
  z := 2
  ty := 37
  sl := 22
  bytes := 32
  zero := .agg #[.string ⟨#[]⟩, .string ⟨#[]⟩]
  d := Pr.zero
  len _ := rfl
  one x v hv := by
    simp only [List.mem_cons, List.not_mem_nil, or_false] at hv
    rcases hv with rfl | rfl <;> rfl
  pos := by decide
  under := by kernel_rfl
  info := by kernel_rfl
  zlen := rfl
  few := by decide
def elK : El (List UInt8) where
  enc s := [sv s]
  z := 1
  ty := 9
  sl := 90
  bytes := 16
  zero := .string ⟨#[]⟩
  d := []
  len _ := rfl
  one x v hv := by
    simp only [List.mem_cons, List.not_mem_nil, or_false] at hv
    subst hv; rfl
  pos := by decide
  under := by kernel_rfl
  info := by kernel_rfl
  zlen := rfl
  few := by decide
def elD : El Nat where
  enc n := [.int .u32 n]
  z := 1
  ty := 23
  sl := 51
  bytes := 4
  zero := .int .u32 0
  d := 0
  len _ := rfl
  one x v hv := by
    simp only [List.mem_cons, List.not_mem_nil, or_false] at hv
    subst hv; rfl
  pos := by decide
  under := by kernel_rfl
  info := by kernel_rfl
  zlen := rfl
  few := by decide
end Go.Proofs.YtokbmimbbeedcaaGreatDoor

/- A node: what it is, when it is right; the walk of RightPair. -/
namespace Go.Proofs.YtokbmimbbeedcaaGreatDoor
open Go Go.RowKit Sm
attribute [local go_sem] Oper.semAt_some

/-- So many hold. -/
def allTo (f : Nat → Bool) (n : Nat) : Bool := (List.range n).all f
theorem allTo_iff (f : Nat → Bool) (n : Nat) : allTo f n = true ↔ ∀ i, i < n → f i = true := by simp [allTo]
structure Nd where
  ps : List Pr
  ks : List (List UInt8)
  ds : List Nat
def Nd.zero : Nd := ⟨[], [], []⟩
structure Nd.Ok (n : Nd) : Prop where
  p : n.ps.length ≤ 100000
  k : n.ks.length ≤ 100000
  d : n.ds.length ≤ 100000
  pt : ∀ p ∈ n.ps, p.k.length ≤ 1000000 ∧ p.v.length ≤ 1000000
  kt : ∀ s ∈ n.ks, s.length ≤ 1000000
  dt : ∀ d ∈ n.ds, d < 4294967296
theorem getD_mem {α : Type} {L : List α} {i : Nat} (h : i < L.length) (d : α) : L.getD i d ∈ L := by
  rw [List.getD, List.getElem?_eq_getElem h]; exact List.getElem_mem h
def rightP (p : Pr) : Bool := decide (1 ≤ p.k.length ∧ p.k.length ≤ 24 ∧ p.v.length ≤ 60)
theorem rightP_iff (p : Pr) : rightP p = true ↔ (1 ≤ p.k.length ∧ p.k.length ≤ 24 ∧ p.v.length ≤ 60) := by simp [rightP]
def goodP (L : List Pr) (i : Nat) : Bool := rightP (L.getD i Pr.zero) && (decide (i = 0) || lessB (L.getD (i - 1) Pr.zero).k (L.getD i Pr.zero).k)
def goodK (L : List (List UInt8)) (i : Nat) : Bool := decide (1 ≤ (L.getD i []).length ∧ (L.getD i []).length ≤ 24) && (decide (i = 0) || lessB (L.getD (i - 1) []) (L.getD i []))
def goodD (L : List Nat) (i : Nat) : Bool := decide (2 ≤ L.getD i 0 ∧ L.getD i 0 < 16384)
def Nd.leaf (n : Nd) : Bool := decide (n.ks.length = 0 ∧ n.ds.length = 0 ∧ n.ps.length ≤ 255) && allTo (goodP n.ps) n.ps.length
def Nd.branch (n : Nd) : Bool := decide (n.ps.length = 0 ∧ 1 ≤ n.ds.length ∧ n.ds.length ≤ 255 ∧ n.ks.length + 1 = n.ds.length) && (allTo (goodD n.ds) n.ds.length && allTo (goodK n.ks) n.ks.length)
def Nd.right (n : Nd) : Bool := n.leaf || n.branch

/-- Where a node lies. -/
structure NdP where
  pp : Option Addr
  cp : Nat
  pk : Option Addr
  ck : Nat
  pd : Option Addr
  cd : Nat
def Nd.v (n : Nd) (a : NdP) : Value := .agg #[.slice a.pp n.ps.length a.cp, .slice a.pk n.ks.length a.ck, .slice a.pd n.ds.length a.cd]
structure NdAt (w : World) (n : Nd) (a : NdP) : Prop where
  p : Els elP w a.pp n.ps
  k : Els elK w a.pk n.ks
  d : Els elD w a.pd n.ds
theorem NdAt.below {w w' : World} {n : Nd} {a : NdP} (h : NdAt w n a) (hb : Below w.heap.size w w') : NdAt w' n a := ⟨h.p.below hb, h.k.below hb, h.d.below hb⟩
theorem NdAt.pair {w : World} {n : Nd} {a : NdP} (h : NdAt w n a) (hne : n.ps ≠ []) : ∃ b o, a.pp = some ⟨b, o, none⟩ ∧ ∀ i, i < n.ps.length → w.cell? ⟨b, o + i * 2, none⟩ = some (.string ⟨(n.ps.getD i Pr.zero).k.toArray⟩) ∧ w.cell? ⟨b, o + i * 2 + 1, none⟩ = some (.string ⟨(n.ps.getD i Pr.zero).v.toArray⟩) := by
  obtain ⟨b, o, hp, hc⟩ := h.p hne
  exact ⟨b, o, hp, fun i hi => ⟨hc i 0 hi (by decide), hc i 1 hi (by decide)⟩⟩
theorem NdAt.key {w : World} {n : Nd} {a : NdP} (h : NdAt w n a) (hne : n.ks ≠ []) : ∃ b o, a.pk = some ⟨b, o, none⟩ ∧ ∀ i, i < n.ks.length → w.cell? ⟨b, o + i, none⟩ = some (.string ⟨(n.ks.getD i []).toArray⟩) := by
  obtain ⟨b, o, hp, hc⟩ := h.k hne
  exact ⟨b, o, hp, fun i hi => by have := hc i 0 hi (by decide); rwa [show o + i * elK.z + 0 = o + i from by show o + i * 1 + 0 = o + i; omega] at this⟩
theorem NdAt.kid {w : World} {n : Nd} {a : NdP} (h : NdAt w n a) (hne : n.ds ≠ []) : ∃ b o, a.pd = some ⟨b, o, none⟩ ∧ ∀ i, i < n.ds.length → w.cell? ⟨b, o + i, none⟩ = some (.int .u32 (n.ds.getD i 0)) := by
  obtain ⟨b, o, hp, hc⟩ := h.d hne
  exact ⟨b, o, hp, fun i hi => by have := hc i 0 hi (by decide); rwa [show o + i * elD.z + 0 = o + i from by show o + i * 1 + 0 = o + i; omega] at this⟩
theorem box3 {w : World} {g : Nat} {a0 a1 a2 : Value} {t : TypeId} (h : w.heap[g]? = some (.cells #[a0, a1, a2] t (0, 0))) :
    (w.cell? ⟨g, 0, none⟩ = some a0 ∧ w.cell? ⟨g, 1, none⟩ = some a1 ∧ w.cell? ⟨g, 2, none⟩ = some a2) ∧ (w.frozen? ⟨g, 0, none⟩ = false ∧ w.frozen? ⟨g, 1, none⟩ = false ∧ w.frozen? ⟨g, 2, none⟩ = false) := by
  have h' : w.heap[g]? = some (.cells [a0, a1, a2].toArray t (0, 0)) := h
  exact ⟨⟨cell_whole h' 0, cell_whole h' 1, cell_whole h' 2⟩, frozen_whole h _, frozen_whole h _, frozen_whole h _⟩

theorem Nd.leaf_iff (n : Nd) : n.leaf = true ↔ (n.ks.length = 0 ∧ n.ds.length = 0 ∧ n.ps.length ≤ 255) ∧ ∀ i, i < n.ps.length → goodP n.ps i = true := by simp [Nd.leaf, allTo_iff]
theorem Nd.branch_iff (n : Nd) : n.branch = true ↔ (n.ps.length = 0 ∧ 1 ≤ n.ds.length ∧ n.ds.length ≤ 255 ∧ n.ks.length + 1 = n.ds.length) ∧ (∀ i, i < n.ds.length → goodD n.ds i = true) ∧ ∀ i, i < n.ks.length → goodK n.ks i = true := by simp [Nd.branch, allTo_iff]

end Go.Proofs.YtokbmimbbeedcaaGreatDoor

/- The walk of bytes (the document's own). -/
namespace Go.Proofs.YtokbmimbbeedcaaGreatDoor
open Go Go.RowKit Sm
attribute [local go_sem] Oper.semAt_some

def pairB (p : Pr) : List UInt8 := putB p.k.length 1 ++ p.k ++ putB p.v.length 1 ++ p.v
def psB (L : List Pr) (k : Nat) : List UInt8 := putB L.length 1 ++ (L.take k).flatMap pairB
def kidB (n : Nd) (i : Nat) : List UInt8 := putB (n.ks.getD i []).length 1 ++ n.ks.getD i [] ++ putB (n.ds.getD (i + 1) 0) 4
def bsB (n : Nd) (k : Nat) : List UInt8 := putB n.ds.length 1 ++ putB (n.ds.getD 0 0) 4 ++ (List.range k).flatMap (kidB n)
def Nd.enc (n : Nd) : List UInt8 := if n.ds.length = 0 then psB n.ps n.ps.length else bsB n n.ks.length
theorem psB_succ (L : List Pr) (k : Nat) (h : k < L.length) : psB L (k + 1) = psB L k ++ putB (L.getD k Pr.zero).k.length 1 ++ (L.getD k Pr.zero).k ++ putB (L.getD k Pr.zero).v.length 1 ++ (L.getD k Pr.zero).v := by
  unfold psB
  have e : L.take (k + 1) = L.take k ++ [L.getD k Pr.zero] := by
    rw [List.take_add_one]; simp [List.getD, h]
  rw [e]
  simp [pairB]
theorem bsB_succ (n : Nd) (k : Nat) : bsB n (k + 1) = bsB n k ++ putB (n.ks.getD k []).length 1 ++ n.ks.getD k [] ++ putB (n.ds.getD (k + 1) 0) 4 := by
  unfold bsB
  rw [List.range_succ]
  simp [kidB]
theorem psB_len {L : List Pr} (h : ∀ p ∈ L, p.k.length ≤ 1000000 ∧ p.v.length ≤ 1000000) : ∀ k, k ≤ L.length → (psB L k).length ≤ 1 + k * 2000002
  | 0, _ => by simp [psB]
  | k + 1, hk => by
    have ih := psB_len h k (by omega)
    have := h _ (getD_mem (show k < L.length by omega) Pr.zero)
    rw [psB_succ L k (by omega)]
    simp only [List.length_append, putB_length]
    omega
theorem bsB_len {n : Nd} (h : ∀ s ∈ n.ks, s.length ≤ 1000000) : ∀ k, k ≤ n.ks.length → (bsB n k).length ≤ 5 + k * 1000005
  | 0, _ => by simp [bsB]
  | k + 1, hk => by
    have ih := bsB_len h k (by omega)
    have := h _ (getD_mem (show k < n.ks.length by omega) [])
    rw [bsB_succ n k]
    simp only [List.length_append, putB_length]
    omega

end Go.Proofs.YtokbmimbbeedcaaGreatDoor

/- The walks of Size, Encode, Place (the document's own). -/
namespace Go.Proofs.YtokbmimbbeedcaaGreatDoor
open Go Go.RowKit Sm
attribute [local go_sem] Oper.semAt_some

theorem Nd.right_kd {n : Nd} (h : n.right = true) : n.ds.length = 0 ∨ n.ks.length + 1 = n.ds.length := by
  rcases Bool.or_eq_true_iff.1 h with h | h
  · exact Or.inl (n.leaf_iff.1 h).1.2.1
  · exact Or.inr (n.branch_iff.1 h).1.2.2.2
theorem Nd.enc_pos (n : Nd) : 1 ≤ n.enc.length := by
  unfold Nd.enc psB bsB
  split <;> simp only [List.length_append, putB_length] <;> omega
theorem Nd.enc_le {n : Nd} (hok : n.Ok) : n.enc.length ≤ 9000000000000 := by
  unfold Nd.enc
  have := hok.p; have := hok.k
  split
  · have := psB_len hok.pt n.ps.length (Nat.le_refl _); omega
  · have := bsB_len hok.kt n.ks.length (Nat.le_refl _); omega
def Nd.size (n : Nd) : Nat := if n.right then n.enc.length else 0
def Nd.fits (n : Nd) : Bool := n.right && decide (n.enc.length ≤ 237)
def Nd.kind (n : Nd) : Nat := if n.ds.length = 0 then 1 else 2
def Nd.encR (n : Nd) : Value := if n.fits then .tuple #[.int .i64 n.kind, .string ⟨n.enc.toArray⟩, .int .i64 0] else .tuple #[.int .i64 0, .string ⟨#[]⟩, .int .i64 60]

/-- A box that holds a node, and what stands in it. -/
structure NdBox (w : World) (n : Nd) (a : NdP) (W1 : World) : Prop where
  b : W1.heap[w.heap.size]? = some (.cells #[.slice a.pp n.ps.length a.cp, .slice a.pk n.ks.length a.ck, .slice a.pd n.ds.length a.cd] 92 (0, 0))
  x : Below w.heap.size w W1
  s : NdAt W1 n a
theorem NdBox.new {w : World} {n : Nd} {a : NdP} (h : NdAt w n a) : NdBox w n a (w.alloc (.cells #[.slice a.pp n.ps.length a.cp, .slice a.pk n.ks.length a.ck, .slice a.pd n.ds.length a.cd] 92)) :=
  ⟨heap_alloc_new _ _, below_al (Below.refl _ _) _, h.below (below_al (Below.refl _ _) _)⟩
theorem NdBox.below {w : World} {n : Nd} {a : NdP} {W1 W2 : World} (h : NdBox w n a W1) (hb : Below W1.heap.size W1 W2) : NdBox w n a W2 :=
  ⟨(hb.block _ (lt_of_heap h.b)).trans h.b, bn_then h.x hb, h.s.below hb⟩
theorem NdBox.cells {w : World} {n : Nd} {a : NdP} {W1 : World} (h : NdBox w n a W1) : W1.cell? ⟨w.heap.size, 0, none⟩ = some (.slice a.pp n.ps.length a.cp) ∧ W1.cell? ⟨w.heap.size, 1, none⟩ = some (.slice a.pk n.ks.length a.ck) ∧ W1.cell? ⟨w.heap.size, 2, none⟩ = some (.slice a.pd n.ds.length a.cd) := (box3 h.b).1

end Go.Proofs.YtokbmimbbeedcaaGreatDoor

/- Nodes that a call makes of its own; the law's text. -/
namespace Go.Proofs.YtokbmimbbeedcaaGreatDoor
open Go Go.RowKit Sm
attribute [local go_sem] Oper.semAt_some

/-- A slice as Go has them. -/
structure SlOk (p : Option Addr) (n c : Nat) : Prop where
  le : n ≤ c
  few : c ≤ 9223372036854775807
  none : p = none → c = 0
  spot : ∀ a, p = some a → a.spot = Option.none
structure NdFit (n : Nd) (a : NdP) : Prop where
  p : SlOk a.pp n.ps.length a.cp
  k : SlOk a.pk n.ks.length a.ck
  d : SlOk a.pd n.ds.length a.cd
/-- A node whose lists lie in blocks of its own, from base on. -/
structure NdOwn (w : World) (base : Nat) (v1 v2 v3 : Value) (n : Nd) : Prop where
  p : OwnE elP w base v1 n.ps
  k : OwnE elK w base v2 n.ks
  d : OwnE elD w base v3 n.ds
  pk : ∀ j, v1.ownBlock = some j → v2.ownBlock ≠ some j
  pd : ∀ j, v1.ownBlock = some j → v3.ownBlock ≠ some j
  kd : ∀ j, v2.ownBlock = some j → v3.ownBlock ≠ some j
theorem NdOwn.zero (w : World) (base : Nat) : NdOwn w base (.slice none 0 0) (.slice none 0 0) (.slice none 0 0) Nd.zero :=
  ⟨OwnE.nil _ _ _, OwnE.nil _ _ _, OwnE.nil _ _ _, fun _ h => (by cases h), fun _ h => (by cases h), fun _ h => (by cases h)⟩
section
variable {w w' : World} {base : Nat} {v1 v2 v3 v' : Value} {n : Nd}
theorem NdOwn.kept {F : Nat → Prop} (h : NdOwn w base v1 v2 v3 n) (ht : Turned F w w') (hF : ∀ k, base ≤ k → ¬ F k) : NdOwn w' base v1 v2 v3 n :=
  ⟨h.p.kept ht (fun k hk => hF k (h.p.lt hk).1), h.k.kept ht (fun k hk => hF k (h.k.lt hk).1), h.d.kept ht (fun k hk => hF k (h.d.lt hk).1), h.pk, h.pd, h.kd⟩
theorem NdOwn.below (h : NdOwn w base v1 v2 v3 n) (hb : Below w.heap.size w w') : NdOwn w' base v1 v2 v3 n := ⟨h.p.below hb, h.k.below hb, h.d.below hb, h.pk, h.pd, h.kd⟩
theorem NdOwn.putP {L : List Pr} (h : NdOwn w base v1 v2 v3 n) (hg : w.grownBy w' v1.ownBlock) (ho : OwnE elP w' base v' L) (hv : ∀ k, v'.ownBlock = some k → v1.ownBlock = some k ∨ w.heap.size ≤ k) : NdOwn w' base v' v2 v3 { n with ps := L } := by
  have ht : Turned (fun j => v1.ownBlock = some j) w w' := Turned.grown hg (fun j hj _ => hj)
  refine ⟨ho, h.k.kept ht (fun k hk e => h.pk k e hk), h.d.kept ht (fun k hk e => h.pd k e hk), fun j hj e => ?_, fun j hj e => ?_, h.kd⟩
  · rcases hv j hj with h1 | h1
    · exact h.pk j h1 e
    · have := (h.k.lt e).2; omega
  · rcases hv j hj with h1 | h1
    · exact h.pd j h1 e
    · have := (h.d.lt e).2; omega
theorem NdOwn.putK {L : List (List UInt8)} (h : NdOwn w base v1 v2 v3 n) (hg : w.grownBy w' v2.ownBlock) (ho : OwnE elK w' base v' L) (hv : ∀ k, v'.ownBlock = some k → v2.ownBlock = some k ∨ w.heap.size ≤ k) : NdOwn w' base v1 v' v3 { n with ks := L } := by
  have ht : Turned (fun j => v2.ownBlock = some j) w w' := Turned.grown hg (fun j hj _ => hj)
  refine ⟨h.p.kept ht (fun k hk e => h.pk k hk e), ho, h.d.kept ht (fun k hk e => h.kd k e hk), fun j hj e => ?_, h.pd, fun j hj e => ?_⟩
  · rcases hv j e with h1 | h1
    · exact h.pk j hj h1
    · have := (h.p.lt hj).2; omega
  · rcases hv j hj with h1 | h1
    · exact h.kd j h1 e
    · have := (h.d.lt e).2; omega
theorem NdOwn.putD {L : List Nat} (h : NdOwn w base v1 v2 v3 n) (hg : w.grownBy w' v3.ownBlock) (ho : OwnE elD w' base v' L) (hv : ∀ k, v'.ownBlock = some k → v3.ownBlock = some k ∨ w.heap.size ≤ k) : NdOwn w' base v1 v2 v' { n with ds := L } := by
  have ht : Turned (fun j => v3.ownBlock = some j) w w' := Turned.grown hg (fun j hj _ => hj)
  refine ⟨h.p.kept ht (fun k hk e => h.pd k hk e), h.k.kept ht (fun k hk e => h.kd k hk e), ho, h.pk, fun j hj e => ?_, fun j hj e => ?_⟩
  · rcases hv j e with h1 | h1
    · exact h.pd j hj h1
    · have := (h.p.lt hj).2; omega
  · rcases hv j e with h1 | h1
    · exact h.kd j hj h1
    · have := (h.k.lt hj).2; omega
theorem OwnE.fit {α : Type} {E : El α} {v : Value} {L : List α} (h : OwnE E w base v L) : ∃ p c, v = .slice p L.length c ∧ Els E w p L ∧ SlOk p L.length c ∧ ∀ a, p = some a → base ≤ a.block ∧ a.block < w.heap.size ∧ v.ownBlock = some a.block := by
  have hlt := World.ownsRow.lt h
  obtain ⟨h1, h2⟩ := h
  rcases h2 with ⟨rfl, h0⟩ | ⟨g, cap, cur, rfl, hg, hh, hn, hc, hs, ht⟩
  · obtain rfl : L = [] := List.eq_nil_of_length_eq_zero h0
    exact ⟨none, 0, rfl, Els.nil _ _, ⟨Nat.le_refl _, by decide, fun _ => rfl, fun a ha => (by cases ha)⟩, fun a ha => (by cases ha)⟩
  · exact ⟨_, _, rfl, els_of_block hh ht, ⟨by omega, by first | exact hc | (unfold maxLen at hc; omega), fun h => (by cases h), fun a ha => (by cases ha; rfl)⟩, fun a ha => by cases ha; exact ⟨hg, lt_of_heap hh, rfl⟩⟩
/-- Read as any node. -/
theorem NdOwn.at (h : NdOwn w base v1 v2 v3 n) : ∃ a, .agg #[v1, v2, v3] = n.v a ∧ NdAt w n a ∧ NdFit n a := by
  obtain ⟨p1, c1, e1, r1, f1, -⟩ := h.p.fit
  obtain ⟨p2, c2, e2, r2, f2, -⟩ := h.k.fit
  obtain ⟨p3, c3, e3, r3, f3, -⟩ := h.d.fit
  exact ⟨⟨p1, c1, p2, c2, p3, c3⟩, by rw [e1, e2, e3]; rfl, ⟨r1, r2, r3⟩, ⟨f1, f2, f3⟩⟩
end

end Go.Proofs.YtokbmimbbeedcaaGreatDoor

/- The walk of the law's cut. -/
namespace Go.Proofs.YtokbmimbbeedcaaGreatDoor
open Go Go.RowKit Sm
attribute [local go_sem] Oper.semAt_some

def cutPr (p : Pr) : Pr := ⟨p.k.take 70, p.v.take 70⟩
/-- The law's node. -/
def Nd.cut (n : Nd) : Nd := ⟨(n.ps.take 260).map cutPr, (n.ks.take 260).map (·.take 70), n.ds.take 260⟩
/-- Between the rounds: the node's box, the answer's, the one that is built. -/
structure CutI (w : World) (n : Nd) (a : NdP) (m : Nd) (v1 v2 v3 : Value) (W : World) : Prop where
  b : W.heap[w.heap.size]? = some (.cells #[.slice a.pp n.ps.length a.cp, .slice a.pk n.ks.length a.ck, .slice a.pd n.ds.length a.cd] 92 (0, 0))
  r : W.heap[w.heap.size + 1]? = some (.cells #[.slice none 0 0, .slice none 0 0, .slice none 0 0] 92 (0, 0))
  o : W.heap[w.heap.size + 2]? = some (.cells #[v1, v2, v3] 92 (0, 0))
  x : Below w.heap.size w W
  m : NdOwn W (w.heap.size + 3) v1 v2 v3 m
  s : NdAt W n a
section
variable {w W W' : World} {n m : Nd} {a : NdP} {v1 v2 v3 v' : Value}
theorem CutI.below (h : CutI w n a m v1 v2 v3 W) (hb : Below W.heap.size W W') : CutI w n a m v1 v2 v3 W' :=
  ⟨(hb.block _ (lt_of_heap h.b)).trans h.b, (hb.block _ (lt_of_heap h.r)).trans h.r, (hb.block _ (lt_of_heap h.o)).trans h.o, bn_then h.x hb, h.m.below hb, h.s.below hb⟩
theorem NdAt.turned {F : Nat → Prop} (h : NdAt W n a) (ht : Turned F W W') (hF : ∀ k, F k → w.heap.size ≤ k) (hn : NdAt w n a) : NdAt W' n a := by
  have hl : ∀ {α : Type} {E : El α} {p : Option Addr} {L : List α}, Els E w p L → L ≠ [] → ∀ x, p = some x → x.block < w.heap.size := fun {α E p L} h hne x hx => by
    obtain ⟨b, o, rfl, hc⟩ := h hne
    cases hx
    have hz := E.pos
    have hlt : 0 < L.length := List.length_pos_iff.2 hne
    have := hc 0 0 hlt hz
    have h2 : 0 < (E.enc (L.getD 0 E.d)).length := by rw [E.len]; exact hz
    rw [List.getElem?_eq_getElem h2] at this
    exact World.block_lt_of_cell? w ⟨b, o + 0 * E.z + 0, none⟩ this
  have hk : ∀ {α : Type} {E : El α} {p : Option Addr} {L : List α}, Els E w p L → Els E W p L → Els E W' p L := fun {α E p L} h0 h1 hne =>
    (h1.turned ht fun x hx hf => by have := hl h0 hne x hx; have := hF _ hf; omega) hne
  exact ⟨hk hn.p h.p, hk hn.k h.k, hk hn.d h.d⟩
/-- What was turned: new blocks, and the box that is built. -/
theorem CutI.put (h : CutI w n a m v1 v2 v3 W) (h0 : NdAt w n a) {F : Nat → Prop} (ht : Turned F W W') (hF : ∀ k, F k → w.heap.size + 2 ≤ k) {u1 u2 u3 : Value} {m' : Nd}
    (ho : W'.heap[w.heap.size + 2]? = some (.cells #[u1, u2, u3] 92 (0, 0))) (hm : NdOwn W' (w.heap.size + 3) u1 u2 u3 m') : CutI w n a m' u1 u2 u3 W' :=
  ⟨ht.heap h.b (fun hf => by have := hF _ hf; omega), ht.heap h.r (fun hf => by have := hF _ hf; omega), ho, h.x.trans (ht.toBelow h.x.size (fun k _ hf => by have := hF k hf; omega)), hm, h.s.turned ht (fun k hf => by have := hF k hf; omega) h0⟩
theorem CutI.grown (h : CutI w n a m v1 v2 v3 W) {v : Value} (hv : ∀ j, v.ownBlock = some j → w.heap.size + 3 ≤ j) (hg : W.grownBy W' v.ownBlock) : W'.heap[w.heap.size + 2]? = some (.cells #[v1, v2, v3] 92 (0, 0)) :=
  (Turned.grown (F := fun j => v.ownBlock = some j) hg (fun j hj _ => hj)).heap h.o (fun hf => by have := hv _ hf; omega)
end

theorem results_node1 {fn : Func} {p : Tmp} {tmps : Array Value} {w : World} {g : Nat} {x0 x1 x2 : Value} (h : fn.results = #[.cell p 92]) (hp : tmps.getD p undef = .pointer (some ⟨g, 0, none⟩)) (hg : w.heap[g]? = some (.cells #[x0, x1, x2] 92 (0, 0))) :
    (results fn tmps).run Tryz.prog w = .ok (.agg #[x0, x1, x2]) w := by
  have hp' : tmps[p]?.getD undef = .pointer (some ⟨g, 0, none⟩) := by simpa using hp
  obtain ⟨⟨c0, c1, c2⟩, -⟩ := box3 hg
  simp [results, h, go_sem, hp', c0, c1, c2]
theorem OwnE.less {α : Type} {E : El α} {w : World} {B B' : Nat} {v : Value} {L : List α} (h : OwnE E w B v L) (hB : B' ≤ B) : OwnE E w B' v L := by
  obtain ⟨h1, h2⟩ := h
  refine ⟨h1, ?_⟩
  rcases h2 with h2 | ⟨g, cap, cur, hv, hg, h3⟩
  · exact .inl h2
  · exact .inr ⟨g, cap, cur, hv, Nat.le_trans hB hg, h3⟩
theorem NdOwn.less {w : World} {B B' : Nat} {v1 v2 v3 : Value} {n : Nd} (h : NdOwn w B v1 v2 v3 n) (hB : B' ≤ B) : NdOwn w B' v1 v2 v3 n := ⟨h.p.less hB, h.k.less hB, h.d.less hB, h.pk, h.pd, h.kd⟩

end Go.Proofs.YtokbmimbbeedcaaGreatDoor

/- A node that is built in a box: what stands in it, what was there ahead of it. -/
namespace Go.Proofs.YtokbmimbbeedcaaGreatDoor
open Go Go.RowKit Sm

/-- The box of number G, made behind W0; its lists lie behind it. -/
structure Bld (W0 : World) (G : Nat) (m : Nd) (v1 v2 v3 : Value) (W : World) : Prop where
  z : G = W0.heap.size
  o : W.heap[G]? = some (.cells #[v1, v2, v3] 92 (0, 0))
  x : Below W0.heap.size W0 W
  m : NdOwn W (G + 1) v1 v2 v3 m
section
variable {W0 W W' : World} {G : Nat} {m : Nd} {v1 v2 v3 v' : Value}
theorem Bld.new (W0 : World) : Bld W0 W0.heap.size Nd.zero (.slice none 0 0) (.slice none 0 0) (.slice none 0 0) (W0.alloc (.cells #[.slice none 0 0, .slice none 0 0, .slice none 0 0] 92)) :=
  ⟨rfl, heap_alloc_new _ _, below_al (Below.refl _ _) _, NdOwn.zero _ _⟩
theorem Bld.below (h : Bld W0 G m v1 v2 v3 W) (hb : Below W.heap.size W W') : Bld W0 G m v1 v2 v3 W' := ⟨h.z, (hb.block _ (lt_of_heap h.o)).trans h.o, bn_then h.x hb, h.m.below hb⟩
theorem Bld.lt (h : Bld W0 G m v1 v2 v3 W) : G + 1 ≤ W.heap.size := lt_of_heap h.o
/-- Ahead of the store, behind an append to one of its own lists. -/
theorem Bld.grown (h : Bld W0 G m v1 v2 v3 W) {v : Value} (hv : ∀ j, v.ownBlock = some j → G + 1 ≤ j) (hg : W.grownBy W' v.ownBlock) : W'.heap[G]? = some (.cells #[v1, v2, v3] 92 (0, 0)) ∧ Below W0.heap.size W0 W' := by
  have ht : Turned (fun j => v.ownBlock = some j) W W' := Turned.grown hg (fun j hj _ => hj)
  exact ⟨ht.heap h.o (fun hf => by have := hv _ hf; omega), h.x.trans (ht.toBelow h.x.size (fun k _ hf => by have := hv k hf; have := h.z; omega))⟩
theorem Bld.own1 (h : Bld W0 G m v1 v2 v3 W) : ∀ j, v1.ownBlock = some j → G + 1 ≤ j := fun _ hj => (h.m.p.lt hj).1
theorem Bld.own2 (h : Bld W0 G m v1 v2 v3 W) : ∀ j, v2.ownBlock = some j → G + 1 ≤ j := fun _ hj => (h.m.k.lt hj).1
theorem Bld.own3 (h : Bld W0 G m v1 v2 v3 W) : ∀ j, v3.ownBlock = some j → G + 1 ≤ j := fun _ hj => (h.m.d.lt hj).1
theorem bld_set (W' : World) (G o : Nat) (v : Value) (hx : Below W0.heap.size W0 W') (hz : G = W0.heap.size) : Below W0.heap.size W0 (W'.setCell ⟨G, o, none⟩ v) :=
  hx.trans (((Turned.refl (· = G) W').setCell (p := ⟨G, o, none⟩) rfl v).toBelow hx.size (fun k _ hf => by omega))
theorem Bld.putP (h : Bld W0 G m v1 v2 v3 W) {L : List Pr} (hg : W.grownBy W' v1.ownBlock) (ho : OwnE elP W' (G + 1) v' L) (hv : ∀ k, v'.ownBlock = some k → v1.ownBlock = some k ∨ W.heap.size ≤ k) : Bld W0 G { m with ps := L } v' v2 v3 (W'.setCell ⟨G, 0, none⟩ v') := by
  obtain ⟨h1, h2⟩ := h.grown h.own1 hg
  exact ⟨h.z, heap_setCell_at h1 0 v', bld_set W' G 0 v' h2 h.z, (h.m.putP hg ho hv).kept ((Turned.refl (· = G) W').setCell (p := ⟨G, 0, none⟩) rfl v') (fun k hk e => by omega)⟩
theorem Bld.putK (h : Bld W0 G m v1 v2 v3 W) {L : List (List UInt8)} (hg : W.grownBy W' v2.ownBlock) (ho : OwnE elK W' (G + 1) v' L) (hv : ∀ k, v'.ownBlock = some k → v2.ownBlock = some k ∨ W.heap.size ≤ k) : Bld W0 G { m with ks := L } v1 v' v3 (W'.setCell ⟨G, 1, none⟩ v') := by
  obtain ⟨h1, h2⟩ := h.grown h.own2 hg
  exact ⟨h.z, heap_setCell_at h1 1 v', bld_set W' G 1 v' h2 h.z, (h.m.putK hg ho hv).kept ((Turned.refl (· = G) W').setCell (p := ⟨G, 1, none⟩) rfl v') (fun k hk e => by omega)⟩
theorem Bld.putD (h : Bld W0 G m v1 v2 v3 W) {L : List Nat} (hg : W.grownBy W' v3.ownBlock) (ho : OwnE elD W' (G + 1) v' L) (hv : ∀ k, v'.ownBlock = some k → v3.ownBlock = some k ∨ W.heap.size ≤ k) : Bld W0 G { m with ds := L } v1 v2 v' (W'.setCell ⟨G, 2, none⟩ v') := by
  obtain ⟨h1, h2⟩ := h.grown h.own3 hg
  exact ⟨h.z, heap_setCell_at h1 2 v', bld_set W' G 2 v' h2 h.z, (h.m.putD hg ho hv).kept ((Turned.refl (· = G) W').setCell (p := ⟨G, 2, none⟩) rfl v') (fun k hk e => by omega)⟩
/-- What stood ahead of it. -/
theorem Bld.block (h : Bld W0 G m v1 v2 v3 W) {k : Nat} {ob : Obj} (hk : W0.heap[k]? = some ob) : W.heap[k]? = some ob := (h.x.block k (lt_of_heap hk)).trans hk
theorem Bld.cell (h : Bld W0 G m v1 v2 v3 W) {b o : Nat} {x : Value} (hc : W0.cell? ⟨b, o, none⟩ = some x) : W.cell? ⟨b, o, none⟩ = some x := (h.x.cell (World.block_lt_of_cell? W0 _ hc)).trans hc
theorem Bld.old (h : Bld W0 G m v1 v2 v3 W) {n : Nd} {a : NdP} (hn : NdAt W0 n a) : NdAt W n a := hn.below h.x
theorem Bld.cells (h : Bld W0 G m v1 v2 v3 W) : (W.cell? ⟨G, 0, none⟩ = some v1 ∧ W.cell? ⟨G, 1, none⟩ = some v2 ∧ W.cell? ⟨G, 2, none⟩ = some v3) ∧ (W.frozen? ⟨G, 0, none⟩ = false ∧ W.frozen? ⟨G, 1, none⟩ = false ∧ W.frozen? ⟨G, 2, none⟩ = false) := box3 h.o
/-- Two built at once: one's puts leave the other as it is. -/
theorem NdOwn.apart {B : Nat} {u1 u2 u3 : Value} {n' : Nd} (h : NdOwn W B u1 u2 u3 n') {F : Nat → Prop} (ht : Turned F W W') (hF : ∀ k, (u1.ownBlock = some k ∨ u2.ownBlock = some k ∨ u3.ownBlock = some k) → ¬ F k) : NdOwn W' B u1 u2 u3 n' :=
  ⟨h.p.kept ht (fun k hk => hF k (.inl hk)), h.k.kept ht (fun k hk => hF k (.inr (.inl hk))), h.d.kept ht (fun k hk => hF k (.inr (.inr hk))), h.pk, h.pd, h.kd⟩
end
theorem results_node3 {fn : Func} {p q r : Tmp} {tmps : Array Value} {w : World} {g : Nat} {x0 x1 x2 y z : Value} (h : fn.results = #[.cell p 92, .tmp q, .tmp r]) (hp : tmps.getD p undef = .pointer (some ⟨g, 0, none⟩)) (hq : tmps.getD q undef = y) (hr : tmps.getD r undef = z) (hg : w.heap[g]? = some (.cells #[x0, x1, x2] 92 (0, 0))) :
    (results fn tmps).run Tryz.prog w = .ok (.tuple #[.agg #[x0, x1, x2], y, z]) w := by
  have hp' : tmps[p]?.getD undef = .pointer (some ⟨g, 0, none⟩) := by simpa using hp
  have hq' : tmps[q]?.getD undef = y := by simpa using hq
  have hr' : tmps[r]?.getD undef = z := by simpa using hr
  obtain ⟨⟨c0, c1, c2⟩, -⟩ := box3 hg
  simp [results, h, go_sem, hp', hq', hr', c0, c1, c2]
theorem results_node2 {fn : Func} {p q : Tmp} {tmps : Array Value} {w : World} {g : Nat} {x0 x1 x2 y : Value} (h : fn.results = #[.cell p 92, .tmp q]) (hp : tmps.getD p undef = .pointer (some ⟨g, 0, none⟩)) (hq : tmps.getD q undef = y) (hg : w.heap[g]? = some (.cells #[x0, x1, x2] 92 (0, 0))) :
    (results fn tmps).run Tryz.prog w = .ok (.tuple #[.agg #[x0, x1, x2], y]) w := by
  have hp' : tmps[p]?.getD undef = .pointer (some ⟨g, 0, none⟩) := by simpa using hp
  have hq' : tmps[q]?.getD undef = y := by simpa using hq
  obtain ⟨⟨c0, c1, c2⟩, -⟩ := box3 hg
  simp [results, h, go_sem, hp', hq', c0, c1, c2]
end Go.Proofs.YtokbmimbbeedcaaGreatDoor

/- A node's keys: the order of texts; the iterator over them. -/
namespace Go.Proofs.YtokbmimbbeedcaaGreatDoor
open Go Go.RowKit Sm
attribute [local go_sem] Oper.semAt_some

theorem bytesLess_lessB : ∀ (a b : List UInt8), Op.bytesLess a b = lessB a b
  | [], [] => rfl
  | [], _ :: _ => by simp [Op.bytesLess, lessB]
  | _ :: _, [] => by simp [Op.bytesLess, lessB]
  | x :: r, y :: s => by
    have ih := bytesLess_lessB r s
    by_cases h : x = y
    · subst h
      simp [Op.bytesLess, lessB, ih]
    · have hn : x.toNat ≠ y.toNat := fun e => h (UInt8.toNat_inj.1 e)
      simp [Op.bytesLess, lessB, UInt8.lt_iff_toNat_lt, h]
theorem lessB_irrefl (a : List UInt8) : lessB a a = false := by
  induction a with
  | nil => rfl
  | cons x r ih => simp [lessB, ih]
theorem lessB_trans : ∀ (a b c : List UInt8), lessB a b = true → lessB b c = true → lessB a c = true := by
  intro a
  induction a with
  | nil =>
    intro b c _ h2
    cases c with
    | nil => cases b <;> simp [lessB] at h2
    | cons _ _ => simp [lessB]
  | cons x r ih =>
    intro b c h1 h2
    cases b with
    | nil => simp [lessB] at h1
    | cons y s =>
      cases c with
      | nil => simp [lessB] at h2
      | cons z t =>
        simp only [lessB] at h1 h2 ⊢
        by_cases e1 : x = y
        · subst e1
          simp only [if_true] at h1
          by_cases e2 : x = z
          · subst e2
            simp only [if_true] at h2 ⊢
            exact ih s t h1 h2
          · simp only [if_neg e2] at h2 ⊢
            exact h2
        · simp only [if_neg e1, decide_eq_true_eq] at h1
          by_cases e2 : y = z
          · subst e2
            simp only [if_neg e1, decide_eq_true_eq]
            exact h1
          · simp only [if_neg e2, decide_eq_true_eq] at h2
            have : x ≠ z := by rintro rfl; omega
            simp only [if_neg this, decide_eq_true_eq]
            omega
theorem lessB_total : ∀ (a b : List UInt8), lessB a b = false → a ≠ b → lessB b a = true := by
  intro a
  induction a with
  | nil => intro b h hne; cases b with
    | nil => exact absurd rfl hne
    | cons _ _ => simp [lessB] at h
  | cons x r ih =>
    intro b h hne
    cases b with
    | nil => simp [lessB]
    | cons y s =>
      simp only [lessB] at h ⊢
      by_cases e : x = y
      · subst e
        simp only [if_true] at h ⊢
        exact ih s h (fun e => hne (by rw [e]))
      · have hn : x.toNat ≠ y.toNat := fun e' => e (UInt8.toNat_inj.1 e')
        simp only [if_neg e, decide_eq_false_iff_not] at h
        simp only [if_neg (fun e' : y = x => e e'.symm), decide_eq_true_eq]
        omega
theorem lessB_asymm {a b : List UInt8} (h : lessB a b = true) : lessB b a = false := by
  cases hb : lessB b a with
  | false => rfl
  | true => have := lessB_trans a b a h hb; rw [lessB_irrefl] at this; cases this

def Nd.keys (n : Nd) : List (List UInt8) := n.ps.map (·.k) ++ n.ks
def handsK (n : Nd) (k : Nat) : Array Value := #[.string ⟨(n.keys.getD k []).toArray⟩]
theorem keys_getP {n : Nd} {k : Nat} (h : k < n.ps.length) : n.keys.getD k [] = (n.ps.getD k Pr.zero).k := by
  unfold Nd.keys
  rw [List.getD, List.getElem?_append_left (by simpa using h)]
  simp [List.getD, h]
theorem keys_getK {n : Nd} {k : Nat} : n.keys.getD (n.ps.length + k) [] = n.ks.getD k [] := by
  unfold Nd.keys
  rw [List.getD, List.getElem?_append_right (by simp)]
  simp [List.getD]
theorem keys_len (n : Nd) : n.keys.length = n.ps.length + n.ks.length := by simp [Nd.keys]
/-- The node in the iterator's box. -/
structure ReadsN (Bx : Nat) (n : Nd) (a : NdP) (W : World) : Prop where
  b : W.heap[Bx]? = some (.cells #[.slice a.pp n.ps.length a.cp, .slice a.pk n.ks.length a.ck, .slice a.pd n.ds.length a.cd] 92 (0, 0))
  s : NdAt W n a
theorem ReadsN.below {Bx : Nat} {n : Nd} {a : NdP} {W W' : World} (h : ReadsN Bx n a W) (hb : Below W.heap.size W W') : ReadsN Bx n a W' := ⟨(hb.block _ (lt_of_heap h.b)).trans h.b, h.s.below hb⟩
theorem Booked.cell6 {B : Nat} {w w' : World} (h : Booked B w w') {a : Addr} {x : Value} (hx : w.cell? a = some x) : w'.cell? a = some x := by
  unfold World.cell? at hx ⊢
  cases hk : w.heap[a.block]? with
  | none => rw [hk] at hx; cases hx
  | some o =>
    rw [hk] at hx
    cases o with
    | cells c t fr => rw [h.heap hk]; exact hx
    | _ => cases hx
theorem Els.booked {α : Type} {E : El α} {B : Nat} {w w' : World} {p : Option Addr} {L : List α} (h : Els E w p L) (hb : Booked B w w') : Els E w' p L := h.cells fun _ _ _ _ _ hx => hb.cell6 hx
theorem NdAt.booked {B : Nat} {w w' : World} {n : Nd} {a : NdP} (h : NdAt w n a) (hb : Booked B w w') : NdAt w' n a := ⟨h.p.booked hb, h.k.booked hb, h.d.booked hb⟩
theorem ReadsN.booked {B Bx : Nat} {n : Nd} {a : NdP} {W W' : World} (h : ReadsN Bx n a W) (hb : Booked B W W') : ReadsN Bx n a W' := ⟨hb.heap h.b, h.s.booked hb⟩
theorem ReadsN.cells {Bx : Nat} {n : Nd} {a : NdP} {W : World} (h : ReadsN Bx n a W) : W.cell? ⟨Bx, 0, none⟩ = some (.slice a.pp n.ps.length a.cp) ∧ W.cell? ⟨Bx, 1, none⟩ = some (.slice a.pk n.ks.length a.ck) ∧ W.cell? ⟨Bx, 2, none⟩ = some (.slice a.pd n.ds.length a.cd) := (box3 h.b).1

theorem keys_any (n : Nd) (a : NdP) (w : World) : Calls Tryz.prog 72 #[n.v a] w fun e w' => e = .returned (.func (.func 104) #[] #[.pointer (some ⟨w.heap.size, 0, none⟩)]) ∧ w.alloc (.cells #[.slice a.pp n.ps.length a.cp, .slice a.pk n.ks.length a.ck, .slice a.pd n.ds.length a.cd] 92) = w' := by
  unfold Nd.v
  go_enter Tryz.func72, Tryz.ntmps72
  go_wp2
  go_ret
  exact ⟨rfl, rfl⟩

set_option maxRecDepth 20000 in
set_option maxHeartbeats 2000000 in
theorem keys_seq (Bx : Nat) (n : Nd) (a : NdP) (hP : n.ps.length ≤ 1000000) (hK : n.ks.length ≤ 1000000) :
    Seq Tryz.prog 104 #[.pointer (some ⟨Bx, 0, none⟩)] (handsK n) (n.ps.length + n.ks.length) (ReadsN Bx n a) := by
  intro l m J Jx W hJ hJx hF hY h0
  obtain ⟨a0, a1, a2⟩ := (hF 0 W h0).cells
  have HKP : Veil (∀ k, k < n.ps.length → n.keys.getD k [] = (n.ps.getD k Pr.zero).k) := ⟨fun k => keys_getP⟩
  have HKK : Veil (∀ k, k < n.ks.length → n.keys.getD (n.ps.length + k) [] = n.ks.getD k []) := ⟨fun k _ => keys_getK⟩
  have HF : Veil _ := ⟨hF⟩
  have HY : Veil _ := ⟨hY⟩
  have HJ : Veil _ := ⟨hJ⟩
  clear hF hY hJ hJx
  unfold handsK at HY
  revert HKP HKK HY
  generalize n.keys = KS
  intro HKP HKK HY
  obtain ⟨P, K, D⟩ := n
  obtain ⟨pp, cp, pk, ck, pd, cd⟩ := a
  dsimp only at *
  refine callsIn_of_wp Tryz.func104 rfl trivial ?_
  simp only [Tryz.ntmps104, List.size_toArray, List.length_cons, List.length_nil, Nat.reduceAdd, Nat.reduceSub, Array.replicate_succ, Array.replicate_zero, List.push_toArray, List.append_toArray, List.nil_append, List.cons_append]
  gi_wp2
  clear a0 a1 a2
  gi_loopw [10] (fun i wr => ∃ k : Nat, k ≤ P.length ∧ i = .int .i64 k ∧ J k wr) (fun i _ => P.length - (intOf i).toNat)
  case atStart => exact ⟨0, Nat.zero_le _, rfl, h0⟩
  case round =>
    obtain ⟨k, hk, rfl, hj⟩ := hrel
    have HRN : Veil _ := ⟨HF.out k wr hj⟩
    by_cases hlt : k < P.length
    · obtain ⟨b, o, hpe, hc⟩ := HRN.out.s.pair (by rintro he; dsimp only at he; simp [he] at hlt)
      dsimp only at hpe hc
      subst hpe
      obtain ⟨c1, c2⟩ := hc k hlt
      have hYk : Veil (∀ A, J k A → YieldAt Fence.wide m Tryz.prog l #[.string ⟨(KS.getD k []).toArray⟩] A fun e A' => (e = .returned (.bool true) ∧ J (k + 1) A') ∨ (e = .returned (.bool false) ∧ Jx k A')) := ⟨fun A hA => HY.out k A (by omega) hA⟩
      rw [HKP.out k hlt] at hYk
      clear hc
      revert c1 c2 hYk
      generalize P.getD k Pr.zero = s
      obtain ⟨sk, sv⟩ := s
      dsimp only
      intro c1 c2 hYk
      have hb3 : Below wr.heap.size wr (wr.alloc (.cells #[.string ⟨sk.toArray⟩, .string ⟨sv.toArray⟩] 37)) := below_al (Below.refl _ _) _
      obtain ⟨fn, tmps, assign, body, hy, hR⟩ := hYk.out _ (HJ.out k wr _ hj hb3)
      clear hb3
      gi_wp2
      refine hR.mono ?_
      rintro e W3 (⟨rfl, hj'⟩ | ⟨rfl, hjx⟩)
      · gi_wp2
        go_roundw
        case rel => exact ⟨k + 1, by omega, by go_num, hj'⟩
        case measure => simp [intOf]; omega
      · gi_wp2
        refine bodyPost_ret (results_none rfl _ _ _) rfl ?_
        exact ⟨⟨_, rfl⟩, .inr ⟨k, by omega, hjx⟩⟩
    · obtain rfl : k = P.length := by omega
      obtain ⟨a0, a1, a2⟩ := HRN.out.cells
      dsimp only at a0 a1 a2
      have HJ1 : Veil _ := ⟨hj⟩
      clear HRN hk hlt
      gi_wp2
      clear a0 a1 a2
      gi_loopw [23] (fun i wr => ∃ k : Nat, k ≤ K.length ∧ i = .int .i64 k ∧ J (P.length + k) wr) (fun i _ => K.length - (intOf i).toNat)
      case atStart => exact ⟨0, Nat.zero_le _, rfl, HJ1.out⟩
      case round =>
        obtain ⟨k, hk, rfl, hj⟩ := hrel
        have HRN : Veil _ := ⟨HF.out _ wr hj⟩
        by_cases hlt : k < K.length
        · obtain ⟨b, o, hpe, hc⟩ := HRN.out.s.key (by rintro he; dsimp only at he; simp [he] at hlt)
          dsimp only at hpe hc
          subst hpe
          have c1 := hc k hlt
          have hYk : Veil (∀ A, J (P.length + k) A → YieldAt Fence.wide m Tryz.prog l #[.string ⟨(KS.getD (P.length + k) []).toArray⟩] A fun e A' => (e = .returned (.bool true) ∧ J (P.length + k + 1) A') ∨ (e = .returned (.bool false) ∧ Jx (P.length + k) A')) := ⟨fun A hA => HY.out _ A (by omega) hA⟩
          rw [HKK.out k hlt] at hYk
          clear hc
          revert c1 hYk
          generalize K.getD k [] = sk
          intro c1 hYk
          obtain ⟨fn, tmps, assign, body, hy, hR⟩ := hYk.out _ hj
          gi_wp2
          refine hR.mono ?_
          rintro e W3 (⟨rfl, hj'⟩ | ⟨rfl, hjx⟩)
          · gi_wp2
            go_roundw
            case rel => exact ⟨k + 1, by omega, by go_num, hj'⟩
            case measure => simp [intOf]; omega
          · gi_wp2
            refine bodyPost_ret (results_none rfl _ _ _) rfl ?_
            exact ⟨⟨_, rfl⟩, .inr ⟨P.length + k, by omega, hjx⟩⟩
        · obtain rfl : k = K.length := by omega
          gi_wp2
          go_end0
          exact ⟨⟨_, rfl⟩, .inl hj⟩
end Go.Proofs.YtokbmimbbeedcaaGreatDoor

/- The walk of rising: keys that rise. -/
namespace Go.Proofs.YtokbmimbbeedcaaGreatDoor
open Go Go.RowKit Sm
attribute [local go_sem] Oper.semAt_some

theorem keepsFrom_turned6 {F : Nat → Prop} {B : Nat} {A A' : World} (h : Turned F A A') (hF : ∀ k, F k → k < B ∨ ∃ c t fr, A.heap[k]? = some (.cells c t fr)) : KeepsFrom B A A' :=
  ⟨h.size, fun k o hB hk ho => h.heap hk fun hf => by
    rcases hF k hf with hlt | ⟨c, t, fr, hc⟩
    · omega
    · rw [hc] at hk; cases hk; cases ho⟩
theorem cell_row6 {w : World} {b : Nat} {x : Value} {t : TypeId} {fr : Nat × Nat} (h : w.heap[b]? = some (.cells #[x] t fr)) : w.cell? ⟨b, 0, none⟩ = some x := by simp [World.cell?, h]
theorem results_bool6 {fn : Func} {p : Tmp} {tmps : Array Value} {w : World} {g : Nat} {x : Value} (h : fn.results = #[.cell p 4]) (hp : tmps.getD p undef = .pointer (some ⟨g, 0, none⟩)) (hg : w.heap[g]? = some (.cells #[x] 4 (0, 0))) :
    (results fn tmps).run Tryz.prog w = .ok x w := by
  have hp' : tmps[p]?.getD undef = .pointer (some ⟨g, 0, none⟩) := by simpa using hp
  have c0 := cell_row6 hg
  simp [results, h, go_sem, hp', c0]

def prevK (KS : List (List UInt8)) (i : Nat) : List UInt8 := if i = 0 then [] else KS.getD (i - 1) []
def goodAt (KS : List (List UInt8)) (i : Nat) : Bool := lessB (prevK KS i) (KS.getD i []) && decide ((KS.getD i []).length ≤ 24)
def riseL (KS : List (List UInt8)) : Bool := allTo (goodAt KS) KS.length
theorem riseL_iff (KS : List (List UInt8)) : riseL KS = true ↔ ∀ i, i < KS.length → goodAt KS i = true := by simp [riseL, allTo_iff]

/-- Between two rounds: the answer's box, the last key's, the iterator's. -/
structure RisI (w : World) (B1 B2 Bx : Nat) (n : Nd) (a : NdP) (q : List UInt8) (A : World) : Prop where
  r : A.heap[B1]? = some (.cells #[.bool false] 4 (0, 0))
  l : A.heap[B2]? = some (.cells #[.string ⟨q.toArray⟩] 9 (0, 0))
  x : ReadsN Bx n a A
  t : Turned (fun _ => False) w A
section
variable {w : World} {B1 B2 Bx : Nat} {n : Nd} {a : NdP} {q : List UInt8} {A A' : World}
theorem RisI.booked {B : Nat} (h : RisI w B1 B2 Bx n a q A) (hb : Booked B A A') (hB : w.heap.size ≤ B) : RisI w B1 B2 Bx n a q A' :=
  ⟨hb.heap h.r, hb.heap h.l, h.x.booked hb, hb.turned h.t hB⟩
end
theorem ReadsN.turned {Bx : Nat} {n : Nd} {a : NdP} {w W W' : World} (h0 : ReadsN Bx n a w) (h : ReadsN Bx n a W) {F : Nat → Prop} (ht : Turned F W W') (hF : ∀ k, F k → w.heap.size ≤ k) : ReadsN Bx n a W' :=
  ⟨ht.heap h.b (fun hf => by have := hF _ hf; have := lt_of_heap h0.b; omega), h.s.turned ht hF h0.s⟩

set_option maxRecDepth 20000 in
set_option maxHeartbeats 2000000 in
theorem rising_of {w : World} {Bx : Nat} {n : Nd} {a : NdP} (h : ReadsN Bx n a w) (hok : Veil n.Ok) :
    Calls Tryz.prog 85 #[.func (.func 104) #[] #[.pointer (some ⟨Bx, 0, none⟩)]] w fun e w' => e = .returned (.bool (riseL n.keys)) ∧ Below w.heap.size w w' := by
  refine calls_of_wp_marks Tryz.func85 rfl ?_
  simp only [Tryz.ntmps85, List.size_toArray, List.length_cons, List.length_nil, Nat.reduceAdd, Nat.reduceSub, Array.replicate_succ, Array.replicate_zero, List.push_toArray, List.append_toArray, List.nil_append, List.cons_append]
  have HRI : Veil _ := ⟨riseL_iff n.keys⟩
  obtain ⟨r, hr⟩ : ∃ r, riseL n.keys = r := ⟨_, rfl⟩
  rw [hr] at HRI ⊢
  clear hr
  have HH : Veil _ := ⟨h⟩
  have HKL : Veil (n.keys.length = n.ps.length + n.ks.length) := ⟨keys_len n⟩
  have HKT : Veil (∀ k, k < n.keys.length → (n.keys.getD k []).length ≤ 1000000) := ⟨fun k hk => by
    have := getD_mem hk ([] : List UInt8)
    rcases List.mem_append.1 this with h | h
    · obtain ⟨p, hp, e⟩ := List.mem_map.1 h
      rw [← e]; exact (hok.out.pt p hp).1
    · exact hok.out.kt _ h⟩
  have hSeq : Veil _ := ⟨keys_seq Bx n a (Nat.le_trans hok.out.p (by omega)) (Nat.le_trans hok.out.k (by omega))⟩
  clear h hok
  unfold handsK at hSeq
  generalize n.keys = KS at *
  go_wp2
  obtain ⟨B1, e1⟩ : ∃ B1, w.heap.size = B1 := ⟨_, rfl⟩
  obtain ⟨B2, e2⟩ : ∃ B2, B1 + 1 = B2 := ⟨_, rfl⟩
  obtain ⟨w1, hw1⟩ : ∃ w1, (w.alloc (.cells #[.bool false] 4)).alloc (.cells #[.string ⟨#[]⟩] 9) = w1 := ⟨_, rfl⟩
  have hz1 : w1.heap.size = B2 + 1 := by rw [← hw1]; simp; omega
  have hT1 : Turned (fun _ => False) w w1 := by rw [← hw1]; exact ((Turned.refl (fun _ => False) w).alloc _).alloc _
  have hI : RisI w B1 B2 Bx n a [] w1 := by
    refine ⟨?_, ?_, HH.out.turned HH.out hT1 (fun k h => h.elim), hT1⟩
    all_goals
      rw [← hw1]
      simp only [heap_alloc_if, World.size_alloc]
      repeat (first | rw [if_neg (by omega)] | rw [if_pos (by first | trivial | omega)])
  have HW : Veil (w.heap.size = B1 ∧ B1 < B2) := ⟨by omega⟩
  have HZ : Veil (w1.heap.size = B2 + 1) := ⟨hz1⟩
  rw [hw1]
  simp only [e1, e2]
  clear hw1 e1 e2 hz1 hT1
  refine wp_range_seq (gf := 104) (lb := #[.pointer (some ⟨Bx, 0, none⟩)]) rfl (enters_of Tryz.func104 (by kernel_rfl) rfl)
    hSeq.out (fun k => rfl)
    (fun k A => RisI w B1 B2 Bx n a (prevK KS k) A ∧ ∀ i, i < k → goodAt KS i = true)
    (fun cd k A => cd = .ret ∧ r = false ∧ A.heap[B1]? = some (.cells #[.bool false] 4 (0, 0)) ∧ Turned (fun _ => False) w A) ?hI ?hIx ?hF ?h0 ?hround ?hdone ?hstop
  case hI => rintro k A A' ⟨h1, h2⟩ hb; exact ⟨h1.booked hb (by have := HW.out; have := HZ.out; omega), h2⟩
  case hIx => rintro cd k A A' ⟨h1, h2, h3, h4⟩ hb; exact ⟨h1, h2, hb.heap h3, hb.turned h4 (by have := HW.out; have := HZ.out; omega)⟩
  case hF => rintro k A ⟨h, _⟩; exact h.x
  case h0 => exact ⟨hI, fun i hi => absurd hi (by omega)⟩
  case hround =>
    rintro l m k A hl2 hlt ⟨hi1, hr⟩
    simp only [List.zip_cons_cons, List.zip_nil_right, List.foldl_cons, List.foldl_nil, List.setIfInBounds_toArray, List.set_cons_succ, List.set_cons_zero]
    have HR : Veil _ := ⟨hr⟩
    have HI1 : Veil _ := ⟨hi1⟩
    have hkl : k < KS.length := by rw [HKL.out]; exact hlt
    have hsl := HKT.out k hkl
    have stop : Veil (goodAt KS k = false → r = false) := ⟨fun hn => by
      cases r with
      | false => rfl
      | true => have := HRI.out.1 rfl k hkl; rw [hn] at this; cases this⟩
    have HG : Veil (goodAt KS k = (lessB (prevK KS k) (KS.getD k []) && decide ((KS.getD k []).length ≤ 24))) := ⟨rfl⟩
    have HGN : Veil (goodAt KS k = true → ∀ i, i < k + 1 → goodAt KS i = true) := ⟨fun ht i hi => by
      rcases Nat.lt_or_eq_of_le (Nat.le_of_lt_succ hi) with h | h
      · exact HR.out i h
      · rw [h]; exact ht⟩
    have HN : Veil (prevK KS (k + 1) = KS.getD k []) := ⟨by simp [prevK]⟩
    clear hI hr hi1 hkl hlt HRI
    revert hsl HG HN HI1
    generalize prevK KS k = q
    generalize KS.getD k [] = s
    intro HI1 hsl HG HN
    gi_wp2
    refine ⟨KeepsFrom.refl _ _, fun A2 hbk hsz => ?_⟩
    have HI2 : Veil _ := ⟨HI1.out.booked hbk (by have := HW.out; have := HZ.out; omega)⟩
    clear hbk hsz HI1
    have q1 := cell_row6 HI2.out.r
    have f1 : A2.frozen? ⟨B1, 0, none⟩ = false := frozen_whole HI2.out.r _
    have q2 := cell_row6 HI2.out.l
    have f2 : A2.frozen? ⟨B2, 0, none⟩ = false := frozen_whole HI2.out.l _
    have HBE : Veil (r = false → KeepsFrom w1.heap.size A2 (A2.setCell ⟨B1, 0, none⟩ (.bool false)) ∧ r = false ∧ (A2.setCell ⟨B1, 0, none⟩ (.bool false)).heap[B1]? = some (.cells #[.bool false] 4 (0, 0)) ∧ Turned (fun _ => False) w (A2.setCell ⟨B1, 0, none⟩ (.bool false))) := ⟨fun hr => by
      have hT : Turned (· = B1) A2 (A2.setCell ⟨B1, 0, none⟩ (.bool false)) := (Turned.refl (· = B1) A2).setCell (p := ⟨B1, 0, none⟩) rfl _
      have hW := HW.out
      exact ⟨keepsFrom_turned6 hT (fun j hj => .inl (by have := HZ.out; omega)), hr, heap_setCell_at HI2.out.r 0 _, HI2.out.t.then hT (fun j hj e => by omega)⟩⟩
    cases hq : lessB q s
    · have hbe := HBE.out (stop.out (by rw [HG.out, hq]; rfl))
      have HB3 : Veil _ := ⟨hbe⟩
      clear hbe HBE HG HGN stop HN
      by_cases he : s = q
      · subst he
        have k1 : Op.bytesLess s s = false := by rw [bytesLess_lessB]; exact hq
        have k2 : (s == s) = true := by simp
        clear hq
        gi_wp2
        exact ⟨HB3.out.1, rfl, HB3.out.2⟩
      · have k1 : Op.bytesLess s q = true := by rw [bytesLess_lessB]; exact lessB_total q s hq (fun e => he e.symm)
        clear hq he
        gi_wp2
        exact ⟨HB3.out.1, rfl, HB3.out.2⟩
    · have k1 : Op.bytesLess s q = false := by rw [bytesLess_lessB]; exact lessB_asymm hq
      have k2 : (s == q) = false := by
        rw [beq_eq_false_iff_ne]; rintro rfl; rw [lessB_irrefl] at hq; cases hq
      by_cases hl24 : 24 < s.length
      · have hbe := HBE.out (stop.out (by rw [HG.out, hq]; simp; omega))
        have HB3 : Veil _ := ⟨hbe⟩
        clear hbe HBE HG HGN stop HN hq
        gi_wp2
        exact ⟨HB3.out.1, rfl, HB3.out.2⟩
      · have HGG : Veil _ := ⟨HGN.out (by rw [HG.out, hq]; simp; omega)⟩
        clear HBE HG HGN stop hq
        gi_wp2
        have hT := (Turned.refl (· = B2) A2).setCell (p := ⟨B2, 0, none⟩) rfl (.string ⟨s.toArray⟩)
        have hW := HW.out
        refine ⟨keepsFrom_turned6 hT (fun j hj => .inl (by have := HZ.out; omega)), ⟨hT.heap HI2.out.r (by omega), ?_, HH.out.turned HI2.out.x hT (fun k hk => by omega), HI2.out.t.then hT (fun k hk e => by omega)⟩, HGG.out⟩
        rw [HN.out]
        exact heap_setCell_at HI2.out.l 0 _
  case hdone =>
    rintro Dd A hDd ⟨h1, hr⟩ hdd
    have HI : Veil _ := ⟨h1⟩
    have HD : Veil _ := ⟨hdd⟩
    obtain rfl : r = true := HRI.out.2 (by rw [HKL.out]; exact hr)
    have q1 := cell_row6 h1.r
    have f1 : A.frozen? ⟨B1, 0, none⟩ = false := frozen_whole h1.r _
    clear h1 hdd hI hr
    go_wp2
    have hT : Turned (· = B1) A (A.setCell ⟨B1, 0, none⟩ (.bool true)) := (Turned.refl (· = B1) A).setCell (p := ⟨B1, 0, none⟩) rfl _
    refine leaves_mark (D := Dd) (B := w.heap.size) (hT.heap HD.out (by have := HW.out; have := HZ.out; omega)) (by have := HW.out; have := HZ.out; omega) ?_
    intro w' hb _
    refine leaves_none (results_bool6 (g := B1) rfl rfl (hb.heap (heap_setCell_at HI.out.r 0 (.bool true)))) ⟨rfl, ?_⟩
    exact (hb.turned (HI.out.t.then hT (fun k hk e => by have := HW.out; omega)) (Nat.le_refl _)).toBelow (Nat.le_refl _) (fun _ _ h => h.elim)
  case hstop =>
    rintro Dd cd k A hDd hlt ⟨rfl, rfl, h3, h4⟩ hdd
    clear hI
    go_wp2
    refine leaves_mark (D := Dd) (B := w.heap.size) hdd (by have := HW.out; have := HZ.out; omega) ?_
    intro w' hb _
    refine leaves_none (results_bool6 (g := B1) rfl rfl (hb.heap h3)) ⟨rfl, ?_⟩
    exact (hb.turned h4 (Nat.le_refl _)).toBelow (Nat.le_refl _) (fun _ _ h => h.elim)
end Go.Proofs.YtokbmimbbeedcaaGreatDoor

/- The walk of Place (the document's own). -/
namespace Go.Proofs.YtokbmimbbeedcaaGreatDoor
open Go Go.RowKit Sm
attribute [local go_sem] Oper.semAt_some

/-- How many hold. -/
def cnt (f : Nat → Bool) : Nat → Nat
  | 0 => 0
  | k + 1 => cnt f k + if f k = true then 1 else 0
theorem cnt_le (f : Nat → Bool) : ∀ k, cnt f k ≤ k
  | 0 => Nat.le_refl _
  | k + 1 => by
    have := cnt_le f k
    unfold cnt
    split <;> omega
def lessP (n : Nd) (key : List UInt8) (i : Nat) : Bool := lessB (n.ps.getD i Pr.zero).k key
def mostK (n : Nd) (key : List UInt8) (i : Nat) : Bool := !lessB key (n.ks.getD i [])
def Nd.place (n : Nd) (key : List UInt8) : Nat := if n.right then cnt (lessP n key) n.ps.length + cnt (mostK n key) n.ks.length else 0

end Go.Proofs.YtokbmimbbeedcaaGreatDoor

/- The walk of Delete (the document's own). -/
namespace Go.Proofs.YtokbmimbbeedcaaGreatDoor
open Go Go.RowKit Sm
attribute [local go_sem] Oper.semAt_some

def others (key : List UInt8) (p : Pr) : Bool := decide (p.k ≠ key)
/-- What Delete answers. -/
def Nd.del (n : Nd) (key : List UInt8) : Nd × Bool × Int := if n.leaf then (⟨n.ps.filter (others key), [], []⟩, decide ((n.ps.filter (others key)).length < n.ps.length), 0) else (Nd.zero, false, 60)
def DelPost (w : World) (t : Nd × Bool × Int) (e : Ending) (w' : World) : Prop := ∃ v1 v2 v3, e = .returned (.tuple #[.agg #[v1, v2, v3], .bool t.2.1, .int .i64 t.2.2]) ∧ NdOwn w' w.heap.size v1 v2 v3 t.1 ∧ Below w.heap.size w w'
end Go.Proofs.YtokbmimbbeedcaaGreatDoor
