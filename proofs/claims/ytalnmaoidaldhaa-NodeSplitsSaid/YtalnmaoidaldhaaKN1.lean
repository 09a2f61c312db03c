/- Texts byte by byte: the walk of Less; pairs, texts, numbers as elements; a node. -/
import Derived.BigQuiet
import Derived.Test.YtalnmaoidaldhaaKN0
import Derived.Test.YtalnmaoidaldhaaKP3
import Derived.Test.YtalnmaoidaldhaaKF1
namespace Go.Proofs.Ytalnmaoidaldhaa
open Go Go.RowKit Sm
attribute [local go_sem] Oper.semAt_some

theorem bn_then {w w1 w2 : World} (h : Below w.heap.size w w1) (k : Below w1.heap.size w1 w2) : Below w.heap.size w w2 := h.trans (k.mono h.size)
theorem bn_drewN {w w1 : World} (n : Nat) (h : Below w.heap.size w w1) : Below w.heap.size w (w1.drewN n) := ⟨h.os, h.tape, h.output, h.size, h.block⟩

theorem drewN_more {w w1 : World} (m : Nat) : (∃ n, w1 = w.drewN n) → ∃ n, w1.drewN m = w.drewN n := fun ⟨n, h⟩ => ⟨n + m, by rw [h, World.drewN_drewN]⟩

def lessB : List UInt8 → List UInt8 → Bool
  | [], b => decide (0 < b.length)
  | _ :: _, [] => false
  | x :: r, y :: s => if x = y then lessB r s else decide (x.toNat < y.toNat)
theorem lessB_at : ∀ (a b : List UInt8) (m : Nat), m ≤ a.length → m ≤ b.length → a.take m = b.take m → (m = a.length ∨ m = b.length → lessB a b = decide (a.length < b.length)) ∧ (m < a.length → m < b.length → a.getD m 0 ≠ b.getD m 0 → lessB a b = decide ((a.getD m 0).toNat < (b.getD m 0).toNat)) := by
  intro a
  induction a with
  | nil =>
    intro b m h1 h2 h3
    refine ⟨fun _ => by simp [lessB], fun h => by simp at h⟩
  | cons x r ih =>
    intro b m h1 h2 h3
    cases b with
    | nil => exact ⟨fun _ => by simp [lessB], fun _ h => by simp at h⟩
    | cons y s =>
      cases m with
      | zero =>
        refine ⟨fun h => by simp at h, fun _ _ hne => ?_⟩
        simp at hne
        simp [lessB, hne]
      | succ m =>
        simp only [List.take_succ_cons, List.cons.injEq] at h3
        obtain ⟨rfl, h3⟩ := h3
        obtain ⟨k1, k2⟩ := ih s m (by simpa using h1) (by simpa using h2) h3
        refine ⟨fun h => ?_, fun h4 h5 hne => ?_⟩
        · have := k1 (by simpa using h)
          simp [lessB, this]
        · have := k2 (by simpa using h4) (by simpa using h5) (by simpa using hne)
          simpa [lessB] using this
theorem take_next {a b : List UInt8} {m : Nat} (h1 : m < a.length) (h2 : m < b.length) (h : a.take m = b.take m) (he : a.getD m 0 = b.getD m 0) : a.take (m + 1) = b.take (m + 1) := by
  rw [List.take_add_one, List.take_add_one, h]
  have e1 : a[m]? = some (a.getD m 0) := by simp [List.getD, h1]
  have e2 : b[m]? = some (b.getD m 0) := by simp [List.getD, h2]
  rw [e1, e2, he]

set_option maxRecDepth 20000 in
set_option maxHeartbeats 1000000 in
theorem less_any (a b : List UInt8) (ha : a.length ≤ 1000000) (_hb : b.length ≤ 1000000) (w : World) : Calls Try.prog 51 #[.string ⟨a.toArray⟩, .string ⟨b.toArray⟩] w fun e w' => e = .returned (.bool (lessB a b)) ∧ ∃ n, w' = w.drewN n := by
  go_enter Try.func51, Try.ntmps51
  go_wp2
  go_loopw [5] (fun j wi => ∃ m : Nat, m ≤ a.length ∧ m ≤ b.length ∧ Veil (a.take m = b.take m) ∧ j = .int .i64 m ∧ Veil (∃ n, wi = w.drewN n)) (fun j _ => a.length - (intOf j).toNat)
  case atStart => exact ⟨0, Nat.zero_le _, Nat.zero_le _, ⟨by simp⟩, rfl, ⟨0, World.drewN_zero w⟩⟩
  case round =>
    obtain ⟨m, hm1, hm2, hT, rfl, hB⟩ := hrel
    have HL : Veil _ := ⟨lessB_at a b m hm1 hm2 hT.out⟩
    by_cases h1 : m < a.length
    · by_cases h2 : m < b.length
      · have hci : (⟨a.toArray⟩ : ByteArray)[m]'(by simpa [ByteArray.size] using h1) = a.getD m 0 := by
          simp [List.getD, h1]; rfl
        have hci2 : (⟨b.toArray⟩ : ByteArray)[m]'(by simpa [ByteArray.size] using h2) = b.getD m 0 := by
          simp [List.getD, h2]; rfl
        have HN : Veil (a.getD m 0 = b.getD m 0 → a.take (m + 1) = b.take (m + 1)) := ⟨take_next h1 h2 hT.out⟩
        revert hci hci2 HL HN
        generalize a.getD m 0 = c
        generalize b.getD m 0 = d
        intro HL hci hci2 HN
        by_cases hcd : c = d
        · subst hcd
          have HN' : Veil _ := ⟨HN.out rfl⟩
          clear HN HL
          go_wp2
          go_quiet (fail)
          go_wp2
          refine ⟨⟨m + 1, by omega, by omega, HN', by go_num, ⟨drewN_more nq hB.out⟩⟩, ?_⟩
          simp only [intOf]; omega
        · have hcd2 : c.toNat ≠ d.toNat := fun e => hcd (UInt8.toNat_inj.1 e)
          have HR : Veil _ := ⟨HL.out.2 h1 h2 hcd⟩
          clear HL HN hcd
          go_wp2
          go_quiet (fail)
          have HB2 : Veil _ := ⟨drewN_more nq hB.out⟩
          go_wp2
          go_quiet (fail)
          go_wp2
          go_ret
          exact ⟨congrArg (fun x => Ending.returned (Value.bool x)) HR.out.symm, drewN_more nq HB2.out⟩
      · obtain rfl : m = b.length := by omega
        have HR : Veil _ := ⟨HL.out.1 (Or.inr rfl)⟩
        clear HL h2
        go_wp2
        go_ret
        exact ⟨congrArg (fun x => Ending.returned (Value.bool x)) HR.out.symm, hB.out⟩
    · obtain rfl : m = a.length := by omega
      have HR : Veil _ := ⟨HL.out.1 (Or.inl rfl)⟩
      clear HL h1
      go_wp2
      go_ret
      exact ⟨congrArg (fun x => Ending.returned (Value.bool x)) HR.out.symm, hB.out⟩

theorem below_drewN' {w w' : World} (h : ∃ n, w' = w.drewN n) : Below w.heap.size w w' := by
  obtain ⟨n, rfl⟩ := h
  exact bn_drewN n (Below.refl _ _)

/-! ### A node -/
structure Pr where
  k : List UInt8
  v : List UInt8
def Pr.zero : Pr := ⟨[], []⟩
def Pr.vv (p : Pr) : Value := .agg #[.string ⟨p.k.toArray⟩, .string ⟨p.v.toArray⟩]
def sv (s : List UInt8) : Value := .string ⟨s.toArray⟩
def elP : El Pr where
  enc p := [sv p.k, sv p.v]
  z := 2
  ty := 39
  sl := 22
  bytes := 32
  zero := .agg #[.string ⟨#[]⟩, .string ⟨#[]⟩]
  d := Pr.zero
  len _ := rfl
  one x v hv := by
    simp only [List.mem_cons, List.not_mem_nil, or_false] at hv
    rcases hv with rfl | rfl <;> rfl
  pos := by decide
  under := by kernel_rfl
  info := by kernel_rfl
  zlen := rfl
  few := by decide
def elK : El (List UInt8) where
  enc s := [sv s]
  z := 1
  ty := 9
  sl := 23
  bytes := 16
  zero := .string ⟨#[]⟩
  d := []
  len _ := rfl
  one x v hv := by
    simp only [List.mem_cons, List.not_mem_nil, or_false] at hv
    subst hv; rfl
  pos := by decide
  under := by kernel_rfl
  info := by kernel_rfl
  zlen := rfl
  few := by decide
def elD : El Nat where
  enc n := [.int .u32 n]
  z := 1
  ty := 49
  sl := 24
  bytes := 4
  zero := .int .u32 0
  d := 0
  len _ := rfl
  one x v hv := by
    simp only [List.mem_cons, List.not_mem_nil, or_false] at hv
    subst hv; rfl
  pos := by decide
  under := by kernel_rfl
  info := by kernel_rfl
  zlen := rfl
  few := by decide
end Go.Proofs.Ytalnmaoidaldhaa

/- A node: what it is, when it is right; the walk of RightPair. -/
namespace Go.Proofs.Ytalnmaoidaldhaa
open Go Go.RowKit Sm
attribute [local go_sem] Oper.semAt_some

/-- So many hold. -/
def allTo (f : Nat → Bool) (n : Nat) : Bool := (List.range n).all f
theorem allTo_iff (f : Nat → Bool) (n : Nat) : allTo f n = true ↔ ∀ i, i < n → f i = true := by simp [allTo]
theorem allTo_false {f : Nat → Bool} {n k : Nat} (hk : k < n) (h : f k = false) : allTo f n = false := by
  cases ha : allTo f n with
  | false => rfl
  | true => rw [(allTo_iff f n).1 ha k hk] at h; cases h
structure Nd where
  ps : List Pr
  ks : List (List UInt8)
  ds : List Nat
def Nd.zero : Nd := ⟨[], [], []⟩
structure Nd.Ok (n : Nd) : Prop where
  p : n.ps.length ≤ 100000
  k : n.ks.length ≤ 100000
  d : n.ds.length ≤ 100000
  pt : ∀ p ∈ n.ps, p.k.length ≤ 1000000 ∧ p.v.length ≤ 1000000
  kt : ∀ s ∈ n.ks, s.length ≤ 1000000
  dt : ∀ d ∈ n.ds, d < 4294967296
theorem getD_mem {α : Type} {L : List α} {i : Nat} (h : i < L.length) (d : α) : L.getD i d ∈ L := by
  rw [List.getD, List.getElem?_eq_getElem h]; exact List.getElem_mem h
def rightP (p : Pr) : Bool := decide (1 ≤ p.k.length ∧ p.k.length ≤ 24 ∧ p.v.length ≤ 60)
theorem rightP_iff (p : Pr) : rightP p = true ↔ (1 ≤ p.k.length ∧ p.k.length ≤ 24 ∧ p.v.length ≤ 60) := by simp [rightP]
def goodP (L : List Pr) (i : Nat) : Bool := rightP (L.getD i Pr.zero) && (decide (i = 0) || lessB (L.getD (i - 1) Pr.zero).k (L.getD i Pr.zero).k)
def goodK (L : List (List UInt8)) (i : Nat) : Bool := decide (1 ≤ (L.getD i []).length ∧ (L.getD i []).length ≤ 24) && (decide (i = 0) || lessB (L.getD (i - 1) []) (L.getD i []))
def goodD (L : List Nat) (i : Nat) : Bool := decide (2 ≤ L.getD i 0 ∧ L.getD i 0 < 16384)
def Nd.leaf (n : Nd) : Bool := decide (n.ks.length = 0 ∧ n.ds.length = 0 ∧ n.ps.length ≤ 255) && allTo (goodP n.ps) n.ps.length
def Nd.branch (n : Nd) : Bool := decide (n.ps.length = 0 ∧ 1 ≤ n.ds.length ∧ n.ds.length ≤ 255 ∧ n.ks.length + 1 = n.ds.length) && (allTo (goodD n.ds) n.ds.length && allTo (goodK n.ks) n.ks.length)
def Nd.right (n : Nd) : Bool := n.leaf || n.branch

/-- Where a node lies. -/
structure NdP where
  pp : Option Addr
  cp : Nat
  pk : Option Addr
  ck : Nat
  pd : Option Addr
  cd : Nat
def Nd.v (n : Nd) (a : NdP) : Value := .agg #[.slice a.pp n.ps.length a.cp, .slice a.pk n.ks.length a.ck, .slice a.pd n.ds.length a.cd]
structure NdAt (w : World) (n : Nd) (a : NdP) : Prop where
  p : Els elP w a.pp n.ps
  k : Els elK w a.pk n.ks
  d : Els elD w a.pd n.ds
theorem NdAt.below {w w' : World} {n : Nd} {a : NdP} (h : NdAt w n a) (hb : Below w.heap.size w w') : NdAt w' n a := ⟨h.p.below hb, h.k.below hb, h.d.below hb⟩
theorem NdAt.pair {w : World} {n : Nd} {a : NdP} (h : NdAt w n a) (hne : n.ps ≠ []) : ∃ b o, a.pp = some ⟨b, o, none⟩ ∧ ∀ i, i < n.ps.length → w.cell? ⟨b, o + i * 2, none⟩ = some (.string ⟨(n.ps.getD i Pr.zero).k.toArray⟩) ∧ w.cell? ⟨b, o + i * 2 + 1, none⟩ = some (.string ⟨(n.ps.getD i Pr.zero).v.toArray⟩) := by
  obtain ⟨b, o, hp, hc⟩ := h.p hne
  exact ⟨b, o, hp, fun i hi => ⟨hc i 0 hi (by decide), hc i 1 hi (by decide)⟩⟩
theorem NdAt.key {w : World} {n : Nd} {a : NdP} (h : NdAt w n a) (hne : n.ks ≠ []) : ∃ b o, a.pk = some ⟨b, o, none⟩ ∧ ∀ i, i < n.ks.length → w.cell? ⟨b, o + i, none⟩ = some (.string ⟨(n.ks.getD i []).toArray⟩) := by
  obtain ⟨b, o, hp, hc⟩ := h.k hne
  exact ⟨b, o, hp, fun i hi => by have := hc i 0 hi (by decide); rwa [show o + i * elK.z + 0 = o + i from by show o + i * 1 + 0 = o + i; omega] at this⟩
theorem NdAt.kid {w : World} {n : Nd} {a : NdP} (h : NdAt w n a) (hne : n.ds ≠ []) : ∃ b o, a.pd = some ⟨b, o, none⟩ ∧ ∀ i, i < n.ds.length → w.cell? ⟨b, o + i, none⟩ = some (.int .u32 (n.ds.getD i 0)) := by
  obtain ⟨b, o, hp, hc⟩ := h.d hne
  exact ⟨b, o, hp, fun i hi => by have := hc i 0 hi (by decide); rwa [show o + i * elD.z + 0 = o + i from by show o + i * 1 + 0 = o + i; omega] at this⟩
theorem box3 {w : World} {g : Nat} {a0 a1 a2 : Value} {t : TypeId} (h : w.heap[g]? = some (.cells #[a0, a1, a2] t (0, 0))) :
    (w.cell? ⟨g, 0, none⟩ = some a0 ∧ w.cell? ⟨g, 1, none⟩ = some a1 ∧ w.cell? ⟨g, 2, none⟩ = some a2) ∧ (w.frozen? ⟨g, 0, none⟩ = false ∧ w.frozen? ⟨g, 1, none⟩ = false ∧ w.frozen? ⟨g, 2, none⟩ = false) := by
  have h' : w.heap[g]? = some (.cells [a0, a1, a2].toArray t (0, 0)) := h
  exact ⟨⟨cell_whole h' 0, cell_whole h' 1, cell_whole h' 2⟩, frozen_whole h _, frozen_whole h _, frozen_whole h _⟩

set_option maxRecDepth 20000 in
set_option maxHeartbeats 1000000 in
theorem rightpair_any (p : Pr) (hp : p.k.length ≤ 1000000 ∧ p.v.length ≤ 1000000) (w : World) : Calls Try.prog 50 #[p.vv] w fun e w' => e = .returned (.bool (rightP p)) ∧ Below w.heap.size w w' := by
  have HR : Veil _ := ⟨rightP_iff p⟩
  obtain ⟨r, hr⟩ : ∃ r, rightP p = r := ⟨_, rfl⟩
  rw [hr] at HR ⊢
  clear hr
  obtain ⟨k, v⟩ := p
  obtain ⟨h1, h2⟩ := hp
  unfold Pr.vv
  simp only at *
  have H : Veil _ := ⟨HR.out⟩
  clear HR
  go_enter Try.func50, Try.ntmps50
  go_wp2
  all_goals
    go_ret
    refine ⟨?_, below_al (Below.refl _ _) _⟩
    refine (show Ending.returned (Value.bool _) = Ending.returned (Value.bool _) from congrArg (fun x => Ending.returned (Value.bool x)) ?_)
    have hr := H.out
    cases r <;> simp at hr ⊢ <;> omega

theorem Nd.leaf_iff (n : Nd) : n.leaf = true ↔ (n.ks.length = 0 ∧ n.ds.length = 0 ∧ n.ps.length ≤ 255) ∧ ∀ i, i < n.ps.length → goodP n.ps i = true := by simp [Nd.leaf, allTo_iff]
theorem Nd.branch_iff (n : Nd) : n.branch = true ↔ (n.ps.length = 0 ∧ 1 ≤ n.ds.length ∧ n.ds.length ≤ 255 ∧ n.ks.length + 1 = n.ds.length) ∧ (∀ i, i < n.ds.length → goodD n.ds i = true) ∧ ∀ i, i < n.ks.length → goodK n.ks i = true := by simp [Nd.branch, allTo_iff]

set_option maxRecDepth 20000 in
set_option maxHeartbeats 2000000 in
theorem leaf_of {w : World} {n : Nd} {a : NdP} (h : NdAt w n a) (hok : Veil n.Ok) : Calls Try.prog 39 #[n.v a] w fun e w' => e = .returned (.bool n.leaf) ∧ Below w.heap.size w w' := by
  have HRI : Veil _ := ⟨n.leaf_iff⟩
  obtain ⟨r, hr⟩ : ∃ r, n.leaf = r := ⟨_, rfl⟩
  rw [hr] at HRI ⊢
  clear hr
  have HH := Lib.hid h
  clear h
  obtain ⟨P, K, D⟩ := n
  obtain ⟨pp, cp, pk, ck, pd, cd⟩ := a
  have hP : P.length ≤ 100000 := hok.out.p
  have hK : K.length ≤ 100000 := hok.out.k
  have hD : D.length ≤ 100000 := hok.out.d
  unfold Nd.v
  dsimp only at *
  by_cases h1 : 0 < K.length
  · obtain rfl : r = false := by cases r with | false => rfl | true => have := (HRI.out.1 rfl).1; omega
    go_enter Try.func39, Try.ntmps39
    go_wp2
    go_ret
    exact ⟨rfl, below_al (Below.refl _ _) _⟩
  by_cases h2 : 0 < D.length
  · obtain rfl : r = false := by cases r with | false => rfl | true => have := (HRI.out.1 rfl).1; omega
    go_enter Try.func39, Try.ntmps39
    go_wp2
    go_ret
    exact ⟨rfl, below_al (Below.refl _ _) _⟩
  by_cases h3 : 255 < P.length
  · obtain rfl : r = false := by cases r with | false => rfl | true => have := (HRI.out.1 rfl).1; omega
    go_enter Try.func39, Try.ntmps39
    go_wp2
    go_ret
    exact ⟨rfl, below_al (Below.refl _ _) _⟩
  have HS : Veil (K.length = 0 ∧ D.length = 0 ∧ P.length ≤ 255) := ⟨by omega⟩
  go_enter Try.func39, Try.ntmps39
  go_wp2
  clear h1 h2 h3
  obtain ⟨W1, hW1⟩ : ∃ W1, w.alloc (.cells #[.slice pp P.length cp, .slice pk K.length ck, .slice pd D.length cd] 26) = W1 := ⟨_, rfl⟩
  have HB1 : Veil (W1.heap[w.heap.size]? = some (.cells #[.slice pp P.length cp, .slice pk K.length ck, .slice pd D.length cd] 26 (0, 0))) := ⟨by rw [← hW1]; exact heap_alloc_new _ _⟩
  have HX1 : Veil (Below w.heap.size w W1) := ⟨by rw [← hW1]; exact below_al (Below.refl _ _) _⟩
  have HS1 : Veil _ := ⟨HH.out.below HX1.out⟩
  rw [hW1]
  clear hW1 HH
  go_loopw [3, 4] (fun i _ wr => ∃ k : Nat, k ≤ P.length ∧ i = .int .i64 k ∧ Veil (Below W1.heap.size W1 wr ∧ ∀ i, i < k → goodP P i = true)) (fun i _ _ => P.length - (intOf i).toNat)
  case atStart => exact ⟨0, Nat.zero_le _, rfl, ⟨Below.refl _ _, fun i hi => absurd hi (by omega)⟩⟩
  case round =>
    obtain ⟨k, hk, rfl, hJ⟩ := hrel
    have HB2 : Veil _ := ⟨(hJ.out.1.block w.heap.size (lt_of_heap HB1.out)).trans HB1.out⟩
    obtain ⟨⟨a0, a1, a2⟩, -⟩ := box3 HB2.out
    have hzz : w.heap.size < wr.heap.size := lt_of_heap HB2.out
    by_cases hlt : k < P.length
    · have HS2 : Veil _ := ⟨HS1.out.below hJ.out.1⟩
      obtain ⟨b, o, hpe, hc⟩ := HS2.out.pair (by rintro he; dsimp only at he; simp [he] at hlt)
      dsimp only at hpe hc
      subst hpe
      obtain ⟨c1, c2⟩ := hc k hlt
      have HBL : Veil _ := ⟨hJ.out.1⟩
      have HJ : Veil _ := ⟨hJ.out.2⟩
      have HC : Veil _ := ⟨hc⟩
      have hbb : b < wr.heap.size := World.block_lt_of_cell? wr _ c1
      have hpt := hok.out.pt _ (getD_mem hlt Pr.zero)
      have HRP : Veil (∀ w, Calls Try.prog 50 #[(P.getD k Pr.zero).vv] w fun e w' => e = .returned (.bool (rightP (P.getD k Pr.zero))) ∧ Below w.heap.size w w') := ⟨rightpair_any _ hpt⟩
      have hkI : (0 : Int) ≤ k := by omega
      have stop : Veil (goodP P k = false → r = false) := ⟨fun hf => by
        cases r with
        | false => rfl
        | true => have := (HRI.out.1 rfl).2 k hlt; rw [hf] at this; cases this⟩
      clear hJ hc
      have HG : Veil (goodP P k = (rightP (P.getD k Pr.zero) && (decide (k = 0) || lessB (P.getD (k - 1) Pr.zero).k (P.getD k Pr.zero).k))) := ⟨rfl⟩
      have HGN : Veil (goodP P k = true → ∀ i, i < k + 1 → goodP P i = true) := ⟨fun ht i hi => by
        rcases Nat.lt_or_eq_of_le (Nat.le_of_lt_succ hi) with h | h
        · exact HJ.out i h
        · rw [h]; exact ht⟩
      revert c1 c2 HRP HG hpt
      generalize P.getD k Pr.zero = s
      obtain ⟨sk, sv⟩ := s
      intro c1 c2 hpt HRP HG
      unfold Pr.vv at HRP
      dsimp only at c1 c2 HRP HG hpt
      cases hrp : rightP ⟨sk, sv⟩
      · rw [hrp] at HRP HG
        obtain rfl : r = false := stop.out (by rw [HG.out]; rfl)
        clear hrp
        go_wp2_with (go_at_call 50; refine (HRP.out _).mono ?_; rintro e w3 ⟨rfl, hb3⟩)
        go_quiet (fail)
        have HX2 : Veil (Below w.heap.size w (w3.drewN nq)) := ⟨bn_drewN nq (bn_then (bn_then HX1.out HBL.out) hb3)⟩
        go_wp2
        go_ret
        exact ⟨rfl, HX2.out⟩
      · rw [hrp] at HRP HG
        cases k with
        | zero =>
          have hgg := HGN.out (by rw [HG.out]; rfl)
          have HRV : Veil _ := ⟨hgg⟩
          clear hrp hgg
          simp only [Nat.zero_mul, Nat.add_zero] at c1 c2
          go_wp2_with (go_at_call 50; refine (HRP.out _).mono ?_; rintro e w3 ⟨rfl, hb3⟩)
          go_quiet (fail)
          have HX2 : Veil (Below W1.heap.size W1 (w3.drewN nq)) := ⟨bn_drewN nq (bn_then HBL.out hb3)⟩
          go_wp2
          refine ⟨⟨1, by omega, rfl, ⟨HX2.out, HRV.out⟩⟩, ?_⟩
          simp only [intOf]; omega
        | succ j =>
          have d1 := (HC.out j (by omega)).1
          have hpj := (hok.out.pt _ (getD_mem (show j < P.length by omega) Pr.zero)).1
          have HG2 : Veil (goodP P (j + 1) = lessB (P.getD j Pr.zero).k sk) := ⟨by rw [HG.out]; simp⟩
          clear hrp HG
          revert d1 hpj HG2
          generalize (P.getD j Pr.zero).k = pv
          intro d1 hpj HG2
          have ej : ((j + 1 : Nat) : Int) - 1 = (j : Int) := by omega
          have ej2 : IntKind.i64.wrap (((j + 1 : Nat) : Int) - 1) = (j : Int) := by rw [IntKind.wrap_i64]; omega
          have ej3 : decide ((0 : Int) < ((j + 1 : Nat) : Int)) = true := by rw [decide_eq_true_eq]; omega
          have ej4 : IntKind.i64.wrap (j : Int) = (j : Int) := by rw [IntKind.wrap_i64]; omega
          have hj0 : (0 : Int) ≤ j := by omega
          have hj1 : (j : Int) < P.length := by omega
          have HL : Veil (∀ w, Calls Try.prog 51 #[.string ⟨pv.toArray⟩, .string ⟨sk.toArray⟩] w fun e w' => e = .returned (.bool (lessB pv sk)) ∧ ∃ n, w' = w.drewN n) := ⟨less_any pv sk hpj hpt.1⟩
          clear hpt
          cases hl : lessB pv sk
          · obtain rfl : r = false := stop.out (by rw [HG2.out, hl])
            rw [hl] at HL
            clear hl
            go_wp2_with (go_at_call 50; refine (HRP.out _).mono ?_; rintro e w3 ⟨rfl, hb3⟩)
            have HX2 : Veil (Below w.heap.size w w3) := ⟨bn_then (bn_then HX1.out HBL.out) hb3⟩
            have e0 := (hb3.cell hzz).trans a0
            have e1 := (hb3.cell hbb).trans c1
            have e2 := (hb3.cell hbb).trans d1
            clear a0 a1 a2 c1 c2 d1
            go_quiet ((go_at_call 51; refine Calls.quiet_of (HL.out _)))
            go_wp2
            go_ret
            exact ⟨rfl, bn_drewN _ HX2.out⟩
          · have HRV : Veil _ := ⟨HGN.out (by rw [HG2.out, hl])⟩
            rw [hl] at HL
            clear hl
            go_wp2_with (go_at_call 50; refine (HRP.out _).mono ?_; rintro e w3 ⟨rfl, hb3⟩)
            have HX2 : Veil (Below W1.heap.size W1 w3) := ⟨bn_then HBL.out hb3⟩
            have e0 := (hb3.cell hzz).trans a0
            have e1 := (hb3.cell hbb).trans c1
            have e2 := (hb3.cell hbb).trans d1
            clear a0 a1 a2 c1 c2 d1
            go_quiet ((go_at_call 51; refine Calls.quiet_of (HL.out _)))
            go_wp2
            refine ⟨⟨j + 1 + 1, by omega, by go_num, ⟨bn_drewN _ HX2.out, HRV.out⟩⟩, ?_⟩
            simp only [intOf]; omega
    · obtain rfl : k = P.length := by omega
      obtain rfl : r = true := HRI.out.2 ⟨HS.out, hJ.out.2⟩
      have HX2 : Veil (Below w.heap.size w wr) := ⟨bn_then HX1.out hJ.out.1⟩
      clear hJ
      go_wp2
      go_ret
      exact ⟨rfl, HX2.out⟩
end Go.Proofs.Ytalnmaoidaldhaa

/- The walks of branch, Right (the document's own). -/
namespace Go.Proofs.Ytalnmaoidaldhaa
open Go Go.RowKit Sm
attribute [local go_sem] Oper.semAt_some

set_option maxRecDepth 20000 in
set_option maxHeartbeats 4000000 in
theorem branch_of {w : World} {n : Nd} {a : NdP} (h : NdAt w n a) (hok : Veil n.Ok) : Calls Try.prog 40 #[n.v a] w fun e w' => e = .returned (.bool n.branch) ∧ Below w.heap.size w w' := by
  have HRI : Veil _ := ⟨n.branch_iff⟩
  obtain ⟨r, hr⟩ : ∃ r, n.branch = r := ⟨_, rfl⟩
  rw [hr] at HRI ⊢
  clear hr
  have HH := Lib.hid h
  clear h
  obtain ⟨P, K, D⟩ := n
  obtain ⟨pp, cp, pk, ck, pd, cd⟩ := a
  have hP : P.length ≤ 100000 := hok.out.p
  have hK : K.length ≤ 100000 := hok.out.k
  have hD : D.length ≤ 100000 := hok.out.d
  unfold Nd.v
  dsimp only at *
  by_cases h1 : 0 < P.length
  · obtain rfl : r = false := by cases r with | false => rfl | true => have := (HRI.out.1 rfl).1; omega
    go_enter Try.func40, Try.ntmps40
    go_wp2
    go_ret
    exact ⟨rfl, below_al (Below.refl _ _) _⟩
  by_cases h2 : D.length < 1
  · obtain rfl : r = false := by cases r with | false => rfl | true => have := (HRI.out.1 rfl).1; omega
    go_enter Try.func40, Try.ntmps40
    go_wp2
    go_ret
    exact ⟨rfl, below_al (Below.refl _ _) _⟩
  by_cases h3 : 255 < D.length
  · obtain rfl : r = false := by cases r with | false => rfl | true => have := (HRI.out.1 rfl).1; omega
    go_enter Try.func40, Try.ntmps40
    go_wp2
    go_ret
    exact ⟨rfl, below_al (Below.refl _ _) _⟩
  have hdm : IntKind.i64.wrap ((D.length : Int) - 1) = (D.length : Int) - 1 := by rw [IntKind.wrap_i64]; omega
  by_cases h4 : K.length + 1 ≠ D.length
  · obtain rfl : r = false := by cases r with | false => rfl | true => have := (HRI.out.1 rfl).1; omega
    have h5 : ((K.length : Int) != (D.length : Int) - 1) = true := by simp; omega
    clear h4
    go_enter Try.func40, Try.ntmps40
    go_wp2
    go_ret
    exact ⟨rfl, below_al (Below.refl _ _) _⟩
  have h5 : ((K.length : Int) != (D.length : Int) - 1) = false := by simp; omega
  have HS : Veil (P.length = 0 ∧ 1 ≤ D.length ∧ D.length ≤ 255 ∧ K.length + 1 = D.length) := ⟨by omega⟩
  clear h4
  go_enter Try.func40, Try.ntmps40
  go_wp2
  clear h1 h2 h3 h5
  obtain ⟨W1, hW1⟩ : ∃ W1, w.alloc (.cells #[.slice pp P.length cp, .slice pk K.length ck, .slice pd D.length cd] 26) = W1 := ⟨_, rfl⟩
  have HB1 : Veil (W1.heap[w.heap.size]? = some (.cells #[.slice pp P.length cp, .slice pk K.length ck, .slice pd D.length cd] 26 (0, 0))) := ⟨by rw [← hW1]; exact heap_alloc_new _ _⟩
  have HX1 : Veil (Below w.heap.size w W1) := ⟨by rw [← hW1]; exact below_al (Below.refl _ _) _⟩
  have HS1 : Veil _ := ⟨HH.out.below HX1.out⟩
  rw [hW1]
  clear hW1 HH
  go_loopw [3] (fun i wr => ∃ k : Nat, k ≤ D.length ∧ i = .int .i64 k ∧ Veil (Below W1.heap.size W1 wr ∧ ∀ i, i < k → goodD D i = true)) (fun i _ => D.length - (intOf i).toNat)
  case atStart => exact ⟨0, Nat.zero_le _, rfl, ⟨Below.refl _ _, fun i hi => absurd hi (by omega)⟩⟩
  case round =>
    obtain ⟨k, hk, rfl, hJ⟩ := hrel
    have HB2 : Veil _ := ⟨(hJ.out.1.block w.heap.size (lt_of_heap HB1.out)).trans HB1.out⟩
    obtain ⟨⟨a0, a1, a2⟩, -⟩ := box3 HB2.out
    have hzz : w.heap.size < wr.heap.size := lt_of_heap HB2.out
    by_cases hlt : k < D.length
    · have HS2 : Veil _ := ⟨HS1.out.below hJ.out.1⟩
      obtain ⟨b, o, hpe, hc⟩ := HS2.out.kid (by rintro he; dsimp only at he; simp [he] at hlt)
      dsimp only at hpe hc
      subst hpe
      have c1 := hc k hlt
      have HBL : Veil _ := ⟨hJ.out.1⟩
      have HJ : Veil _ := ⟨hJ.out.2⟩
      have hkI : (0 : Int) ≤ k := by omega
      have stop : Veil (goodD D k = false → r = false) := ⟨fun hf => by
        cases r with
        | false => rfl
        | true => have := (HRI.out.1 rfl).2.1 k hlt; rw [hf] at this; cases this⟩
      clear hJ hc
      have HG : Veil (goodD D k = decide (2 ≤ D.getD k 0 ∧ D.getD k 0 < 16384)) := ⟨rfl⟩
      have HGN : Veil (goodD D k = true → ∀ i, i < k + 1 → goodD D i = true) := ⟨fun ht i hi => by
        rcases Nat.lt_or_eq_of_le (Nat.le_of_lt_succ hi) with h | h
        · exact HJ.out i h
        · rw [h]; exact ht⟩
      revert c1 HG
      generalize D.getD k 0 = s
      intro c1 HG
      by_cases g1 : s < 2
      · obtain rfl : r = false := stop.out (by rw [HG.out, decide_eq_false_iff_not]; omega)
        have HX2 : Veil (Below w.heap.size w wr) := ⟨bn_then HX1.out HBL.out⟩
        go_wp2
        go_ret
        exact ⟨rfl, HX2.out⟩
      by_cases g2 : 16384 ≤ s
      · obtain rfl : r = false := stop.out (by rw [HG.out, decide_eq_false_iff_not]; omega)
        have HX2 : Veil (Below w.heap.size w wr) := ⟨bn_then HX1.out HBL.out⟩
        go_wp2
        go_ret
        exact ⟨rfl, HX2.out⟩
      have hgg := HGN.out (by rw [HG.out, decide_eq_true_iff]; omega)
      have HRV : Veil _ := ⟨hgg⟩
      clear hgg
      go_wp2
      refine ⟨⟨k + 1, by omega, by go_num, ⟨HBL.out, HRV.out⟩⟩, ?_⟩
      simp only [intOf]; omega
    · obtain rfl : k = D.length := by omega
      have HDD : Veil _ := ⟨hJ.out.2⟩
      have HS2 : Veil _ := ⟨HS1.out.below hJ.out.1⟩
      have HX2 : Veil (Below w.heap.size w wr) := ⟨bn_then HX1.out hJ.out.1⟩
      clear hJ HB1 HS1 HX1 hlt hk
      go_wp2
      clear hdm
      have hKS : K.length ≤ 254 := by have := HS.out; omega
      obtain ⟨W2, hW2⟩ : ∃ W2, wr = W2 := ⟨_, rfl⟩
      rw [hW2] at HB2 HS2 HX2 hzz a0 a1 a2 ⊢
      clear hW2 a0 a1 a2
      go_loopw [4] (fun i wr => ∃ k : Nat, k ≤ K.length ∧ i = .int .i64 k ∧ Veil (Below W2.heap.size W2 wr ∧ ∀ i, i < k → goodK K i = true)) (fun i _ => K.length - (intOf i).toNat)
      case atStart => exact ⟨0, Nat.zero_le _, rfl, ⟨Below.refl _ _, fun i hi => absurd hi (by omega)⟩⟩
      case round =>
        obtain ⟨k, hk, rfl, hJ⟩ := hrel
        have HB3 : Veil _ := ⟨(hJ.out.1.block w.heap.size (lt_of_heap HB2.out)).trans HB2.out⟩
        obtain ⟨⟨a0, a1, a2⟩, -⟩ := box3 HB3.out
        have HBL : Veil _ := ⟨bn_then HX2.out hJ.out.1⟩
        by_cases hlt : k < K.length
        · have HS3 : Veil _ := ⟨HS2.out.below hJ.out.1⟩
          obtain ⟨b, o, hpe, hc⟩ := HS3.out.key (by rintro he; dsimp only at he; simp [he] at hlt)
          dsimp only at hpe hc
          subst hpe
          have c1 := hc k hlt
          have HJ : Veil _ := ⟨hJ.out.2⟩
          have HJ1 : Veil _ := ⟨hJ.out.1⟩
          have HC : Veil _ := ⟨hc⟩
          have hpt := hok.out.kt _ (getD_mem hlt [])
          have hkI : (0 : Int) ≤ k := by omega
          have stop : Veil (goodK K k = false → r = false) := ⟨fun hf => by
            cases r with
            | false => rfl
            | true => have := (HRI.out.1 rfl).2.2 k hlt; rw [hf] at this; cases this⟩
          clear hJ hc
          have HG : Veil (goodK K k = (decide (1 ≤ (K.getD k []).length ∧ (K.getD k []).length ≤ 24) && (decide (k = 0) || lessB (K.getD (k - 1) []) (K.getD k [])))) := ⟨rfl⟩
          have HGN : Veil (goodK K k = true → ∀ i, i < k + 1 → goodK K i = true) := ⟨fun ht i hi => by
            rcases Nat.lt_or_eq_of_le (Nat.le_of_lt_succ hi) with h | h
            · exact HJ.out i h
            · rw [h]; exact ht⟩
          revert c1 hpt HG
          generalize K.getD k [] = s
          intro c1 hpt HG
          by_cases g1 : s.length < 1
          · obtain rfl : r = false := stop.out (by rw [HG.out, decide_eq_false (by omega)]; rfl)
            have G1 : decide ((s.length : Int) < 1) = true := by simp; omega
            clear g1
            go_wp2
            go_quiet (fail)
            go_wp2
            go_ret
            exact ⟨rfl, bn_drewN _ HBL.out⟩
          have G1 : decide ((s.length : Int) < 1) = false := by simp; omega
          by_cases g2 : 24 < s.length
          · obtain rfl : r = false := stop.out (by rw [HG.out, decide_eq_false (by omega)]; rfl)
            have G2 : decide ((24 : Int) < s.length) = true := by simp; omega
            clear g1 g2
            go_wp2
            go_quiet (fail)
            go_wp2
            go_ret
            exact ⟨rfl, bn_drewN _ HBL.out⟩
          have G2 : decide ((24 : Int) < s.length) = false := by simp; omega
          have HG1 : Veil (goodK K k = (decide (k = 0) || lessB (K.getD (k - 1) []) s)) := ⟨by rw [HG.out, decide_eq_true (by omega)]; rfl⟩
          clear HG g1 g2
          cases k with
          | zero =>
            have HRV : Veil _ := ⟨HGN.out (by rw [HG1.out]; rfl)⟩
            simp only [Nat.add_zero] at c1
            go_wp2
            go_quiet (fail)
            go_wp2
            refine ⟨⟨1, by omega, rfl, ⟨bn_drewN _ HJ1.out, HRV.out⟩⟩, ?_⟩
            simp only [intOf]; omega
          | succ j =>
            have d1 := HC.out j (by omega)
            have hpj := hok.out.kt _ (getD_mem (show j < K.length by omega) [])
            have HG2 : Veil (goodK K (j + 1) = lessB (K.getD j []) s) := ⟨by rw [HG1.out]; simp⟩
            clear HG1
            revert d1 hpj HG2
            generalize K.getD j [] = pv
            intro d1 hpj HG2
            have ej : ((j + 1 : Nat) : Int) - 1 = (j : Int) := by omega
            have ej2 : IntKind.i64.wrap (((j + 1 : Nat) : Int) - 1) = (j : Int) := by rw [IntKind.wrap_i64]; omega
            have ej3 : decide ((0 : Int) < ((j + 1 : Nat) : Int)) = true := by rw [decide_eq_true_eq]; omega
            have ej4 : IntKind.i64.wrap (j : Int) = (j : Int) := by rw [IntKind.wrap_i64]; omega
            have hj0 : (0 : Int) ≤ j := by omega
            have hj1 : (j : Int) < K.length := by omega
            have HL : Veil (∀ w, Calls Try.prog 51 #[.string ⟨pv.toArray⟩, .string ⟨s.toArray⟩] w fun e w' => e = .returned (.bool (lessB pv s)) ∧ ∃ n, w' = w.drewN n) := ⟨less_any pv s hpj hpt⟩
            clear hpt
            cases hl : lessB pv s
            · obtain rfl : r = false := stop.out (by rw [HG2.out, hl])
              rw [hl] at HL
              clear hl
              go_wp2
              go_quiet ((go_at_call 51; refine Calls.quiet_of (HL.out _)))
              go_wp2
              go_ret
              exact ⟨rfl, bn_drewN _ HBL.out⟩
            · have HRV : Veil _ := ⟨HGN.out (by rw [HG2.out, hl])⟩
              rw [hl] at HL
              clear hl
              go_wp2
              go_quiet ((go_at_call 51; refine Calls.quiet_of (HL.out _)))
              go_wp2
              refine ⟨⟨j + 1 + 1, by omega, by go_num, ⟨bn_drewN _ HJ1.out, HRV.out⟩⟩, ?_⟩
              simp only [intOf]; omega
        · obtain rfl : k = K.length := by omega
          obtain rfl : r = true := HRI.out.2 ⟨HS.out, HDD.out, hJ.out.2⟩
          clear hJ
          go_wp2
          go_ret
          exact ⟨rfl, HBL.out⟩

set_option maxRecDepth 20000 in
set_option maxHeartbeats 1000000 in
theorem refnright_of {w : World} {n : Nd} {a : NdP} (h : NdAt w n a) (hok : Veil n.Ok) : Calls Try.prog 22 #[n.v a] w fun e w' => e = .returned (.bool n.right) ∧ Below w.heap.size w w' := by
  have HLf : Veil (∀ w, NdAt w n a → Calls Try.prog 39 #[n.v a] w fun e w' => e = .returned (.bool n.leaf) ∧ Below w.heap.size w w') := ⟨fun w h => leaf_of h hok⟩
  have HBr : Veil (∀ w, NdAt w n a → Calls Try.prog 40 #[n.v a] w fun e w' => e = .returned (.bool n.branch) ∧ Below w.heap.size w w') := ⟨fun w h => branch_of h hok⟩
  have HH := Lib.hid h
  unfold Nd.right
  clear h hok
  revert HLf HBr
  generalize n.leaf = x
  generalize n.branch = y
  intro HLf HBr
  obtain ⟨W1, hW1⟩ : ∃ W1, w.alloc (.cells #[.slice a.pp n.ps.length a.cp, .slice a.pk n.ks.length a.ck, .slice a.pd n.ds.length a.cd] 26) = W1 := ⟨_, rfl⟩
  have HB1 : Veil (W1.heap[w.heap.size]? = some (.cells #[.slice a.pp n.ps.length a.cp, .slice a.pk n.ks.length a.ck, .slice a.pd n.ds.length a.cd] 26 (0, 0))) := ⟨by rw [← hW1]; exact heap_alloc_new _ _⟩
  have HX1 : Veil (Below w.heap.size w W1) := ⟨by rw [← hW1]; exact below_al (Below.refl _ _) _⟩
  have HS1 : Veil _ := ⟨HH.out.below HX1.out⟩
  have hz : w.heap.size < W1.heap.size := lt_of_heap HB1.out
  obtain ⟨⟨a0, a1, a2⟩, -⟩ := box3 HB1.out
  clear HH
  unfold Nd.v at *
  go_enter Try.func22, Try.ntmps22
  cases x
  · go_wp2_with (first
      | (go_at_call 40; refine (HBr.out _ (HS1.out.below hb2)).mono ?_; rintro e w3 ⟨rfl, hb3⟩)
      | (go_at_call 39; refine (HLf.out _ HS1.out).mono ?_; rintro e w2 ⟨rfl, hb2⟩; have c0 := (hb2.cell hz).trans a0; have c1 := (hb2.cell hz).trans a1; have c2 := (hb2.cell hz).trans a2; clear a0 a1 a2))
    go_ret
    exact ⟨rfl, bn_then (bn_then HX1.out hb2) hb3⟩
  · go_wp2_with (go_at_call 39; refine (HLf.out _ HS1.out).mono ?_; rintro e w2 ⟨rfl, hb2⟩)
    go_ret
    exact ⟨rfl, bn_then HX1.out hb2⟩
end Go.Proofs.Ytalnmaoidaldhaa
