/- The walk of Load of a meta. -/
import Derived.Deep.RegionHeld3
import Derived.Test.YtapmppiiphbcpaaKM9
import Derived.Test.YtapmppiiphbcpaaKP8
import Derived.Test.YtapmppiiphbcpaaKP7
namespace Go.Proofs.Ytapmppiiphbcpaa
open Go Go.RowKit Sm
attribute [local go_sem] Oper.semAt_some

/-- The last commit of a disk. -/
def betterM (a b : Mt) : Mt := if a.tx < b.tx then b else a
def lastM (D : Dk) : Nat → Mt
  | 0 => Mt.zero
  | k + 1 => betterM (lastM D k) (heldM (D.seen.getD (k * 4) []) k)
def loadMV (D : Dk) : Value := if 4 < D.kept.length then (if (lastM D 2).tx = 0 then .tuple #[Mt.zero.v, .int .i64 40] else .tuple #[(lastM D 2).v, .int .i64 0]) else .tuple #[Mt.zero.v, .int .i64 10]
theorem heldM_or (s : List UInt8) (k : Nat) : heldM s k = Mt.zero ∨ 1 ≤ (heldM s k).tx := by
  unfold heldM
  split
  · rename_i h
    simp only [Bool.and_eq_true, isMt] at h
    exact .inr ((Mt.right_iff _).1 h.1.1.2).1
  · exact .inl rfl
theorem lastM_or (D : Dk) (k : Nat) : lastM D k = Mt.zero ∨ 1 ≤ (lastM D k).tx := by
  induction k with
  | zero => exact .inl rfl
  | succ k ih =>
    unfold lastM betterM
    split
    · exact heldM_or _ _
    · exact ih

theorem cell4_ne {w : World} {g k o : Nat} {x : Value} (h : w.cell? ⟨k, o, none⟩ = some x) (hk : k ≠ g) (v0 v1 v2 v3 : Value) :
    ((((w.setCell ⟨g, 0, none⟩ v0).setCell ⟨g, 1, none⟩ v1).setCell ⟨g, 2, none⟩ v2).setCell ⟨g, 3, none⟩ v3).cell? ⟨k, o, none⟩ = some x :=
by
  have e := set4_ne (w := w) (g := g) (k := k) (x := w.heap[k]?) (Eq.refl _) hk v0 v1 v2 v3
  generalize (((w.setCell ⟨g, 0, none⟩ v0).setCell ⟨g, 1, none⟩ v1).setCell ⟨g, 2, none⟩ v2).setCell ⟨g, 3, none⟩ v3 = X at e ⊢
  exact (World.cell?_of_block e).trans h
section
variable {w : World} {B1 B2 B3 B4 d kb sb : Nat} {v : Value} {D : Dk} {last : Mt} {c : Int} {A A' : World}
end

theorem cell_one {w : World} {b : Nat} {x : Value} {t : TypeId} {fr : Nat × Nat} (h : w.heap[b]? = some (.cells #[x] t fr)) : w.cell? ⟨b, 0, none⟩ = some x := by simp [World.cell?, h]
end Go.Proofs.Ytapmppiiphbcpaa

/- Metas and bytes are one to one: reckoning; a disk that the law itself has made. -/
namespace Go.Proofs.Ytapmppiiphbcpaa
open Go Go.RowKit Sm

theorem segsM (a b c d r : List UInt8) (ha : a.length = 8) (hb : b.length = 4) (hc : c.length = 4) (hd : d.length = 4) :
    (a ++ (b ++ (c ++ (d ++ r)))).take 8 = a ∧ ((a ++ (b ++ (c ++ (d ++ r)))).drop 8).take 4 = b ∧ ((a ++ (b ++ (c ++ (d ++ r)))).drop 12).take 4 = c ∧ ((a ++ (b ++ (c ++ (d ++ r)))).drop 16).take 4 = d := by
  have h1 : (a ++ (b ++ (c ++ (d ++ r)))).drop 8 = b ++ (c ++ (d ++ r)) := List.drop_left' ha
  have h5 : (a ++ (b ++ (c ++ (d ++ r)))).drop 12 = c ++ (d ++ r) := by
    rw [show 12 = 8 + 4 from rfl, ← List.drop_drop, h1]; exact List.drop_left' hb
  have h13 : (a ++ (b ++ (c ++ (d ++ r)))).drop 16 = d ++ r := by
    rw [show 16 = 12 + 4 from rfl, ← List.drop_drop, h5]; exact List.drop_left' hc
  rw [h1, h5, h13]
  exact ⟨List.take_left' ha, List.take_left' hb, List.take_left' hc, List.take_left' hd⟩
theorem Mt.enc_form (m : Mt) : m.enc = putB m.tx 8 ++ (putB m.root 4 ++ (putB m.high 4 ++ (putB m.free 4 ++ (List.replicate 36 0 ++ putB m.tx 8)))) := by
  simp [Mt.enc, List.append_assoc]
theorem Mt.of_enc (m : Mt) (hm : m.Ok) : Mt.of m.enc = m := by
  obtain ⟨s1, s2, s3, s4⟩ := segsM (putB m.tx 8) (putB m.root 4) (putB m.high 4) (putB m.free 4) (List.replicate 36 0 ++ putB m.tx 8) (by simp) (by simp) (by simp) (by simp)
  rw [← m.enc_form] at s1 s2 s3 s4
  have p4 : (256 : Nat) ^ 4 = 4294967296 := rfl
  have p8 : (256 : Nat) ^ 8 = 18446744073709551616 := rfl
  unfold Mt.of
  rw [s1, s2, s3, s4, getB_putB _ _ (by decide) (by rw [p8]; exact hm.tx), getB_putB _ _ (by decide) (by rw [p4]; exact hm.root), getB_putB _ _ (by decide) (by rw [p4]; exact hm.high), getB_putB _ _ (by decide) (by rw [p4]; exact hm.free)]
theorem Mt.back (m : Mt) (hm : m.Ok) (hr : m.right = true) : isMt m.enc = true := by
  unfold isMt
  rw [m.of_enc hm, hr, m.enc_len]
  simp
theorem heldM_same (m : Mt) (hm : m.Ok) (hr : m.right = true) : heldM m.enc (m.tx % 2) = m := by
  unfold heldM
  rw [m.of_enc hm, m.back hm hr]
  simp
theorem isMt_right (s : List UInt8) (h : isMt s = true) : (Mt.of s).right = true ∧ (Mt.of s).enc = s := by
  simp only [isMt, Bool.and_eq_true, decide_eq_true_eq] at h
  exact ⟨h.1.2, h.2⟩

/-- What a store leaves, and tells. -/
def stoD (D : Dk) (m : Mt) : Dk := if m.right then D.wr (secM m.tx : Nat) m.enc else D
def stoC (D : Dk) (m : Mt) : Int := if m.right then D.wrc (secM m.tx : Nat) m.enc else 40
theorem stoC_big (D : Dk) (h : 4 < D.kept.length) (m : Mt) : stoC D m = if m.right then 0 else 40 := by
  unfold stoC Dk.wrc
  have := secM_lt m.tx
  rw [if_pos (show (0 : Int) ≤ ((secM m.tx : Nat) : Int) ∧ ((secM m.tx : Nat) : Int) < (D.kept.length : Int) by omega), if_pos (show m.enc.length ≤ 64 by rw [m.enc_len]; exact Nat.le_refl _)]
theorem stoD_kept (D : Dk) (m : Mt) : (stoD D m).kept = D.kept := by
  unfold stoD; split
  · exact wr_keeps _ _ _
  · rfl
theorem stoD_few (D : Dk) (m : Mt) : (stoD D m).uns.length ≤ D.uns.length + 1 ∧ (stoD D m).ops ≤ D.ops + 1 := by
  unfold stoD; split
  · exact wr_few _ _ _
  · omega
theorem pad_full (s : List UInt8) (h : s.length = 64) : pad s = s := by simp [pad, h]
/-- A sector behind a store. -/
theorem stoD_seen (D : Dk) (hs : D.seen.length = D.kept.length) (h : 4 < D.kept.length) (m : Mt) (hr : m.right = true) (k : Nat) (hk : k < 2) : (stoD D m).seen.getD (k * 4) [] = if m.tx % 2 = k then m.enc else D.seen.getD (k * 4) [] := by
  have hl := secM_lt m.tx
  unfold stoD Dk.wr
  rw [if_pos hr, if_pos (show (0 : Int) ≤ ((secM m.tx : Nat) : Int) ∧ ((secM m.tx : Nat) : Int) < (D.kept.length : Int) ∧ m.enc.length ≤ 64 by rw [m.enc_len]; omega)]
  show ((D.seen.set (((secM m.tx : Nat) : Int)).toNat (pad m.enc)).getD (k * 4) []) = _
  rw [Int.toNat_natCast, pad_full _ m.enc_len]
  unfold secM at *
  by_cases e : m.tx % 2 = k
  · subst e
    rw [if_pos rfl]
    simp only [List.getD]
    rw [List.getElem?_set_self (by omega)]
    rfl
  · rw [if_neg e]
    simp only [List.getD]
    rw [List.getElem?_set_ne (by omega)]

/-- A disk that the law itself has made. -/
def MyD (w : World) (d kb sb : Nat) (D : Dk) (A : World) : Prop := ∃ v, DiskAt A d kb sb v D ∧ From w.heap.size d kb sb v ∧ Below w.heap.size w A
section
variable {w A A' : World} {d kb sb : Nat} {D : Dk}
theorem MyD.in (h : MyD w d kb sb D A) : Below w.heap.size w A := h.choose_spec.2.2
theorem MyD.ok (h : MyD w d kb sb D A) : D.Ok := h.choose_spec.1.ok
theorem MyD.new {n : Nat} {e : Ending} (hb : Below w.heap.size w A) (h : NewPost A n e A') : ∃ d kb sb, e = .returned (.tuple #[.pointer (some ⟨d, 0, none⟩), .int .i64 0]) ∧ MyD w d kb sb (Dk.new n) A' ∧ Below A.heap.size A A' := by
  obtain ⟨d, kb, sb, he, hD, hb2, h1, h2, h3⟩ := h
  have := hb.size
  exact ⟨d, kb, sb, he, ⟨_, hD, From.new (by omega) (by omega) (by omega), hb.trans (hb2.mono hb.size)⟩, hb2⟩
theorem MyD.below (h : MyD w d kb sb D A) (hb : Below A.heap.size A A') : MyD w d kb sb D A' := by
  obtain ⟨v, hD, hF, hB⟩ := h
  exact ⟨v, hD.kept' (Turned.new hb : Turned (fun _ => False) A A') (fun _ => False.elim), hF, hB.trans (hb.mono hB.size)⟩
/-- What else the law has made, from B0 on below the disk's blocks, or elsewhere. -/
theorem MyD.turned {F : Nat → Prop} (h : MyD w d kb sb D A) (ht : Turned F A A') (h1 : ∀ k, F k → w.heap.size ≤ k) (h2 : ∀ v, DiskAt A d kb sb v D → ∀ k, F k → ¬ Foot d kb sb v k) : MyD w d kb sb D A' := by
  obtain ⟨v, hD, hF, hB⟩ := h
  exact ⟨v, hD.kept' ht (h2 v hD), hF, hB.trans (ht.toBelow hB.size (fun k _ hk => h1 k hk))⟩
theorem MyD.post {e : Ending} {r : Value} {D' : Dk} {v : Value} (hF : From w.heap.size d kb sb v) (hB : Below w.heap.size w A) (h : DiskPost A d kb sb v D' r e A') : e = .returned r ∧ MyD w d kb sb D' A' := by
  obtain ⟨he, v', hD', hT, hv⟩ := h
  exact ⟨he, v', hD', hF.next hB.size hv, hF.below hB (Nat.le_refl _) hT⟩
end
end Go.Proofs.Ytapmppiiphbcpaa

/- The laws' own helper: shown. -/
namespace Go.Proofs.Ytapmppiiphbcpaa
open Go Go.RowKit Sm
attribute [local go_sem] Oper.semAt_some

def exM1 : Mt := ⟨1, 0, 2, 0⟩
def exM2 : Mt := ⟨2, 2, 3, 0⟩
theorem zero_held (k : Nat) : heldM zero64 k = Mt.zero := by
  have : isMt zero64 = false := by decide +kernel
  unfold heldM
  rw [this]
  rfl
theorem lastM_new (n : Nat) (h : 4 < n) : lastM (Dk.new n) 2 = Mt.zero := by
  have e : ∀ k, k < 2 → (Dk.new n).seen.getD (k * 4) [] = zero64 := fun k hk => by
    simp only [Dk.new, List.getD]
    rw [List.getElem?_replicate, if_pos (by omega)]
    rfl
  show betterM (betterM Mt.zero (heldM ((Dk.new n).seen.getD (0 * 4) []) 0)) (heldM ((Dk.new n).seen.getD (1 * 4) []) 1) = _
  rw [e 0 (by decide), e 1 (by decide), zero_held, zero_held]
  rfl
theorem lastM_two (D : Dk) : lastM D 2 = betterM (betterM Mt.zero (heldM (D.seen.getD (0 * 4) []) 0)) (heldM (D.seen.getD (1 * 4) []) 1) := rfl
theorem loadMV_zero (D : Dk) (h : 4 < D.kept.length) (h0 : lastM D 2 = Mt.zero) : loadMV D = .tuple #[.agg #[.int .u64 0, .int .u32 0, .int .u32 0, .int .u32 0], .int .i64 40] := by
  rw [loadMV, if_pos h, h0, if_pos (by rfl)]; rfl
theorem loadMV_some (D : Dk) (h : 4 < D.kept.length) (h1 : 1 ≤ (lastM D 2).tx) : loadMV D = .tuple #[(lastM D 2).v, .int .i64 0] := by
  rw [loadMV, if_pos h, if_neg (by omega)]
theorem new_len (n : Nat) : (Dk.new n).kept.length = n := by simp [Dk.new]

theorem ex_last : lastM (stoD (stoD (Dk.new 8) exM1) exM2) 2 = exM2 := by
  have o1 : exM1.Ok := ⟨by decide, by decide, by decide, by decide⟩
  have o2 : exM2.Ok := ⟨by decide, by decide, by decide, by decide⟩
  have r1 : exM1.right = true := by decide
  have r2 : exM2.right = true := by decide
  have k1 : (stoD (Dk.new 8) exM1).kept.length = 8 := by rw [stoD_kept, new_len]
  have s0 : (stoD (Dk.new 8) exM1).seen.length = (stoD (Dk.new 8) exM1).kept.length := by
    unfold stoD Dk.wr
    rw [if_pos r1]
    split
    · simp [Dk.write, Dk.new]
    · simp [Dk.new]
  rw [lastM_two, stoD_seen _ s0 (by rw [k1]; decide) exM2 r2 0 (by decide), stoD_seen _ s0 (by rw [k1]; decide) exM2 r2 1 (by decide), if_pos (by decide), if_neg (by decide), stoD_seen _ (by simp [Dk.new]) (by simp [Dk.new]) exM1 r1 1 (by decide), if_pos (by decide)]
  have h2 : heldM exM2.enc 0 = exM2 := heldM_same exM2 o2 r2
  have h1 : heldM exM1.enc 1 = exM1 := heldM_same exM1 o1 r1
  rw [h1, h2]
  rfl

/-- A meta as it comes in. -/
theorem mt_of (x y z u : Int) (hx : (Lit.int IntKind.u64 x).wf = true) (hy : (Lit.int IntKind.u32 y).wf = true) (hz : (Lit.int IntKind.u32 z).wf = true) (hu : (Lit.int IntKind.u32 u).wf = true) : Value.agg #[.int .u64 x, .int .u32 y, .int .u32 z, .int .u32 u] = (⟨x.toNat, y.toNat, z.toNat, u.toNat⟩ : Mt).v := by
  have h0 := (Lit.wf_int_iff .u64 x).1 hx
  have h1 := (Lit.wf_int_iff .u32 y).1 hy
  have h2 := (Lit.wf_int_iff .u32 z).1 hz
  have h3 := (Lit.wf_int_iff .u32 u).1 hu
  simp [IntKind.min, IntKind.signed, IntKind.max, IntKind.bits] at h0 h1 h2 h3
  simp only [Mt.v]
  rw [show ((x.toNat : Nat) : Int) = x by omega, show ((y.toNat : Nat) : Int) = y by omega, show ((z.toNat : Nat) : Int) = z by omega, show ((u.toNat : Nat) : Int) = u by omega]
theorem mt_ok (x y z u : Int) (hx : (Lit.int IntKind.u64 x).wf = true) (hy : (Lit.int IntKind.u32 y).wf = true) (hz : (Lit.int IntKind.u32 z).wf = true) (hu : (Lit.int IntKind.u32 u).wf = true) : (⟨x.toNat, y.toNat, z.toNat, u.toNat⟩ : Mt).Ok := by
  have h0 := (Lit.wf_int_iff .u64 x).1 hx
  have h1 := (Lit.wf_int_iff .u32 y).1 hy
  have h2 := (Lit.wf_int_iff .u32 z).1 hz
  have h3 := (Lit.wf_int_iff .u32 u).1 hu
  simp [IntKind.min, IntKind.signed, IntKind.max, IntKind.bits] at h0 h1 h2 h3
  refine ⟨?_, ?_, ?_, ?_⟩ <;> simp only <;> omega
end Go.Proofs.Ytapmppiiphbcpaa

/- The law that what is stored with the next Tx is loaded: MetaTurns. -/
namespace Go.Proofs.Ytapmppiiphbcpaa
open Go Go.RowKit Sm
attribute [local go_sem] Oper.semAt_some

/-- A slice of them in memory. -/
def Metas (w : World) (p : Option Addr) (l : List Mt) : Prop :=
  l ≠ [] → ∃ b off, p = some ⟨b, off, none⟩ ∧ ∀ i x, l[i]? = some x → x.Ok ∧ w.cell? ⟨b, off + i * 4, none⟩ = some (.int .u64 x.tx) ∧ w.cell? ⟨b, off + i * 4 + 1, none⟩ = some (.int .u32 x.root) ∧ w.cell? ⟨b, off + i * 4 + 2, none⟩ = some (.int .u32 x.high) ∧ w.cell? ⟨b, off + i * 4 + 3, none⟩ = some (.int .u32 x.free)

/-- That one, with another Tx. -/
def Mt.at (m : Mt) (tx : Nat) : Mt := ⟨tx, m.root, m.high, m.free⟩
theorem Mt.at_ok (m : Mt) (h : m.Ok) (tx : Nat) (ht : tx < 18446744073709551616) : (m.at tx).Ok := ⟨ht, h.root, h.high, h.free⟩

/-- What stands in both sectors is older. -/
def SlotsLt (D : Dk) (T : Nat) : Prop := ∀ j, j < 2 → (heldM (D.seen.getD (j * 4) []) j).tx < T
theorem slots_new (n : Nat) (h : 4 < n) (T : Nat) (hT : 1 ≤ T) : SlotsLt (Dk.new n) T := fun j hj => by
  have e : (Dk.new n).seen.getD (j * 4) [] = zero64 := by
    simp only [Dk.new, List.getD]
    rw [List.getElem?_replicate, if_pos (by omega)]
    rfl
  rw [e, zero_held]
  exact hT
theorem turn_load (D : Dk) (hs : D.seen.length = D.kept.length) (h : 4 < D.kept.length) (m : Mt) (hm : m.Ok) (hr : m.right = true) (hl : SlotsLt D m.tx) : lastM (stoD D m) 2 = m ∧ SlotsLt (stoD D m) (m.tx + 1) := by
  have h1 : 1 ≤ m.tx := ((Mt.right_iff _).1 hr).1
  have s0 := stoD_seen D hs h m hr 0 (by decide)
  have s1 := stoD_seen D hs h m hr 1 (by decide)
  have hh := heldM_same m hm hr
  have l0 := hl 0 (by decide)
  have l1 := hl 1 (by decide)
  have hz : Mt.zero.tx = 0 := rfl
  have hp : m.tx % 2 = 0 ∨ m.tx % 2 = 1 := by omega
  rcases hp with hp | hp
  · rw [hp] at s0 s1 hh
    rw [if_pos rfl] at s0
    rw [if_neg (by decide)] at s1
    constructor
    · rw [lastM_two, s0, s1, hh]
      unfold betterM
      rw [if_pos (show Mt.zero.tx < m.tx by rw [hz]; omega), if_neg (by omega)]
    · intro j hj
      have : j = 0 ∨ j = 1 := by omega
      rcases this with rfl | rfl
      · rw [s0, hh]; omega
      · rw [s1]; omega
  · rw [hp] at s0 s1 hh
    rw [if_neg (by decide)] at s0
    rw [if_pos rfl] at s1
    constructor
    · rw [lastM_two, s0, s1, hh]
      unfold betterM
      by_cases hx : Mt.zero.tx < (heldM (D.seen.getD (0 * 4) []) 0).tx
      · rw [if_pos hx, if_pos (by omega)]
      · rw [if_neg hx, if_pos (by omega)]
    · intro j hj
      have : j = 0 ∨ j = 1 := by omega
      rcases this with rfl | rfl
      · rw [s0]; omega
      · rw [s1, hh]; omega

def TurnI (w : World) (d kb sb k T : Nat) (A : World) : Prop := ∃ D, MyD w d kb sb D A ∧ D.kept.length = 5 ∧ D.uns.length ≤ k ∧ D.ops ≤ k ∧ SlotsLt D T

end Go.Proofs.Ytapmppiiphbcpaa

/- A torn store: reckoning; blocks that the law guards beside its disk. -/
namespace Go.Proofs.Ytapmppiiphbcpaa
open Go Go.RowKit Sm

theorem enc_ends (m : Mt) : m.enc.take 8 = putB m.tx 8 ∧ m.enc.drop 56 = putB m.tx 8 := by
  constructor
  · rw [m.enc_form]; exact List.take_left' (by simp)
  · unfold Mt.enc; exact List.drop_left' (by simp)
/-- A torn text whose ends are the same is one of both. -/
theorem torn_is (E old a b : List UInt8) (n : Nat) (hE : E.length = 64) (_ : old.length = 64) (hE1 : E.take 8 = a) (hE2 : E.drop 56 = a) (ho1 : old.take 8 = b) (ho2 : old.drop 56 = b) (hab : a ≠ b) (hn : n ≤ 64)
    (hm : (E.take n ++ old.drop n).take 8 = (E.take n ++ old.drop n).drop 56) : E.take n ++ old.drop n = E ∨ E.take n ++ old.drop n = old := by
  have hl : (E.take n).length = n := by rw [List.length_take]; omega
  by_cases h56 : n ≤ 56
  · have hd : (E.take n ++ old.drop n).drop 56 = b := by
      rw [List.drop_append, List.drop_of_length_le (by omega), List.nil_append, hl, List.drop_drop, ← ho2]
      congr 1
      omega
    by_cases h8 : 8 ≤ n
    · have ht : (E.take n ++ old.drop n).take 8 = a := by
        rw [List.take_append_of_le_length (by omega), List.take_take, Nat.min_eq_left h8, hE1]
      rw [ht, hd] at hm
      exact absurd hm hab
    · right
      rw [hd, ← ho1] at hm
      have h2 := congrArg (List.take n) hm
      rw [List.take_take, Nat.min_eq_left (by omega), List.take_take, Nat.min_eq_left (by omega), List.take_append_of_le_length (by omega), List.take_take, Nat.min_self] at h2
      rw [h2, List.take_append_drop]
  · left
    have ht : (E.take n ++ old.drop n).take 8 = a := by
      rw [List.take_append_of_le_length (by omega), List.take_take, Nat.min_eq_left (by omega), hE1]
    have h5 : (E.take n ++ old.drop n).take 56 = E.take 56 := by
      rw [List.take_append_of_le_length (by omega), List.take_take, Nat.min_eq_left (by omega)]
    rw [ht, ← hE2] at hm
    rw [← List.take_append_drop 56 (E.take n ++ old.drop n), h5, ← hm, List.take_append_drop]

/-- What stands in the sector of a turn: nothing, or a meta of that turn. -/
def SlotOk (s : List UInt8) (j T : Nat) : Prop := s = zero64 ∨ ∃ m : Mt, m.Ok ∧ m.right = true ∧ s = m.enc ∧ m.tx < T ∧ m.tx % 2 = j
theorem SlotOk.len {s : List UInt8} {j T : Nat} (h : SlotOk s j T) : s.length = 64 := by
  rcases h with rfl | ⟨m, -, -, rfl, -⟩
  · rfl
  · exact m.enc_len
theorem SlotOk.held {s : List UInt8} {j T : Nat} (h : SlotOk s j T) (hT : 1 ≤ T) : (heldM s j).tx < T := by
  rcases h with rfl | ⟨m, hm, hr, rfl, hl, rfl⟩
  · rw [zero_held]; exact hT
  · rw [heldM_same m hm hr]; exact hl
/-- What is held of a torn store. -/
theorem torn_held (m : Mt) (hm : m.Ok) (hr : m.right = true) (old : List UInt8) (ho : SlotOk old (m.tx % 2) m.tx) (n : Nat) (hn : n ≤ 64) :
    (heldM (m.enc.take n ++ old.drop n) (m.tx % 2) = m ∧ n ≠ 0) ∨ ((heldM (m.enc.take n ++ old.drop n) (m.tx % 2) = Mt.zero ∨ heldM (m.enc.take n ++ old.drop n) (m.tx % 2) = heldM old (m.tx % 2)) ∧ n ≠ 64) := by
  have h1 : 1 ≤ m.tx := ((Mt.right_iff _).1 hr).1
  have hol := ho.len
  have hne : heldM old (m.tx % 2) ≠ m := fun e => by
    have := ho.held h1
    rw [e] at this
    omega
  obtain ⟨e1, e2⟩ := enc_ends m
  obtain ⟨b, o1, o2, hab⟩ : ∃ b, old.take 8 = b ∧ old.drop 56 = b ∧ putB m.tx 8 ≠ b := by
    have inj : ∀ a b : Nat, a < 18446744073709551616 → b < 18446744073709551616 → putB a 8 = putB b 8 → a = b := fun a b ha hb h => by
      have p8 : (256 : Nat) ^ 8 = 18446744073709551616 := rfl
      rw [← getB_putB a 8 (by decide) (by rw [p8]; exact ha), h, getB_putB b 8 (by decide) (by rw [p8]; exact hb)]
    rcases ho with rfl | ⟨m0, hm0, hr0, rfl, hl, -⟩
    · refine ⟨putB 0 8, by decide +kernel, by decide +kernel, fun h => ?_⟩
      have := inj _ _ hm.tx (by decide) h
      omega
    · obtain ⟨q1, q2⟩ := enc_ends m0
      refine ⟨_, q1, q2, fun h => ?_⟩
      have := inj _ _ hm.tx hm0.tx h
      omega
  by_cases hi : isMt (m.enc.take n ++ old.drop n) = true
  · have hends : (m.enc.take n ++ old.drop n).take 8 = (m.enc.take n ++ old.drop n).drop 56 := by
      have := enc_ends (Mt.of (m.enc.take n ++ old.drop n))
      rw [(isMt_right _ hi).2] at this
      rw [this.1, this.2]
    rcases torn_is m.enc old _ b n m.enc_len hol e1 e2 o1 o2 hab hn hends with h | h
    · left
      rw [h, heldM_same m hm hr]
      refine ⟨rfl, fun h0 => ?_⟩
      subst h0
      rw [List.take_zero, List.nil_append, List.drop_zero] at h
      rw [h] at hne
      exact hne (heldM_same m hm hr)
    · right
      rw [h]
      refine ⟨.inr rfl, fun h0 => ?_⟩
      subst h0
      rw [List.take_of_length_le (by rw [m.enc_len]; exact Nat.le_refl _), List.drop_of_length_le (by omega), List.append_nil] at h
      rw [← h] at hne
      exact hne (heldM_same m hm hr)
  · right
    refine ⟨.inl ?_, fun h0 => ?_⟩
    · unfold heldM
      rw [Bool.not_eq_true] at hi
      rw [hi]
      rfl
    · subst h0
      rw [List.take_of_length_le (by rw [m.enc_len]; exact Nat.le_refl _), List.drop_of_length_le (by omega), List.append_nil, m.back hm hr] at hi
      exact hi rfl

/-- The disk of the law: the last meta that was stored, of Tx T - 1, or none. -/
structure SlotsIs (D : Dk) (T : Nat) (last : Mt) : Prop where
  ok : ∀ j, j < 2 → SlotOk (D.seen.getD (j * 4) []) j T
  last : last = Mt.zero ∨ (last.Ok ∧ last.right = true ∧ last.tx + 1 = T ∧ D.seen.getD (last.tx % 2 * 4) [] = last.enc)
theorem slotsIs_new (n : Nat) (h : 4 < n) (T : Nat) : SlotsIs (Dk.new n) T Mt.zero :=
  ⟨fun j hj => .inl (by
    simp only [Dk.new, List.getD]
    rw [List.getElem?_replicate, if_pos (by omega)]
    rfl), .inl rfl⟩
theorem SlotsIs.store {D : Dk} {T : Nat} {last : Mt} (h : SlotsIs D T last) (hs : D.seen.length = D.kept.length) (hk : 4 < D.kept.length) (m : Mt) (hm : m.Ok) (hr : m.right = true) (ht : m.tx = T) : SlotsIs (stoD D m) (T + 1) m := by
  refine ⟨fun j hj => ?_, .inr ⟨hm, hr, by omega, ?_⟩⟩
  · rw [stoD_seen D hs hk m hr j hj]
    by_cases e : m.tx % 2 = j
    · rw [if_pos e]
      exact .inr ⟨m, hm, hr, rfl, by omega, e⟩
    · rw [if_neg e]
      rcases h.ok j hj with h0 | ⟨m0, a, b, c, d, f⟩
      · exact .inl h0
      · exact .inr ⟨m0, a, b, c, by omega, f⟩
  · rw [stoD_seen D hs hk m hr (m.tx % 2) (Nat.mod_lt _ (by decide)), if_pos rfl]

/-- Of a torn store the one ahead is loaded, or this one. -/
theorem torn_last {D C : Dk} {T : Nat} {last : Mt} (h : SlotsIs D T last) (hl : last ≠ Mt.zero) (hs : 4 < D.seen.length) (m : Mt) (hm : m.Ok) (hr : m.right = true) (ht : m.tx = T) (n : Nat) (hn : n ≤ 64)
    (hC : C.seen = D.seen.set (secM T) (m.enc.take n ++ (D.seen.getD (secM T) []).drop n)) : (lastM C 2 = last ∧ n ≠ 64) ∨ (lastM C 2 = m ∧ n ≠ 0) := by
  rcases h.last with h0 | ⟨lo, lr, lt, ls⟩
  · exact absurd h0 hl
  subst ht
  have hT1 : 1 ≤ last.tx := ((Mt.right_iff _).1 lr).1
  have hold := h.ok (m.tx % 2) (Nat.mod_lt _ (by decide))
  have hsl : last.tx % 2 = 1 - m.tx % 2 := by omega
  have hother : C.seen.getD ((1 - m.tx % 2) * 4) [] = last.enc := by
    rw [hC, ← hsl, ← ls]
    simp only [List.getD]
    rw [List.getElem?_set_ne (by unfold secM; omega)]
  have hthis : C.seen.getD (m.tx % 2 * 4) [] = m.enc.take n ++ (D.seen.getD (m.tx % 2 * 4) []).drop n := by
    rw [hC]
    simp only [List.getD]
    unfold secM
    rw [List.getElem?_set_self (by omega)]
    rfl
  have hlh : heldM last.enc (1 - m.tx % 2) = last := by rw [← hsl]; exact heldM_same last lo lr
  have htorn := torn_held m hm hr (D.seen.getD (m.tx % 2 * 4) []) hold n hn
  have hless : (heldM (D.seen.getD (m.tx % 2 * 4) []) (m.tx % 2)).tx < last.tx := by
    rcases hold with h0 | ⟨m0, a, b, c, d, f⟩
    · rw [h0, zero_held]; exact hT1
    · rw [c, ← f, heldM_same m0 a b]; omega
  have key : ∀ x : Mt, heldM (m.enc.take n ++ (D.seen.getD (m.tx % 2 * 4) []).drop n) (m.tx % 2) = x → (x.tx < last.tx → lastM C 2 = last) ∧ (x = m → lastM C 2 = m) := by
    intro x hx
    have hz : Mt.zero.tx = 0 := rfl
    have hp : m.tx % 2 = 0 ∨ m.tx % 2 = 1 := by omega
    rw [lastM_two]
    rcases hp with hp | hp
    · rw [hp] at hthis hother hlh hx
      rw [hthis, show C.seen.getD (1 * 4) [] = last.enc from hother, hx, show heldM last.enc 1 = last from hlh]
      unfold betterM
      constructor
      · intro hlt
        by_cases hx0 : Mt.zero.tx < x.tx
        · rw [if_pos hx0, if_pos hlt]
        · rw [if_neg hx0, if_pos (by rw [hz]; omega)]
      · intro hxm
        rw [hxm, if_pos (show Mt.zero.tx < m.tx by rw [hz]; omega), if_neg (by omega)]
    · rw [hp] at hthis hother hlh hx
      rw [hthis, show C.seen.getD (0 * 4) [] = last.enc from hother, hx, show heldM last.enc 0 = last from hlh]
      unfold betterM
      rw [if_pos (show Mt.zero.tx < last.tx by rw [hz]; omega)]
      constructor
      · intro hlt
        rw [if_neg (by omega)]
      · intro hxm
        rw [hxm, if_pos (by omega)]
  rcases htorn with ⟨h1, h2⟩ | ⟨h1 | h1, h2⟩
  · exact .inr ⟨(key _ h1).2 rfl, h2⟩
  · exact .inl ⟨(key _ h1).1 (show 0 < last.tx by omega), h2⟩
  · exact .inl ⟨(key _ h1).1 hless, h2⟩

/-! ### Blocks that the law guards -/
def MyP (w : World) (d kb sb : Nat) (P : Nat → Prop) (D : Dk) (A : World) : Prop := ∃ v, DiskAt A d kb sb v D ∧ From w.heap.size d kb sb v ∧ Below w.heap.size w A ∧ ∀ k, P k → k < A.heap.size ∧ ¬ Foot d kb sb v k
section
variable {w A A' : World} {d kb sb : Nat} {D : Dk} {P : Nat → Prop}
theorem MyP.my (h : MyP w d kb sb P D A) : MyD w d kb sb D A := by obtain ⟨v, h1, h2, h3, -⟩ := h; exact ⟨v, h1, h2, h3⟩
theorem MyD.guard (h : MyD w d kb sb D A) : MyP w d kb sb (fun _ => False) D A := by obtain ⟨v, h1, h2, h3⟩ := h; exact ⟨v, h1, h2, h3, fun _ h => h.elim⟩
theorem MyP.in (h : MyP w d kb sb P D A) : Below w.heap.size w A := h.my.in
theorem MyP.less {Q : Nat → Prop} (h : MyP w d kb sb P D A) (hQ : ∀ k, Q k → P k) : MyP w d kb sb Q D A := by obtain ⟨v, h1, h2, h3, h4⟩ := h; exact ⟨v, h1, h2, h3, fun k hk => h4 k (hQ k hk)⟩
theorem MyP.below (h : MyP w d kb sb P D A) (hb : Below A.heap.size A A') : MyP w d kb sb P D A' := by
  obtain ⟨v, hD, hF, hB, hP⟩ := h
  exact ⟨v, hD.kept' (Turned.new hb : Turned (fun _ => False) A A') (fun _ => False.elim), hF, hB.trans (hb.mono hB.size), fun k hk => ⟨Nat.lt_of_lt_of_le (hP k hk).1 hb.size, (hP k hk).2⟩⟩
/-- A new block is guarded, too. -/
theorem MyP.add (h : MyP w d kb sb P D A) (o : Obj) : MyP w d kb sb (fun k => P k ∨ k = A.heap.size) D (A.alloc o) := by
  obtain ⟨v, hD, hF, hB, hP⟩ := h
  refine ⟨v, hD.kept' ((Turned.refl (fun _ => False) A).alloc o) (fun _ => False.elim), hF, below_al hB o, ?_⟩
  rintro k (hk | rfl)
  · exact ⟨by rw [World.size_alloc]; have := (hP k hk).1; omega, (hP k hk).2⟩
  · exact ⟨by rw [World.size_alloc]; omega, fun hf => by have := hD.flt hf; omega⟩
/-- A guarded block is turned. -/
theorem MyP.turned {F : Nat → Prop} (h : MyP w d kb sb P D A) (ht : Turned F A A') (hF : ∀ k, F k → P k ∧ w.heap.size ≤ k) : MyP w d kb sb P D A' := by
  obtain ⟨v, hD, hFr, hB, hP⟩ := h
  exact ⟨v, hD.kept' ht (fun k hk => (hP k (hF k hk).1).2), hFr, hB.trans (ht.toBelow hB.size (fun k _ hk => (hF k hk).2)), fun k hk => ⟨Nat.lt_of_lt_of_le (hP k hk).1 ht.size, (hP k hk).2⟩⟩
theorem MyP.post {e : Ending} {r : Value} {D' : Dk} {v : Value} (_ : DiskAt A d kb sb v D) (hF : From w.heap.size d kb sb v) (hB : Below w.heap.size w A) (hP : ∀ k, P k → k < A.heap.size ∧ ¬ Foot d kb sb v k) (h : DiskPost A d kb sb v D' r e A') :
    e = .returned r ∧ MyP w d kb sb P D' A' ∧ ∀ k, P k → A'.heap[k]? = A.heap[k]? := by
  obtain ⟨he, v', hD', hT, hv⟩ := h
  refine ⟨he, ⟨v', hD', hF.next hB.size hv, hF.below hB (Nat.le_refl _) hT, fun k hk => ⟨Nat.lt_of_lt_of_le (hP k hk).1 hT.size, ?_⟩⟩, fun k hk => hT.block k (hP k hk).1 (hP k hk).2⟩
  rintro (hf | hf | hf | hf)
  · exact (hP k hk).2 (.inl hf)
  · exact (hP k hk).2 (.inr (.inl hf))
  · exact (hP k hk).2 (.inr (.inr (.inl hf)))
  · rcases hv with e | e
    · exact (hP k hk).2 (.inr (.inr (.inr (by rw [← e]; exact hf))))
    · have := e k hf; have := (hP k hk).1; omega
theorem msync_p (h : MyP w d kb sb P D A) (ho : D.ops < 1000000000000000) :
    Calls Try.prog 44 #[.pointer (some ⟨d, 0, none⟩)] A fun e w' => e = .returned (.int .i64 0) ∧ MyP w d kb sb P D.sync w' ∧ ∀ k, P k → w'.heap[k]? = A.heap[k]? := by
  obtain ⟨v, hD, hF, hB, hP⟩ := h
  exact (sync_any hD ho).mono fun e w' hp => MyP.post hD hF hB hP hp
/-- A crash with one number, in a list just made. -/
theorem mcrash_p (h : MyP w d kb sb P D A) (n : Int) (hu : D.uns.length = 1) :
    (0 ≤ n → n ≤ 64 → Calls Try.prog 45 #[.pointer (some ⟨d, 0, none⟩), .slice (some ⟨A.heap.size, 0, none⟩) 1 1] (A.alloc (.cells #[.int .i64 n] 3)) fun e w' => e = .returned (.int .i64 0) ∧ MyP w d kb sb P (D.crash [n]) w' ∧ ∀ k, P k → w'.heap[k]? = A.heap[k]?)
    ∧ ((n < 0 ∨ 64 < n) → Calls Try.prog 45 #[.pointer (some ⟨d, 0, none⟩), .slice (some ⟨A.heap.size, 0, none⟩) 1 1] (A.alloc (.cells #[.int .i64 n] 3)) fun e w' => e = .returned (.int .i64 2) ∧ Below w.heap.size w w') := by
  have h2 := h.add (.cells #[.int .i64 n] 3)
  obtain ⟨v, hD, hF, hB, hP⟩ := h
  have hB2 : Below w.heap.size w (A.alloc (.cells #[.int .i64 n] 3)) := below_al hB _
  have hD2 : DiskAt (A.alloc (.cells #[.int .i64 n] 3)) d kb sb v D := hD.kept' ((Turned.refl (fun _ => False) A).alloc _) (fun _ => False.elim)
  have hz : Ints (A.alloc (.cells #[.int .i64 n] 3)) (some ⟨A.heap.size, 0, none⟩) [n] := fun _ => ⟨A.heap.size, 0, rfl, fun i hi => by
    have : i = 0 := by simp at hi; omega
    subst this; simp [go_sem]⟩
  have hap : Apart (A.alloc (.cells #[.int .i64 n] 3)) d kb sb v (some ⟨A.heap.size, 0, none⟩) := fun b off e => by
    simp only [Option.some.injEq, Addr.mk.injEq] at e
    obtain ⟨rfl, -⟩ := e
    exact ⟨by simp, fun hf => by have := hD.flt hf; omega⟩
  constructor
  · intro h0 h64
    refine (crash_any hD2 (some ⟨A.heap.size, 0, none⟩) [n] 1 (by simp; omega) hz hap (by rw [allIn_one]; simp [h0, h64])).mono fun e w' hp => ?_
    obtain ⟨he, hM, hk⟩ := MyP.post (P := P) hD2 hF hB2 (fun k hk => ⟨by rw [World.size_alloc]; have := (hP k hk).1; omega, (hP k hk).2⟩) hp
    exact ⟨he, hM, fun k hk2 => (hk k hk2).trans (Below.heap_alloc _ _ _ (hP k hk2).1)⟩
  · intro h0
    refine (crash_wrong hD2 (some ⟨A.heap.size, 0, none⟩) [n] 1 (by simp; omega) hz hap (by rw [allIn_one]; simp; omega)).mono fun e w' ⟨he, hb⟩ => ⟨he, hB2.trans (hb.mono hB2.size)⟩
end
end Go.Proofs.Ytapmppiiphbcpaa
