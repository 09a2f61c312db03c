/- DiskAll: a crash that keeps all is a sync; one that keeps nothing undoes what is unsynced. -/
import Derived.Test.YtlpgffoeohcegaaDS
import Derived.Deep.RegionHeld3
import Derived.Deep.DrawnRows
import Derived.Deep.AppendLies
namespace Go.Proofs.Ytlpgffoeohcegaa
open Go.RowKit
attribute [local go_sem ↓] Go.wp_at_zero Go.wp_at_succ

def nilA : A := ⟨0, 0, ⟨#[]⟩, none, 0, 0⟩
def secOf (l : List A) (k : Nat) : Int := (l.getD k nilA).sec
def txtOf (l : List A) (k : Nat) : List UInt8 := (l.getD k nilA).s.data.toList.take 70

theorem step_wr {w w1 W : World} {x y z : Dp} {D E F : Dk} (h : At3 w.heap.size w1 x y z D E F) (hB : Below w.heap.size w w1) (ht : Turned (fun _ => False) w1 W) (i : Int) (s : List UInt8) (hu : D.uns.length < 1000000000000) (ho : D.ops < 1000000000000000) :
    Calls Try.prog 19 #[.pointer (some ⟨x.d, 0, none⟩), .int .i64 i, .string ⟨s.toArray⟩] W fun e w' => (∃ r, e = .returned (.int .i64 r)) ∧ At3 w.heap.size w' x y z (D.wr i s) E F ∧ Below w.heap.size w w' := by
  have hB' : Below w.heap.size w W := hB.trans (ht.toBelow hB.size fun _ _ => False.elim)
  exact (wr3 (h.still ht) hB'.size i s hu ho).mono fun e w' ⟨he, h1, h2⟩ => ⟨⟨_, he⟩, h1, hB'.trans h2⟩
theorem step_sync {w w1 : World} {x y z : Dp} {D E F : Dk} (h : At3 w.heap.size w1 x y z D E F) (hB : Below w.heap.size w w1) (ho : D.ops < 1000000000000000) :
    Calls Try.prog 20 #[.pointer (some ⟨x.d, 0, none⟩)] w1 fun e w' => e = .returned (.int .i64 0) ∧ At3 w.heap.size w' x y z D.sync E F ∧ Below w.heap.size w w' :=
  (sync3 h hB.size ho).mono fun e w' ⟨he, h1, h2⟩ => ⟨he, h1, hB.trans h2⟩

section
variable {B : Nat} {w : World} {x y z : Dp} {sec : Nat → Int} {s : Nat → List UInt8} {n i : Int} {t : List UInt8} {k : Nat}
theorem next_lt (h : At3 B w x y z ((aD sec s n k).wr i t) ((aD sec s n k).wr i t) ((cD sec s n k).wr i t)) (hn : (k : Int) < n) (hi : sec k = i) (ht : s k = t) : At3 B w x y z (aD sec s n (k + 1)) (aD sec s n (k + 1)) (cD sec s n (k + 1)) := by
  subst hi ht
  have e : (k : Int) ≠ n := by omega
  simp only [aD, cD, e, hn, if_true, if_false]
  exact h
theorem next_gt (h : At3 B w x y z ((aD sec s n k).wr i t) ((aD sec s n k).wr i t) (cD sec s n k)) (hn : n < (k : Int)) (hi : sec k = i) (ht : s k = t) : At3 B w x y z (aD sec s n (k + 1)) (aD sec s n (k + 1)) (cD sec s n (k + 1)) := by
  subst hi ht
  have e : (k : Int) ≠ n := by omega
  have e2 : ¬ (k : Int) < n := by omega
  simp only [aD, cD, e, e2, if_false]
  exact h
theorem next_eq (h : At3 B w x y z ((aD sec s n k).sync.wr i t) ((aD sec s n k).sync.wr i t) (cD sec s n k).sync) (hn : (k : Int) = n) (hi : sec k = i) (ht : s k = t) : At3 B w x y z (aD sec s n (k + 1)) (aD sec s n (k + 1)) (cD sec s n (k + 1)) := by
  subst hi ht
  simp only [aD, cD, hn, if_true]
  exact h
end

theorem At3.stillF {B : Nat} {w w' : World} {x y z : Dp} {D E F : Dk} (h : At3 B w x y z D E F) {G : Nat → Prop} (ht : Turned G w w') (hG : ∀ k, G k → w.heap.size ≤ k) : At3 B w' x y z D E F := by
  obtain ⟨v, u, t, h1, h2, h3, o⟩ := h
  exact ⟨v, u, t, ⟨h1.1.kept' ht (fun k hk hf => by have := h1.1.flt hf; have := hG k hk; omega), h1.2⟩, ⟨h2.1.kept' ht (fun k hk hf => by have := h2.1.flt hf; have := hG k hk; omega), h2.2⟩, ⟨h3.1.kept' ht (fun k hk hf => by have := h3.1.flt hf; have := hG k hk; omega), h3.2⟩, o⟩

theorem step_uns {w w1 : World} {x y z : Dp} {D E F : Dk} (h : At3 w.heap.size w1 x y z D E F) (hB : Below w.heap.size w w1) :
    Calls Try.prog 14 #[.pointer (some ⟨x.d, 0, none⟩)] w1 fun e w' => ∃ q qc, e = .returned (.slice q D.uns.length qc) ∧ At3 w.heap.size w' x y z D E F ∧ Below w.heap.size w w' := by
  have h' := h
  obtain ⟨v, u, t, h1, -⟩ := h
  refine (unsynced_any h1.1).mono ?_
  rintro e w' ⟨s, rfl, hs, hb⟩
  have hT : Turned (fun _ => False) w1 w' := Turned.new hb
  rcases hs.2 with ⟨e1, e2⟩ | ⟨g, cap, cur, e1, -⟩
  · exact ⟨none, 0, by rw [e1, e2], h'.still hT, hB.trans (hb.mono hB.size)⟩
  · exact ⟨_, _, by rw [e1], h'.still hT, hB.trans (hb.mono hB.size)⟩

/-- The crash that keeps all of all. -/
theorem crash_keep {w w4 w5 : World} {x y z : Dp} {D E F : Dk} (h : At3 w.heap.size w4 x y z D E F) (hB : Below w.heap.size w w4) (ht : Turned (fun b => w4.heap.size ≤ b) w4 w5) {v : Value} (hv : w5.ownsRow w4.heap.size 3 1 v D.uns.length (List.replicate D.uns.length (.int .i64 64))) :
    Calls Try.prog 21 #[.pointer (some ⟨x.d, 0, none⟩), v] w5 fun e w' => e = .returned (.int .i64 0) ∧ At3 w.heap.size w' x y z (D.crash (List.replicate D.uns.length 64)) E F ∧ Below w.heap.size w w' := by
  have hB5 : Below w.heap.size w w5 := hB.trans (ht.toBelow hB.size fun k _ hk => Nat.le_trans hB.size hk)
  obtain ⟨v0, u, t, h1, h2, h3, o⟩ := h
  have k1 : At w.heap.size w5 x v0 D := ⟨h1.1.kept' ht (fun k hk hf => by have := h1.1.flt hf; omega), h1.2⟩
  have k2 : At w.heap.size w5 y u E := ⟨h2.1.kept' ht (fun k hk hf => by have := h2.1.flt hf; omega), h2.2⟩
  have k3 : At w.heap.size w5 z t F := ⟨h3.1.kept' ht (fun k hk hf => by have := h3.1.flt hf; omega), h3.2⟩
  have hl : (List.replicate D.uns.length (64 : Int)).length = D.uns.length := List.length_replicate
  have ha : allIn 0 64 (List.replicate D.uns.length (64 : Int)) = true := by simp [allIn]
  rcases hv.2 with ⟨e1, e2⟩ | ⟨g, cap, cur, e1, hg, hh, -, -, hc, hx⟩
  · have := crash_any k1.1 none (List.replicate D.uns.length 64) 0 (by rw [hl]; exact Nat.le_refl _) (fun hz => by rw [e2] at hz; exact absurd rfl hz) (fun b off e => nomatch e) ha
    rw [hl] at this
    rw [e1]
    rw [e2] at this ⊢
    exact this.mono fun e w' hp => (At3.post hB5.size ⟨k1, k2, k3, o⟩ hp).imp id fun ⟨p1, p2⟩ => ⟨p1, hB5.trans p2⟩
  · have hI : Ints w5 (some ⟨g, 0, none⟩) (List.replicate D.uns.length 64) := fun _ => ⟨g, 0, rfl, fun i hi => by
      rw [hl] at hi
      have e3 : cur.toList[i]? = some (.int .i64 64) := by
        have : (cur.toList.take (D.uns.length * 1))[i]? = some (.int .i64 64) := by rw [hx]; simp [hi]
        rw [List.getElem?_take, if_pos (by omega)] at this
        exact this
      have e4 : w5.cell? ⟨g, 0 + i, none⟩ = cur.toList[i]? := by rw [Nat.zero_add]; exact cell_whole (cur := cur.toList) (by simpa using hh) i
      rw [e4, e3]
      simp [List.getD, hi]⟩
    have := crash_any k1.1 (some ⟨g, 0, none⟩) (List.replicate D.uns.length 64) cap (by rw [hl]; exact Nat.le_refl _) hI (fun b off e => by
      simp only [Option.some.injEq, Addr.mk.injEq] at e
      obtain ⟨rfl, -⟩ := e
      exact ⟨lt_of_heap hh, fun hf => by have := h1.1.flt hf; omega⟩) ha
    rw [hl] at this
    rw [e1]
    exact this.mono fun e w' hp => (At3.post hB5.size ⟨k1, k2, k3, o⟩ hp).imp id fun ⟨p1, p2⟩ => ⟨p1, hB5.trans p2⟩

theorem step_none {w w1 : World} {x y z : Dp} {D E F : Dk} (h : At3 w.heap.size w1 x y z D E F) (hB : Below w.heap.size w w1) :
    Calls Try.prog 21 #[.pointer (some ⟨x.d, 0, none⟩), .slice none 0 0] w1 fun e w' => e = .returned (.int .i64 0) ∧ At3 w.heap.size w' x y z (D.crash []) E F ∧ Below w.heap.size w w' :=
  (crash3 h hB.size).mono fun e w' ⟨he, h1, h2⟩ => ⟨he, h1, hB.trans h2⟩

/-- The fourth disk, behind world w7. -/
def T3 (w7 : World) (d kb sb : Nat) (D : Dk) (w' : World) : Prop := ∃ v, DiskAt w' d kb sb v D ∧ From w7.heap.size d kb sb v ∧ Below w7.heap.size w7 w'

theorem step_4 {w7 w1 W : World} {d kb sb : Nat} {D : Dk} (h : T3 w7 d kb sb D w1) (ht : Turned (fun _ => False) w1 W) (i : Int) (s : List UInt8) (hu : D.uns.length < 1000000000000) (ho : D.ops < 1000000000000000) :
    Calls Try.prog 19 #[.pointer (some ⟨d, 0, none⟩), .int .i64 i, .string ⟨s.toArray⟩] W fun e w' => (∃ r, e = .returned (.int .i64 r)) ∧ T3 w7 d kb sb (D.wr i s) w' ∧ Below w7.heap.size w7 w' := by
  obtain ⟨v, hD, hF, hB⟩ := h
  have hB' : Below w7.heap.size w7 W := hB.trans (ht.toBelow hB.size fun _ _ => False.elim)
  refine (wr_any (hD.kept' ht (fun _ => False.elim)) i s hu ho).mono ?_
  rintro e w2 ⟨rfl, v2, hD2, hT2, hv2⟩
  exact ⟨⟨_, rfl⟩, ⟨v2, hD2, hF.next hB'.size hv2, hF.below hB' (Nat.le_refl _) hT2⟩, hF.below hB' (Nat.le_refl _) hT2⟩

theorem dD_few (sec : Nat → Int) (s : Nat → List UInt8) : ∀ k, (dD sec s k).uns.length ≤ k ∧ (dD sec s k).ops ≤ k
  | 0 => ⟨Nat.le_refl _, Nat.le_refl _⟩
  | k + 1 => by
    obtain ⟨h1, h2⟩ := dD_few sec s k
    simp only [dD]
    unfold Dk.wr; split
    · simp [Dk.write]; omega
    · omega

theorem T3_below {w7 w' : World} {d kb sb : Nat} {D : Dk} (h : T3 w7 d kb sb D w') : Below w7.heap.size w7 w' := by
  obtain ⟨v, -, -, h⟩ := h
  exact h
theorem T3_at {w7 w' : World} {d kb sb : Nat} {sec : Nat → Int} {s : Nat → List UInt8} {m k : Nat} (h : T3 w7 d kb sb (dD sec s m) w') (e : m = k) : T3 w7 d kb sb (dD sec s k) w' := e ▸ h
theorem T3_next {w7 w' : World} {d kb sb : Nat} {sec : Nat → Int} {s : Nat → List UInt8} {m : Nat} {i : Int} {t : List UInt8} (h : T3 w7 d kb sb ((dD sec s m).wr i t) w') (hi : sec m = i) (ht : s m = t) : T3 w7 d kb sb (dD sec s (m + 1)) w' := by
  subst hi ht
  exact h
theorem read_4 {w7 wr : World} {d kb sb : Nat} {G : Dk} (h : T3 w7 d kb sb G wr) (i : Nat) (s : List UInt8) (hs : G.seen[i]? = some s) :
    Calls Try.prog 17 #[.pointer (some ⟨d, 0, none⟩), .int .i64 i] wr fun e w' => e = .returned (.tuple #[.string ⟨s.toArray⟩, .int .i64 0]) ∧ T3 w7 d kb sb G w' := by
  obtain ⟨v, hD, hF, hB⟩ := h
  refine (read_any hD i s hs).mono ?_
  rintro e w' ⟨rfl, hb⟩
  exact ⟨rfl, v, hD.kept' (F := fun _ => False) (Turned.new hb) (fun _ => False.elim), hF, hB.trans (hb.mono hB.size)⟩
theorem read_abc {B : Nat} {w7 wr : World} {x y z : Dp} {D E F : Dk} (h3 : At3 B w7 x y z D E F) {d kb sb : Nat} {G : Dk} (h : T3 w7 d kb sb G wr) (i : Nat) (s : List UInt8) (hs : D.seen[i]? = some s) :
    Calls Try.prog 17 #[.pointer (some ⟨x.d, 0, none⟩), .int .i64 i] wr fun e w' => e = .returned (.tuple #[.string ⟨s.toArray⟩, .int .i64 0]) ∧ T3 w7 d kb sb G w' := by
  obtain ⟨v, hD, hF, hB⟩ := h
  obtain ⟨v1, u1, t1, h1, -⟩ := h3
  have h1' : DiskAt wr x.d x.kb x.sb v1 D := h1.1.kept' (F := fun _ => False) (Turned.new hB) (fun _ => False.elim)
  refine (read_any h1' i s hs).mono ?_
  rintro e w' ⟨rfl, hb⟩
  exact ⟨rfl, v, hD.kept' (F := fun _ => False) (Turned.new hb) (fun _ => False.elim), hF, hB.trans (hb.mono hB.size)⟩
theorem uns_end {B : Nat} {w7 wr : World} {x y z : Dp} {D E F : Dk} {zs : List Int} (h3 : At3 B w7 x y z (D.crash zs) E F) {d kb sb : Nat} {G : Dk} (h : T3 w7 d kb sb G wr) :
    Calls Try.prog 14 #[.pointer (some ⟨x.d, 0, none⟩)] wr fun e w' => ∃ q qc, e = .returned (.slice q 0 qc) ∧ Below w7.heap.size w7 w' := by
  obtain ⟨v, hD, hF, hB⟩ := h
  obtain ⟨v1, u1, t1, h1, -⟩ := h3
  have h1' : DiskAt wr x.d x.kb x.sb v1 (D.crash zs) := h1.1.kept' (F := fun _ => False) (Turned.new hB) (fun _ => False.elim)
  refine (unsynced_any h1').mono ?_
  rintro e w' ⟨s, rfl, hs, hb⟩
  rcases hs.2 with ⟨e1, e2⟩ | ⟨g, cap, cur, e1, -⟩
  · exact ⟨none, 0, by rw [e1], hB.trans (hb.mono hB.size)⟩
  · exact ⟨_, _, by rw [e1]; rfl, hB.trans (hb.mono hB.size)⟩
theorem seen_facts {D F G : Dk} (h1 : D.Inv) (h2 : F.Inv) (h8 : D.kept.length = 8) (e1 : D.seen = G.seen) (e2 : D.kept = F.kept) {i : Nat} (hi : i < 8) :
    ∃ s t : List UInt8, s.length = 64 ∧ (D.crash (List.replicate D.uns.length 64)).seen[i]? = some s ∧ G.seen[i]? = some s ∧ (D.crash []).seen[i]? = some t ∧ (F.crash []).seen[i]? = some t := by
  have hl : D.seen.length = 8 := h1.length.trans h8
  have a1 : D.seen[i]? = some D.seen[i] := List.getElem?_eq_getElem (by omega)
  have a2 : D.kept[i]? = some D.kept[i] := List.getElem?_eq_getElem (by omega)
  refine ⟨D.seen[i], D.kept[i], ?_, by rw [h1.crash_all]; exact a1, by rw [← e1]; exact a1, by rw [h1.crash_none]; exact a2, by rw [h2.crash_none, ← e2]; exact a2⟩
  have := h1.sync.k64 D.seen[i]
  rw [h1.sync_kept] at this
  exact this (List.getElem_mem _)

/-- Three new disks. -/
theorem At3.new {w w0 w1 w2 w3 : World} {x y z : Dp} (hb0 : Below w.heap.size w w0)
    (h1 : DiskAt w1 x.d x.kb x.sb (.slice none 0 0) (Dk.new 8)) (b1 : Below w0.heap.size w0 w1) (d1 : w0.heap.size ≤ x.d) (k1 : w0.heap.size ≤ x.kb) (s1 : w0.heap.size ≤ x.sb)
    (h2 : DiskAt w2 y.d y.kb y.sb (.slice none 0 0) (Dk.new 8)) (b2 : Below w1.heap.size w1 w2) (d2 : w1.heap.size ≤ y.d) (k2 : w1.heap.size ≤ y.kb) (s2 : w1.heap.size ≤ y.sb)
    (h3 : DiskAt w3 z.d z.kb z.sb (.slice none 0 0) (Dk.new 8)) (b3 : Below w2.heap.size w2 w3) (d3 : w2.heap.size ≤ z.d) (k3 : w2.heap.size ≤ z.kb) (s3 : w2.heap.size ≤ z.sb) :
    At3 w.heap.size w3 x y z (Dk.new 8) (Dk.new 8) (Dk.new 8) ∧ Below w.heap.size w w3 := by
  have z0 := hb0.size
  have z1 := b1.size
  have z2 := b2.size
  have f1 : From w0.heap.size x.d x.kb x.sb (.slice none 0 0) := From.new d1 k1 s1
  have f2 : From w1.heap.size y.d y.kb y.sb (.slice none 0 0) := From.new d2 k2 s2
  have f3 : From w2.heap.size z.d z.kb z.sb (.slice none 0 0) := From.new d3 k3 s3
  have h1' : DiskAt w2 x.d x.kb x.sb (.slice none 0 0) (Dk.new 8) := h1.kept' (F := fun _ => False) (Turned.new b2) (fun _ => False.elim)
  have h1'' : DiskAt w3 x.d x.kb x.sb (.slice none 0 0) (Dk.new 8) := h1'.kept' (F := fun _ => False) (Turned.new b3) (fun _ => False.elim)
  have h2' : DiskAt w3 y.d y.kb y.sb (.slice none 0 0) (Dk.new 8) := h2.kept' (F := fun _ => False) (Turned.new b3) (fun _ => False.elim)
  refine ⟨⟨_, _, _, ⟨h1'', fun k hk => ?_⟩, ⟨h2', fun k hk => ?_⟩, ⟨h3, fun k hk => ?_⟩, fun k ha hb => ?_, fun k ha hb => ?_, fun k ha hb => ?_⟩, (hb0.trans (b1.mono z0)).trans ((b2.mono (by omega)).trans (b3.mono (by omega)))⟩
  · have := f1 k hk; omega
  · have := f2 k hk; omega
  · have := f3 k hk; omega
  · have := h1.flt ha; have := f2 k hb; omega
  · have := h1'.flt ha; have := f3 k hb; omega
  · have := h2.flt ha; have := f3 k hb; omega

set_option maxHeartbeats 2000000 in
set_option maxRecDepth 100000 in
theorem all_any (p : Option Addr) (l : List A) (lc : Nat) (n : Int) (w : World) (hA : Acts w p l) (hp : ∀ a, p = some a → a.block < w.heap.size) (ll : l.length ≤ 9223372036854775807) :
    Calls Try.prog 6 #[.slice p l.length lc, .int .i64 n] w fun e w' => e = .returned (.bool true) ∧ Below w.heap.size w w' := by
  have HA := Lib.hid hA
  have HP := Lib.hid hp
  clear hA hp
  go_enter Try.func6, Try.ntmps6
  go_wp2_with fail
  refine (shown_any w).mono ?_
  rintro e w0 ⟨rfl, hb0⟩
  go_wp2_with fail
  refine (new_any 8 (by omega) (by omega) w0).mono ?_
  rintro e w1 ⟨d1, kb1, sb1, rfl, hD1, hb1, hd1, hk1, hs1⟩
  go_wp2_with fail
  refine (new_any 8 (by omega) (by omega) w1).mono ?_
  rintro e w2 ⟨d2, kb2, sb2, rfl, hD2, hb2, hd2, hk2, hs2⟩
  go_wp2_with fail
  refine (new_any 8 (by omega) (by omega) w2).mono ?_
  rintro e w3 ⟨d3, kb3, sb3, rfl, hD3, hb3, hd3, hk3, hs3⟩
  have H := Lib.hid (At3.new (x := ⟨d1, kb1, sb1⟩) (y := ⟨d2, kb2, sb2⟩) (z := ⟨d3, kb3, sb3⟩) hb0 hD1 hb1 hd1 hk1 hs1 hD2 hb2 hd2 hk2 hs2 hD3 hb3 hd3 hk3 hs3)
  clear hb0 hD1 hb1 hd1 hk1 hs1 hD2 hb2 hd2 hk2 hs2 hD3 hb3 hd3 hk3 hs3
  go_wp2_with fail
  go_loopw [12] (fun i w' => ∃ k : Nat, k ≤ l.length ∧ k ≤ 80 ∧ i = .int .i64 k ∧ At3 w.heap.size w' ⟨d1, kb1, sb1⟩ ⟨d2, kb2, sb2⟩ ⟨d3, kb3, sb3⟩ (aD (secOf l) (txtOf l) n k) (aD (secOf l) (txtOf l) n k) (cD (secOf l) (txtOf l) n k) ∧ Below w.heap.size w w') (fun i _ => 80 - (intOf i).toNat)
  case atStart => exact ⟨0, Nat.zero_le _, Nat.zero_le _, rfl, H.out⟩
  case round =>
    obtain ⟨k, hk, hk8, rfl, h3, hB⟩ := hrel
    have P3 := Lib.hid h3
    have PB := Lib.hid hB
    clear h3 hB H
    by_cases hin : k < l.length ∧ k < 80
    · obtain ⟨h1, h2⟩ := hin
      have FA := aD_few (secOf l) (txtOf l) n k
      have FC := (cD_inv (secOf l) (txtOf l) n k).2.2.2.2
      obtain ⟨fu, fo⟩ := FA
      obtain ⟨gu, go⟩ := FC
      obtain ⟨b, off, rfl, hc⟩ := HA.out (by intro h; simp [h] at h1)
      have hbl := HP.out _ rfl
      have hc' := hc k l[k] (List.getElem?_eq_getElem h1)
      have es : secOf l k = l[k].sec := by simp [secOf, List.getD, h1]
      have et : txtOf l k = l[k].s.data.toList.take 70 := by simp [txtOf, List.getD, h1]
      generalize l[k] = x at hc' es et
      obtain ⟨hxs, hc0, hc1, hc2, hc3⟩ := hc'
      have XS := Lib.hid hxs
      have ST := Lib.hid (show ∀ w', Below w.heap.size w w' → (w'.cell? ⟨b, off + k * 4 + 1, none⟩ = some (.int .i64 x.sec) ∧ w'.cell? ⟨b, off + k * 4 + 2, none⟩ = some (.string x.s)) from fun w' ht =>
          have e' : ∀ o, w'.cell? ⟨b, o, none⟩ = w.cell? ⟨b, o, none⟩ := fun o => World.cell?_of_block (ht.block b hbl)
          ⟨(e' _).trans hc1, (e' _).trans hc2⟩)
      have ES := Lib.hid es
      have ET := Lib.hid et
      clear hc hbl hxs hc0 hc1 hc2 hc3 es et
      rcases Int.lt_trichotomy k n with hn | hn | hn
      · go_wp2_with fail
        have CWw4 := Lib.hid fun (W : World) (ht : Turned (fun _ => False) wr W) => step_wr P3.out PB.out ht x.sec (x.s.data.toList.take 70) (by first | omega | (simp only [Dk.sync, List.length_nil]; omega)) (by first | omega | (simp only [Dk.sync]; omega))
        go_region_held3 (fun w' => w'.cell? ⟨b, off + k * 4 + 1, none⟩ = some (.int .i64 x.sec) ∧ w'.cell? ⟨b, off + k * 4 + 2, none⟩ = some (.string x.s) ∧ Below w.heap.size w w') (refine ⟨(ST.out _ ?_).1, (ST.out _ ?_).2, ?_⟩ <;> first | assumption | exact PB.out | exact PB.out.drew) (first | (go_at_call 22; refine (text_any x.s _ XS.out).mono ?_; rintro e w2 ⟨rfl, rfl⟩) | (go_at_call 19; refine (CWw4.out _ (Turned.refl _ _).drew).mono ?_; rintro e w4 ⟨⟨r, rfl⟩, ha, hb⟩))
        have Pw4 := Lib.hid ha
        have Bw4 := Lib.hid hb
        clear ha hb CWw4
        go_wp2_with fail
        have CWw5 := Lib.hid fun (W : World) (ht : Turned (fun _ => False) w4 W) => step_wr Pw4.out.swap Bw4.out ht x.sec (x.s.data.toList.take 70) (by first | omega | (simp only [Dk.sync, List.length_nil]; omega)) (by first | omega | (simp only [Dk.sync]; omega))
        go_region_held3 (fun w' => w'.cell? ⟨b, off + k * 4 + 1, none⟩ = some (.int .i64 x.sec) ∧ w'.cell? ⟨b, off + k * 4 + 2, none⟩ = some (.string x.s) ∧ Below w.heap.size w w') (refine ⟨(ST.out _ ?_).1, (ST.out _ ?_).2, ?_⟩ <;> first | assumption | exact Bw4.out | exact Bw4.out.drew) (first | (go_at_call 22; refine (text_any x.s _ XS.out).mono ?_; rintro e w2 ⟨rfl, rfl⟩) | (go_at_call 19; refine (CWw5.out _ (Turned.refl _ _).drew).mono ?_; rintro e w5 ⟨⟨r, rfl⟩, ha, hb⟩))
        have Pw5 := Lib.hid ha
        have Bw5 := Lib.hid hb
        clear ha hb CWw5
        go_wp2_with fail
        have CWw6 := Lib.hid fun (W : World) (ht : Turned (fun _ => False) w5 W) => step_wr Pw5.out.turn Bw5.out ht x.sec (x.s.data.toList.take 70) (by first | omega | (simp only [Dk.sync, List.length_nil]; omega)) (by first | omega | (simp only [Dk.sync]; omega))
        go_region_held3 (fun w' => w'.cell? ⟨b, off + k * 4 + 1, none⟩ = some (.int .i64 x.sec) ∧ w'.cell? ⟨b, off + k * 4 + 2, none⟩ = some (.string x.s) ∧ Below w.heap.size w w') (refine ⟨(ST.out _ ?_).1, (ST.out _ ?_).2, ?_⟩ <;> first | assumption | exact Bw5.out | exact Bw5.out.drew) (first | (go_at_call 22; refine (text_any x.s _ XS.out).mono ?_; rintro e w2 ⟨rfl, rfl⟩) | (go_at_call 19; refine (CWw6.out _ (Turned.refl _ _).drew).mono ?_; rintro e w6 ⟨⟨r, rfl⟩, ha, hb⟩))
        have Pw6 := Lib.hid ha
        have Bw6 := Lib.hid hb
        clear ha hb CWw6
        go_wp2_with fail
        have PE := Lib.hid (next_lt Pw6.out.swap.turn hn ES.out ET.out)
        go_roundw
        case rel => exact ⟨k + 1, by omega, by omega, by go_num, PE.out, Bw6.out⟩
        case measure => simp [intOf]; omega
      · subst hn
        go_wp2_with fail
        refine (step_sync P3.out PB.out (by omega)).mono ?_
        rintro e w7 ⟨rfl, ha, hb⟩
        have Pw7 := Lib.hid ha
        have Bw7 := Lib.hid hb
        clear ha hb
        go_wp2_with fail
        refine (step_sync Pw7.out.swap Bw7.out (by omega)).mono ?_
        rintro e w8 ⟨rfl, ha, hb⟩
        have Pw8 := Lib.hid ha
        have Bw8 := Lib.hid hb
        clear ha hb
        go_wp2_with fail
        refine (step_sync Pw8.out.turn Bw8.out (by omega)).mono ?_
        rintro e w9 ⟨rfl, ha, hb⟩
        have Pw9 := Lib.hid ha
        have Bw9 := Lib.hid hb
        clear ha hb
        go_wp2_with fail
        have CWw4 := Lib.hid fun (W : World) (ht : Turned (fun _ => False) w9 W) => step_wr Pw9.out.swap.turn Bw9.out ht x.sec (x.s.data.toList.take 70) (by first | omega | (simp only [Dk.sync, List.length_nil]; omega)) (by first | omega | (simp only [Dk.sync]; omega))
        go_region_held3 (fun w' => w'.cell? ⟨b, off + k * 4 + 1, none⟩ = some (.int .i64 x.sec) ∧ w'.cell? ⟨b, off + k * 4 + 2, none⟩ = some (.string x.s) ∧ Below w.heap.size w w') (refine ⟨(ST.out _ ?_).1, (ST.out _ ?_).2, ?_⟩ <;> first | assumption | exact Bw9.out | exact Bw9.out.drew) (first | (go_at_call 22; refine (text_any x.s _ XS.out).mono ?_; rintro e w2 ⟨rfl, rfl⟩) | (go_at_call 19; refine (CWw4.out _ (Turned.refl _ _).drew).mono ?_; rintro e w4 ⟨⟨r, rfl⟩, ha, hb⟩))
        have Pw4 := Lib.hid ha
        have Bw4 := Lib.hid hb
        clear ha hb CWw4
        go_wp2_with fail
        have CWw5 := Lib.hid fun (W : World) (ht : Turned (fun _ => False) w4 W) => step_wr Pw4.out.swap Bw4.out ht x.sec (x.s.data.toList.take 70) (by first | omega | (simp only [Dk.sync, List.length_nil]; omega)) (by first | omega | (simp only [Dk.sync]; omega))
        go_region_held3 (fun w' => w'.cell? ⟨b, off + k * 4 + 1, none⟩ = some (.int .i64 x.sec) ∧ w'.cell? ⟨b, off + k * 4 + 2, none⟩ = some (.string x.s) ∧ Below w.heap.size w w') (refine ⟨(ST.out _ ?_).1, (ST.out _ ?_).2, ?_⟩ <;> first | assumption | exact Bw4.out | exact Bw4.out.drew) (first | (go_at_call 22; refine (text_any x.s _ XS.out).mono ?_; rintro e w2 ⟨rfl, rfl⟩) | (go_at_call 19; refine (CWw5.out _ (Turned.refl _ _).drew).mono ?_; rintro e w5 ⟨⟨r, rfl⟩, ha, hb⟩))
        have Pw5 := Lib.hid ha
        have Bw5 := Lib.hid hb
        clear ha hb CWw5
        go_wp2_with fail
        have PE := Lib.hid (next_eq Pw5.out.swap rfl ES.out ET.out)
        go_roundw
        case rel => exact ⟨k + 1, by omega, by omega, by go_num, PE.out, Bw5.out⟩
        case measure => simp [intOf]; omega
      · go_wp2_with fail
        have CWw4 := Lib.hid fun (W : World) (ht : Turned (fun _ => False) wr W) => step_wr P3.out PB.out ht x.sec (x.s.data.toList.take 70) (by first | omega | (simp only [Dk.sync, List.length_nil]; omega)) (by first | omega | (simp only [Dk.sync]; omega))
        go_region_held3 (fun w' => w'.cell? ⟨b, off + k * 4 + 1, none⟩ = some (.int .i64 x.sec) ∧ w'.cell? ⟨b, off + k * 4 + 2, none⟩ = some (.string x.s) ∧ Below w.heap.size w w') (refine ⟨(ST.out _ ?_).1, (ST.out _ ?_).2, ?_⟩ <;> first | assumption | exact PB.out | exact PB.out.drew) (first | (go_at_call 22; refine (text_any x.s _ XS.out).mono ?_; rintro e w2 ⟨rfl, rfl⟩) | (go_at_call 19; refine (CWw4.out _ (Turned.refl _ _).drew).mono ?_; rintro e w4 ⟨⟨r, rfl⟩, ha, hb⟩))
        have Pw4 := Lib.hid ha
        have Bw4 := Lib.hid hb
        clear ha hb CWw4
        go_wp2_with fail
        have CWw5 := Lib.hid fun (W : World) (ht : Turned (fun _ => False) w4 W) => step_wr Pw4.out.swap Bw4.out ht x.sec (x.s.data.toList.take 70) (by first | omega | (simp only [Dk.sync, List.length_nil]; omega)) (by first | omega | (simp only [Dk.sync]; omega))
        go_region_held3 (fun w' => w'.cell? ⟨b, off + k * 4 + 1, none⟩ = some (.int .i64 x.sec) ∧ w'.cell? ⟨b, off + k * 4 + 2, none⟩ = some (.string x.s) ∧ Below w.heap.size w w') (refine ⟨(ST.out _ ?_).1, (ST.out _ ?_).2, ?_⟩ <;> first | assumption | exact Bw4.out | exact Bw4.out.drew) (first | (go_at_call 22; refine (text_any x.s _ XS.out).mono ?_; rintro e w2 ⟨rfl, rfl⟩) | (go_at_call 19; refine (CWw5.out _ (Turned.refl _ _).drew).mono ?_; rintro e w5 ⟨⟨r, rfl⟩, ha, hb⟩))
        have Pw5 := Lib.hid ha
        have Bw5 := Lib.hid hb
        clear ha hb CWw5
        go_wp2_with fail
        have PE := Lib.hid (next_gt Pw5.out.swap hn ES.out ET.out)
        go_roundw
        case rel => exact ⟨k + 1, by omega, by omega, by go_num, PE.out, Bw5.out⟩
        case measure => simp [intOf]; omega
    have hend : (¬ k < l.length) ∨ (k < l.length ∧ ¬ k < 80) := by omega
    clear hin
    rcases hend with h1 | ⟨h1, h2⟩
    all_goals
      have ID := aD_inv (secOf l) (txtOf l) n k
      have IC := cD_inv (secOf l) (txtOf l) n k
      have fu := (aD_few (secOf l) (txtOf l) n k).1
      have e1 := ID.2.2.1
      have e2 := IC.2.2.1
      have i1 := ID.1
      have i2 := IC.1
      have k8 := ID.2.1
      clear ID IC
      have P3' := P3.out
      clear P3
      generalize aD (secOf l) (txtOf l) n k = D at *
      generalize cD (secOf l) (txtOf l) n k = F at *
      have E1 := Lib.hid e1
      have E2 := Lib.hid e2
      have I1 := Lib.hid i1
      have K8 := Lib.hid k8
      have I2 := Lib.hid i2
      have P3 := Lib.hid P3'
      clear e1 e2 i1 i2 k8 P3'
      go_wp2_with fail
      refine (step_uns P3.out PB.out).mono ?_
      rintro e w4 ⟨q, qc, rfl, ha, hb⟩
      have P4 := Lib.hid ha
      have B4 := Lib.hid hb
      clear ha hb P3 PB
      have U80 : D.uns.length ≤ 80 := by omega
      have BB : w.heap.size ≤ w4.heap.size := B4.out.size
      go_wp2_with fail
      go_loopw [14, 15] (fun v i w' => ∃ j : Nat, j ≤ D.uns.length ∧ i = .int .i64 j ∧ w'.ownsRow w4.heap.size 3 1 v j (List.replicate j (.int .i64 64)) ∧ Turned (fun b => w4.heap.size ≤ b) w4 w') (fun _ i _ => D.uns.length - (intOf i).toNat)
      case atStart => exact ⟨0, Nat.zero_le _, rfl, ⟨rfl, .inl ⟨rfl, rfl⟩⟩, Turned.refl _ _⟩
      case round v _ =>
        obtain ⟨j, hj, rfl, ho, hT⟩ := hrel
        have OO := Lib.hid ho
        have TT := Lib.hid hT
        have hsz := hT.size
        clear ho hT
        by_cases hlt : j < D.uns.length
        · obtain ⟨i0, hi0, hz0, hz1, hz2⟩ := info_parts info3
          have HI0 := Lib.hid hi0
          have HZ0 := Lib.hid hz0
          have HZ1 := Lib.hid hz1
          have HZ2 := Lib.hid hz2
          clear hi0 hz0 hz1 hz2
          have hl1 : ([Value.int .i64 64] : List Value).length = 1 * 1 := rfl
          have h1c : ∀ u ∈ [Value.int .i64 (64 : Int)], u.oneCell' = true := fun u hu => by obtain rfl := List.mem_singleton.1 hu; rfl
          have hm1 : j + 1 ≤ maxLen := by unfold maxLen; omega
          have HL1 := Lib.hid hl1
          have H1C := Lib.hid h1c
          clear hl1 h1c
          have hb8 : (j + 1) * 8 ≤ 140737488355328 := by omega
          have hbs : w4.heap.size ≤ (wr.alloc (.cells #[.int .i64 64] 3)).heap.size := Nat.le_trans hsz (Nat.le_of_lt (by rw [World.size_alloc]; exact Nat.lt_succ_self _))
          have HB8 := Lib.hid hb8
          have HBS := Lib.hid hbs
          have HM1 := Lib.hid hm1
          clear hb8 hbs hm1
          go_wp2_with (at_builtin; refine wpList_append_lies _ rfl _ _ 32 rfl w4.heap.size 3 i0 _ 1 8 Try.underlying32 HI0.out HZ0.out HZ1.out HZ2.out rfl (Nat.le_refl _) _ j _ rfl (OO.out.alloc _) ⟨wr.heap.size, 0, none⟩ 1 1 [.int .i64 64] rfl HL1.out (cell_one_new _ _ _) H1C.out (Nat.le_refl _) HM1.out HB8.out HBS.out _ rfl ?_; intro g cap w9 hown hgrow hlies hglt)
          have TG := (TT.out.alloc (.cells #[.int .i64 64] 3)).trans (Turned.grown hgrow fun b hb _ => (OO.out.lt b hb).1)
          go_roundw
          case rel => exact ⟨j + 1, by omega, by go_num, by rw [List.replicate_succ']; exact hown, TG⟩
          case measure => simp [intOf]; omega
        · have OO' := OO.out
          have ej : j = D.uns.length := by omega
          rw [ej] at OO'
          have O2 := Lib.hid OO'
          clear OO' OO ej
          have R := Lib.hid (crash_keep P4.out B4.out TT.out O2.out)
          go_wp2_with fail
          refine R.out.mono ?_
          rintro e w5 ⟨rfl, ha, hb⟩
          have P5 := Lib.hid ha
          have B5 := Lib.hid hb
          clear ha hb P4 B4 R O2 TT
          go_wp2_with fail
          refine (step_none P5.out.swap B5.out).mono ?_
          rintro e w6 ⟨rfl, ha, hb⟩
          have P6 := Lib.hid ha
          have B6 := Lib.hid hb
          clear ha hb P5 B5
          go_wp2_with fail
          refine (step_none P6.out.turn B6.out).mono ?_
          rintro e w7 ⟨rfl, ha, hb⟩
          have P7 := Lib.hid ha.swap.turn
          have B7 := Lib.hid hb
          clear ha hb P6 B6
          go_wp2_with fail
          refine (new_any 8 (by omega) (by omega) w7).mono ?_
          rintro e w8 ⟨d4, kb4, sb4, rfl, hD8, hb8, hd8, hk8', hs8⟩
          have L3 := Lib.hid (show T3 w7 d4 kb4 sb4 (dD (secOf l) (txtOf l) 0) w8 from ⟨_, hD8, From.new hd8 hk8' hs8, hb8⟩)
          have C7 : w.heap.size ≤ w7.heap.size := B7.out.size
          clear hD8 hb8 hd8 hk8' hs8
          go_wp2_with fail
          go_loopw [21] (fun i w' => ∃ m : Nat, m ≤ l.length ∧ m ≤ 80 ∧ i = .int .i64 m ∧ T3 w7 d4 kb4 sb4 (dD (secOf l) (txtOf l) m) w') (fun i _ => 80 - (intOf i).toNat)
          case atStart => exact ⟨0, Nat.zero_le _, Nat.zero_le _, rfl, L3.out⟩
          case round =>
            obtain ⟨m, hm, hm8, rfl, hL⟩ := hrel
            have LL := Lib.hid hL
            clear hL L3
            have BW := Lib.hid (B7.out.trans (T3_below LL.out |>.mono C7))
            by_cases hin : m < l.length ∧ m < 80
            · obtain ⟨g1, g2⟩ := hin
              obtain ⟨fu', fo'⟩ := dD_few (secOf l) (txtOf l) m
              obtain ⟨b, off, rfl, hc⟩ := HA.out (by intro h; simp [h] at g1)
              have hbl := HP.out _ rfl
              have hc' := hc m l[m] (List.getElem?_eq_getElem g1)
              have es : secOf l m = l[m].sec := by simp [secOf, List.getD, g1]
              have et : txtOf l m = l[m].s.data.toList.take 70 := by simp [txtOf, List.getD, g1]
              generalize l[m] = x at hc' es et
              obtain ⟨hxs, hc0, hc1, hc2, hc3⟩ := hc'
              have XS := Lib.hid hxs
              have ST := Lib.hid (show ∀ w', Below w.heap.size w w' → (w'.cell? ⟨b, off + m * 4 + 1, none⟩ = some (.int .i64 x.sec) ∧ w'.cell? ⟨b, off + m * 4 + 2, none⟩ = some (.string x.s)) from fun w' ht =>
                have e' : ∀ o, w'.cell? ⟨b, o, none⟩ = w.cell? ⟨b, o, none⟩ := fun o => World.cell?_of_block (ht.block b hbl)
                ⟨(e' _).trans hc1, (e' _).trans hc2⟩)
              have ES := Lib.hid es
              have ET := Lib.hid et
              clear hc hbl hxs hc0 hc1 hc2 hc3 es et
              have CW := Lib.hid fun (W : World) (ht : Turned (fun _ => False) wr W) => (step_4 LL.out ht x.sec (x.s.data.toList.take 70) (by omega) (by omega)).mono fun e w' hh => (⟨hh.1, hh.2.1, B7.out.trans (hh.2.2.mono C7)⟩ : (∃ r, e = .returned (.int .i64 r)) ∧ T3 w7 d4 kb4 sb4 _ w' ∧ Below w.heap.size w w')
              go_wp2_with fail
              go_region_held3 (fun w' => w'.cell? ⟨b, off + m * 4 + 1, none⟩ = some (.int .i64 x.sec) ∧ w'.cell? ⟨b, off + m * 4 + 2, none⟩ = some (.string x.s) ∧ Below w.heap.size w w') (refine ⟨(ST.out _ ?_).1, (ST.out _ ?_).2, ?_⟩ <;> first | assumption | exact BW.out | exact BW.out.drew) (first | (go_at_call 22; refine (text_any x.s _ XS.out).mono ?_; rintro e w2 ⟨rfl, rfl⟩) | (go_at_call 19; refine (CW.out _ (Turned.refl _ _).drew).mono ?_; rintro e w9 ⟨⟨r, rfl⟩, ha, hb⟩))
              have P9 := Lib.hid (T3_next ha ES.out ET.out)
              clear ha
              go_wp2_with fail
              go_roundw
              case rel => exact ⟨m + 1, by omega, by omega, by go_num, P9.out⟩
              case measure => simp [intOf]; omega
            have emk : m = k := by omega
            have L4 := Lib.hid (T3_at LL.out emk)
            have hend : (¬ m < l.length) ∨ (m < l.length ∧ ¬ m < 80) := by omega
            clear hin emk LL BW
            rcases hend with g1 | ⟨g1, g2⟩
            all_goals try (exfalso; omega)
            all_goals
              go_wp2_with fail
              go_loopw [22] (fun i w' => ∃ j : Nat, j ≤ 8 ∧ i = .int .i64 j ∧ T3 w7 d4 kb4 sb4 (dD (secOf l) (txtOf l) k) w') (fun i _ => 8 - (intOf i).toNat)
              case atStart => exact ⟨0, Nat.zero_le _, rfl, L4.out⟩
              case round =>
                obtain ⟨j, hj, rfl, hL⟩ := hrel
                have LL := Lib.hid hL
                clear hL L4
                by_cases h8 : j < 8
                · obtain ⟨s, t, s64, q1, q2, q3, q4⟩ := seen_facts I1.out I2.out K8.out E1.out E2.out h8
                  have Q1 := Lib.hid q1
                  have Q2 := Lib.hid q2
                  have Q3 := Lib.hid q3
                  have Q4 := Lib.hid q4
                  clear q1 q2 q3 q4
                  go_wp2_with fail
                  refine (read_abc P7.out LL.out j s Q1.out).mono ?_
                  rintro e w9 ⟨rfl, ha⟩
                  have N1 := Lib.hid ha
                  clear ha
                  go_wp2_with fail
                  refine (read_4 N1.out j s Q2.out).mono ?_
                  rintro e w10 ⟨rfl, ha⟩
                  have N2 := Lib.hid ha
                  clear ha
                  go_wp2_with fail
                  refine (read_abc P7.out.swap N2.out j t Q3.out).mono ?_
                  rintro e w11 ⟨rfl, ha⟩
                  have N3 := Lib.hid ha
                  clear ha
                  go_wp2_with fail
                  refine (read_abc P7.out.turn N3.out j t Q4.out).mono ?_
                  rintro e w12 ⟨rfl, ha⟩
                  have N4 := Lib.hid ha
                  clear ha
                  go_wp2_with fail
                  go_roundw
                  case rel => exact ⟨j + 1, by omega, by go_num, N4.out⟩
                  case measure => simp [intOf]; omega
                · go_wp2_with fail
                  refine (uns_end P7.out LL.out).mono ?_
                  rintro e w9 ⟨q, qc, rfl, hb⟩
                  go_wp2_with fail
                  go_ret
                  exact ⟨rfl, B7.out.trans (hb.mono C7)⟩
end Go.Proofs.Ytlpgffoeohcegaa
