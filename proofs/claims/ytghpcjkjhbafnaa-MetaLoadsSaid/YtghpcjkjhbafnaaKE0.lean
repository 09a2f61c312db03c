/- The disk's model: what a read of the last write to a sector tells. -/
import Derived.Test.YtghpcjkjhbafnaaKD8
namespace Go.Proofs.Ytghpcjkjhbafnaa

theorem keepAll_append (K : List (List UInt8)) (a b : List ((Nat × List UInt8) × Nat)) : keepAll K (a ++ b) = keepAll (keepAll K a) b := by simp [keepAll]

theorem seen_last {D : Dk} (h : D.Inv) {k : Nat} {x : Nat × List UInt8} (hk : D.uns[k]? = some x) (hn : ∀ (j : Nat) (y : Nat × List UInt8), k < j → D.uns[j]? = some y → y.1 ≠ x.1) : D.seen[x.1]? = some x.2 := by
  obtain ⟨hl, hx⟩ := List.getElem?_eq_some_iff.1 hk
  have e : D.uns = D.uns.take k ++ ([x] ++ D.uns.drop (k + 1)) := by
    rw [← hx, List.singleton_append, ← List.drop_eq_getElem_cons hl, List.take_append_drop]
  have hm : x ∈ D.uns := by rw [← hx]; exact List.getElem_mem hl
  have hu := h.u64 x hm
  have hd : ∀ y ∈ D.uns.drop (k + 1), y.1 ≠ x.1 := fun y hy => by
    obtain ⟨j, hj, he⟩ := List.mem_iff_getElem.1 hy
    refine hn (k + 1 + j) y (by omega) ?_
    rw [List.getElem_drop] at he
    rw [← he]
    exact List.getElem?_eq_getElem _
  have ea : all64 D.uns = all64 (D.uns.take k) ++ ([(x, 64)] ++ all64 (D.uns.drop (k + 1))) := by
    have := congrArg all64 e
    rw [this]
    simp [all64]
  rw [h.seen, ea, keepAll_append, keepAll_append, keepAll_get _ _ _ hd]
  have hlen : (keepAll D.kept (all64 (D.uns.take k))).length = D.kept.length := length_keepAll _ _
  have h64 : ((keepAll D.kept (all64 (D.uns.take k))).getD x.1 []).length = 64 := by
    have hmem : (keepAll D.kept (all64 (D.uns.take k))).getD x.1 [] ∈ keepAll D.kept (all64 (D.uns.take k)) := by
      have : x.1 < (keepAll D.kept (all64 (D.uns.take k))).length := by rw [hlen]; exact hu.1
      simp [List.getD, this]
    exact keepAll_64 (all64 (D.uns.take k)) (fun y hy => by
      simp only [all64, List.mem_map] at hy
      obtain ⟨z, hz, rfl⟩ := hy
      exact ⟨(h.u64 z (List.mem_of_mem_take hz)).2, Nat.le_refl _⟩) D.kept (fun y hy => by
      simp only [all64, List.mem_map] at hy
      obtain ⟨z, hz, rfl⟩ := hy
      exact (h.u64 z (List.mem_of_mem_take hz)).1) h.k64 _ hmem
  show ((keepAll D.kept (all64 (D.uns.take k))).set x.1 (tear x.2 ((keepAll D.kept (all64 (D.uns.take k))).getD x.1 []) 64))[x.1]? = some x.2
  rw [tear_all hu.2 h64, List.getElem?_set_self (by rw [hlen]; exact hu.1)]

theorem seen_kept {D : Dk} (h : D.Inv) (i : Nat) (hn : ∀ (j : Nat) (y : Nat × List UInt8), D.uns[j]? = some y → y.1 ≠ i) : D.seen[i]? = D.kept[i]? := by
  rw [h.seen]
  exact keepAll_get i D.uns D.kept fun x hx => by
    obtain ⟨j, hj, he⟩ := List.mem_iff_getElem.1 hx
    exact hn j x (by rw [← he]; exact List.getElem?_eq_getElem hj)

theorem keepAll_get' (i : Nat) : ∀ (l : List ((Nat × List UInt8) × Nat)) (K : List (List UInt8)), (∀ x ∈ l, x.1.1 ≠ i) → (keepAll K l)[i]? = K[i]?
  | [], _, _ => rfl
  | x :: l, K, h => by
    show (keepAll (K.set x.1.1 _) l)[i]? = _
    rw [keepAll_get' i l _ fun y hy => h y (List.mem_cons_of_mem _ hy), List.getElem?_set_ne (h x List.mem_cons_self)]
theorem fallAll_get (kept : List (List UInt8)) (i : Nat) : ∀ (l : List (Nat × List UInt8)) (S : List (List UInt8)), (∀ y ∈ l, y.1 ≠ i) → (fallAll kept S l)[i]? = S[i]?
  | [], _, _ => rfl
  | x :: l, S, h => by
    show (fallAll kept (S.set x.1 _) l)[i]? = _
    rw [fallAll_get kept i l _ fun y hy => h y (List.mem_cons_of_mem _ hy), List.getElem?_set_ne (h x List.mem_cons_self)]

/-- Behind a crash, too, what is seen is what a sync would keep. -/
theorem Dk.Inv.crash {D : Dk} (h : D.Inv) (zs : List Int) (hz : ∀ z ∈ zs, 0 ≤ z ∧ z ≤ 64) : (D.crash zs).Inv := by
  have hlen : (crashKept D zs).length = D.kept.length := by unfold crashKept; exact length_keepAll _ _
  have hmem : ∀ x ∈ D.uns.zip (zs.map Int.toNat), x.1 ∈ D.uns ∧ x.2 ≤ 64 := fun x hx => by
    have h1 := List.of_mem_zip (a := x.1) (b := x.2) (by simpa using hx)
    obtain ⟨z, hzm, hze⟩ := List.mem_map.1 h1.2
    have := hz z hzm
    exact ⟨h1.1, by omega⟩
  refine ⟨?_, ?_, fun x hx => nomatch hx⟩
  · show fallAll (crashKept D zs) D.seen D.uns = crashKept D zs
    apply List.ext_getElem?
    intro i
    by_cases hm : ∃ x ∈ D.uns, x.1 = i
    · exact fallAll_at (crashKept D zs) i D.uns D.seen (by rw [h.length, hlen]) hm
    · have hno : ∀ y ∈ D.uns, y.1 ≠ i := fun y hy e => hm ⟨y, hy, e⟩
      rw [fallAll_get _ i D.uns D.seen hno, seen_kept h i (fun j y hj => hno y (List.mem_of_getElem? hj))]
      unfold crashKept
      rw [keepAll_get' i _ _ fun x hx => hno _ (hmem x hx).1]
  · show ∀ s ∈ crashKept D zs, s.length = 64
    unfold crashKept
    exact keepAll_64 _ (fun x hx => ⟨(h.u64 _ (hmem x hx).1).2, (hmem x hx).2⟩) D.kept (fun x hx => (h.u64 _ (hmem x hx).1).1) h.k64
end Go.Proofs.Ytghpcjkjhbafnaa

/- The plain disk of the document's answer, and its Read. -/
namespace Go.Proofs.Ytghpcjkjhbafnaa
open Go Go.RowKit

structure Veil (p : Prop) : Prop where
  out : p

def sv (s : List UInt8) : Value := .string ⟨s.toArray⟩
/-- The plain disk at block r: what is kept, the unsynced writes' sectors, their bytes. -/
structure RefAt (w : World) (r : Nat) (vs vw vb : Value) (D : Dk) : Prop where
  box : w.heap[r]? = some (.cells #[vs, vw, vb, .int .i64 D.ops] 39 (0, 0))
  s : w.ownsRow 0 9 1 vs D.kept.length (D.kept.map sv)
  u : w.ownsRow 0 3 1 vw D.uns.length (D.uns.map atv)
  b : w.ownsRow 0 9 1 vb D.uns.length (D.uns.map fun x => sv x.2)
  rs : vs.ownBlock ≠ some r
  ru : vw.ownBlock ≠ some r
  rb : vb.ownBlock ≠ some r
  su : ∀ k, vs.ownBlock = some k → vw.ownBlock ≠ some k
  sb : ∀ k, vs.ownBlock = some k → vb.ownBlock ≠ some k
  ub : ∀ k, vw.ownBlock = some k → vb.ownBlock ≠ some k

theorem row_form {w : World} {base e size n : Nat} {v : Value} {xs : List Value} (h : w.ownsRow base e size v n xs) : ∃ p cap, v = .slice p n cap ∧ (0 < n → ∃ g, p = some ⟨g, 0, none⟩ ∧ ∀ i u, xs[i]? = some u → w.cell? ⟨g, i, none⟩ = some u) := by
  rcases h.2 with ⟨h1, h2⟩ | ⟨g, cap, cur, hv, _⟩
  · exact ⟨none, 0, by rw [h1, h2], fun hn => by omega⟩
  · refine ⟨_, cap, hv, fun _ => ⟨g, rfl, fun i u hi => ?_⟩⟩
    have hc := h.cells (g := g) (by rw [hv]; rfl) i u hi
    rwa [Addr.add_mid, Nat.zero_add] at hc

section
variable {w : World} {r : Nat} {vs vw vb : Value} {D : Dk} (h : RefAt w r vs vw vb D)
include h
theorem RefAt.c0 : w.cell? ⟨r, 0, none⟩ = some vs := by simp [World.cell?, h.box]
theorem RefAt.c1 : w.cell? ⟨r, 1, none⟩ = some vw := by simp [World.cell?, h.box]
theorem RefAt.c2 : w.cell? ⟨r, 2, none⟩ = some vb := by simp [World.cell?, h.box]
theorem RefAt.c3 : w.cell? ⟨r, 3, none⟩ = some (.int .i64 D.ops) := by simp [World.cell?, h.box]
theorem RefAt.fz (o : Nat) : w.frozen? ⟨r, o, none⟩ = false := by simp [World.frozen?, h.box]
end

/-- The answer of a read. -/
def readR (D : Dk) (x : Int) : Value := if 0 ≤ x ∧ x < D.kept.length then .tuple #[sv (D.seen.getD x.toNat []), .int .i64 0] else .tuple #[.string ⟨#[]⟩, .int .i64 10]

set_option maxRecDepth 10000 in
set_option maxHeartbeats 1000000 in
theorem rread_out {w : World} {r : Nat} {vs vw vb : Value} {D : Dk} (h : RefAt w r vs vw vb D) (x : Int) (hx : x < 0 ∨ (0 ≤ x ∧ (D.kept.length : Int) ≤ x)) :
    Calls Try.prog 22 #[.pointer (some ⟨r, 0, none⟩), .int .i64 x] w fun e w' => e = .returned (.tuple #[.string ⟨#[]⟩, .int .i64 10]) ∧ w = w' := by
  obtain ⟨p, cap, rfl, -⟩ := row_form h.s
  have hc := h.c0
  clear h
  go_enter Try.func22, Try.ntmps22
  rcases hx with hx | ⟨h0, hx⟩
  · go_wp2
    go_ret2
    exact ⟨rfl, rfl⟩
  · go_wp2
    go_ret2
    exact ⟨rfl, rfl⟩

set_option maxRecDepth 10000 in
set_option maxHeartbeats 1000000 in
theorem rread_in {w : World} {r : Nat} {vs vw vb : Value} {D : Dk} (h : RefAt w r vs vw vb D) (hi : D.Inv) (k : Nat) (hk : k < D.kept.length) (hm : Veil (D.uns.length ≤ 1000000)) (R : Value) (hR : Veil (sv (D.seen.getD k []) = R)) :
    Calls Try.prog 22 #[.pointer (some ⟨r, 0, none⟩), .int .i64 k] w fun e w' => e = .returned (.tuple #[R, .int .i64 0]) ∧ w = w' := by
  obtain ⟨ps, cs, rfl, hs⟩ := row_form h.s
  obtain ⟨pw, cw, rfl, hw⟩ := row_form h.u
  obtain ⟨pb, cb, rfl, hb⟩ := row_form h.b
  have c0 := h.c0
  have c1 := h.c1
  have c2 := h.c2
  obtain ⟨gs, rfl, hs'⟩ := hs (by omega)
  have ck : w.cell? ⟨gs, k, none⟩ = some (sv D.kept[k]) := hs' k _ (by simp [hk])
  have hw1 : wrap64 ((D.uns.length : Int) - 1) = (D.uns.length : Int) - 1 := by have := hm.out; unfold wrap64; omega
  have HI : Veil _ := ⟨hi⟩
  have HW : Veil _ := ⟨hw⟩
  have HB : Veil _ := ⟨hb⟩
  clear h hi hw hb hs hs'
  go_enter Try.func22, Try.ntmps22
  go_wp2
  go_loop [6] (fun i => ∃ j : Nat, j ≤ D.uns.length ∧ i = .int .i64 ((j : Int) - 1) ∧ Veil (∀ (m : Nat) (y : Nat × List UInt8), j ≤ m → D.uns[m]? = some y → y.1 ≠ k)) (fun i => (intOf i + 1).toNat)
  case atStart => exact ⟨D.uns.length, Nat.le_refl _, by rw [hw1], ⟨fun m y hm hy => by rw [List.getElem?_eq_none hm] at hy; cases hy⟩⟩
  case round =>
    obtain ⟨j, hj, rfl, hn⟩ := hrel
    cases j with
    | zero =>
      have hz : D.seen.getD k [] = D.kept[k] := by
        have := seen_kept HI.out k (fun m y hy => hn.out m y (Nat.zero_le _) hy)
        simp [List.getD, this, hk]
      have HZ : Veil _ := ⟨hz⟩
      clear hz
      go_wp2
      go_ret2
      exact ⟨by rw [← hR.out, HZ.out]; rfl, rfl⟩
    | succ j =>
      have hlt : j < D.uns.length := by omega
      obtain ⟨gw, rfl, hw⟩ := HW.out (by omega)
      obtain ⟨gb, rfl, hb⟩ := HB.out (by omega)
      have cwj : w.cell? ⟨gw, j, none⟩ = some (.int .i64 (D.uns[j].1 : Nat)) := hw j _ (by simp [hlt, atv])
      have cbj : w.cell? ⟨gb, j, none⟩ = some (.string ⟨D.uns[j].2.toArray⟩) := hb j _ (by simp [hlt, sv])
      have hj1 : (((j + 1 : Nat) : Int) - 1) = (j : Int) := by omega
      rw [hj1]
      clear hw hb
      by_cases he : D.uns[j].1 = k
      · have hz : D.seen.getD k [] = D.uns[j].2 := by
          have := seen_last HI.out (k := j) (x := D.uns[j]) (List.getElem?_eq_getElem hlt) (fun m y hm hy => by rw [he]; exact hn.out m y (by omega) hy)
          rw [he] at this
          simp [List.getD, this]
        have HZ : Veil _ := ⟨hz⟩
        rw [he] at cwj
        clear hz he
        go_wp2
        go_ret2
        exact ⟨by rw [← hR.out, HZ.out]; rfl, rfl⟩
      · have hne : ((D.uns[j].1 : Nat) : Int) ≠ (k : Int) := by omega
        have hw2 : wrap64 ((j : Int) - 1) = (j : Int) - 1 := by have := hm.out; unfold wrap64; omega
        have HE : Veil _ := ⟨he⟩
        clear he
        go_wp2
        have hn2 : Veil (∀ (m : Nat) (y : Nat × List UInt8), j ≤ m → D.uns[m]? = some y → y.1 ≠ k) := ⟨fun m y hm' hy => by
          by_cases hmj : m = j
          · subst hmj
            rw [List.getElem?_eq_getElem hlt] at hy
            cases hy
            exact HE.out
          · exact hn.out m y (by omega) hy⟩
        refine ⟨⟨j, by omega, by first | rfl | rw [hw2], hn2⟩, ?_⟩
        simp [intOf]
        omega

theorem rread_any {w : World} {r : Nat} {vs vw vb : Value} {D : Dk} (h : RefAt w r vs vw vb D) (hi : D.Inv) (x : Int) (hm : D.uns.length ≤ 1000000) :
    Calls Try.prog 22 #[.pointer (some ⟨r, 0, none⟩), .int .i64 x] w fun e w' => e = .returned (readR D x) ∧ w = w' := by
  unfold readR
  by_cases hx : 0 ≤ x ∧ x < D.kept.length
  · rw [if_pos hx]
    have := rread_in h hi x.toNat (by omega) ⟨hm⟩ _ ⟨rfl⟩
    rwa [show ((x.toNat : Nat) : Int) = x by omega] at this
  · rw [if_neg hx]
    exact rread_out h x (by omega)
end Go.Proofs.Ytghpcjkjhbafnaa
