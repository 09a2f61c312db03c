/- Plain facts on memory: which blocks have turned; blocks that are known whole, rows of one length in them. -/
import Derived.WalkKit
import Derived.WalkSpells
import Derived.WalkLawsBesides
import Derived.Lib.Hide
import Derived.Deep.MidRow
import Derived.Laws.CopyOwn
import Derived.Laws.BytesArg
import Derived.Lib.LazyBuf
import Derived.Deep.AppendLies
namespace Go.Proofs.YtokbmimbbeedcaaGreatDoor
open Go.RowKit

/-- Of what was there only the blocks of F have turned. -/
structure Turned (F : Nat → Prop) (w w' : World) : Prop where
  os : w'.os = w.os
  tape : w'.tape = w.tape
  output : w'.output = w.output
  size : w.heap.size ≤ w'.heap.size
  block : ∀ k, k < w.heap.size → ¬ F k → w'.heap[k]? = w.heap[k]?

section
variable {F G : Nat → Prop} {w w' w'' : World}
theorem Turned.refl (F : Nat → Prop) (w : World) : Turned F w w := ⟨rfl, rfl, rfl, Nat.le_refl _, fun _ _ _ => rfl⟩
theorem Turned.trans (h : Turned F w w') (k : Turned F w' w'') : Turned F w w'' :=
  ⟨k.os.trans h.os, k.tape.trans h.tape, k.output.trans h.output, Nat.le_trans h.size k.size, fun i hi hf => (k.block i (Nat.lt_of_lt_of_le hi h.size) hf).trans (h.block i hi hf)⟩
/-- More may turn. What is new may be in G. -/
theorem Turned.wider (h : Turned G w w') (hG : ∀ k, k < w.heap.size → G k → F k) : Turned F w w' :=
  ⟨h.os, h.tape, h.output, h.size, fun i hi hf => h.block i hi fun hg => hf (hG i hi hg)⟩
theorem Turned.then (h : Turned F w w') (k : Turned G w' w'') (hG : ∀ k, k < w.heap.size → G k → F k) : Turned F w w'' :=
  ⟨k.os.trans h.os, k.tape.trans h.tape, k.output.trans h.output, Nat.le_trans h.size k.size, fun i hi hf => (k.block i (Nat.lt_of_lt_of_le hi h.size) (fun hg => hf (hG i hi hg))).trans (h.block i hi hf)⟩
theorem Turned.drew (h : Turned F w w') : Turned F w w'.drew := ⟨h.os, h.tape, h.output, h.size, h.block⟩
theorem Turned.drewN (h : Turned F w w') (n : Nat) : Turned F w (w'.drewN n) := ⟨h.os, h.tape, h.output, h.size, h.block⟩
theorem Turned.alloc (h : Turned F w w') (o : Obj) : Turned F w (w'.alloc o) :=
  h.trans ⟨rfl, rfl, rfl, by simp, fun k hk _ => Below.heap_alloc _ _ _ hk⟩
theorem Turned.setCell (h : Turned F w w') {p : Addr} (hp : F p.block) (u : Value) : Turned F w (w'.setCell p u) :=
  h.trans ⟨rfl, rfl, rfl, by simp [World.setCell], fun k _ hf => Below.heap_setCell _ _ _ _ (fun e => hf (e ▸ hp))⟩
/-- Into a new block. -/
theorem Turned.setNew (h : Turned F w w') {p : Addr} (hp : w.heap.size ≤ p.block) (u : Value) : Turned F w (w'.setCell p u) :=
  h.then (G := fun k => k = p.block) ⟨rfl, rfl, rfl, by simp [World.setCell], fun k _ hf => Below.heap_setCell _ _ _ _ hf⟩ (fun k hk e => by omega)
theorem Turned.below {B : Nat} (h : Below B w w') (hB : ∀ k, k < w.heap.size → B ≤ k → F k) : Turned F w w' :=
  ⟨h.os, h.tape, h.output, h.size, fun k hk hf => h.block k (Nat.lt_of_not_le fun hb => hf (hB k hk hb))⟩
theorem Turned.new (h : Below w.heap.size w w') : Turned F w w' := Turned.below h fun k hk hb => absurd hk (by omega)
theorem Turned.grown {r : Option Nat} (h : w.grownBy w' r) (hr : ∀ k, r = some k → k < w.heap.size → F k) : Turned F w w' :=
  ⟨h.os, h.tape, h.output, h.size, fun k hk hf => h.block k hk fun e => hf (hr k e.symm hk)⟩
theorem Turned.toBelow {B : Nat} (h : Turned F w w') (hB : B ≤ w.heap.size) (hF : ∀ k, k < w.heap.size → F k → B ≤ k) : Below B w w' :=
  ⟨h.os, h.tape, h.output, h.size, fun k hk => h.block k (by omega) fun hf => by have := hF k (by omega) hf; omega⟩
theorem Turned.cell (h : Turned F w w') {p : Addr} {x : Value} (hx : w.cell? p = some x) (hp : ¬ F p.block) : w'.cell? p = some x := by
  rw [World.cell?_of_block (h.block p.block (World.block_lt_of_cell? w p hx) hp)]; exact hx
theorem Turned.heap (h : Turned F w w') {k : Nat} {o : Obj} (hx : w.heap[k]? = some o) (hp : ¬ F k) : w'.heap[k]? = some o := by
  rw [h.block k (Array.getElem?_eq_some_iff.1 hx).1 hp]; exact hx
theorem Turned.ownsRow (h : Turned F w w') {base e size n : Nat} {v : Value} {xs : List Value} (hr : w.ownsRow base e size v n xs) (hp : ∀ k, v.ownBlock = some k → ¬ F k) : w'.ownsRow base e size v n xs := by
  obtain ⟨h1, h2⟩ := hr
  refine ⟨h1, ?_⟩
  rcases h2 with h2 | ⟨g, cap, cur, hv, hg, hh, r⟩
  · exact Or.inl h2
  · exact Or.inr ⟨g, cap, cur, hv, hg, h.heap hh (hp g (by rw [hv]; rfl)), r⟩
end

theorem lt_of_heap {w : World} {k : Nat} {o : Obj} (h : w.heap[k]? = some o) : k < w.heap.size := (Array.getElem?_eq_some_iff.1 h).1

theorem below_al {w x : World} (h : Below w.heap.size w x) (o : Obj) : Below w.heap.size w (x.alloc o) := h.alloc h.size o
theorem heap_alloc_if (w : World) (o : Obj) (k : Nat) : (w.alloc o).heap[k]? = if k = w.heap.size then some o else w.heap[k]? := by
  show (w.heap.push o)[k]? = _
  rw [Array.getElem?_push]

theorem heap_setCell_at {w : World} {b : Nat} {cur : Array Value} {t : TypeId} {fr : Nat × Nat} (h : w.heap[b]? = some (.cells cur t fr)) (o : Nat) (v : Value) : (w.setCell ⟨b, o, none⟩ v).heap[b]? = some (.cells (cur.setIfInBounds o v) t fr) := by
  simp [World.setCell, Array.getElem?_modify, h]

/-! ### Stores of many cells -/
theorem size_setCells (b : Nat) : ∀ (vs : List Value) (o : Nat) (w : World), (w.setCells b o vs).heap.size = w.heap.size
  | [], _, _ => rfl
  | v :: r, o, w => by rw [World.setCells, size_setCells b r]; simp
theorem tape_setCells (b : Nat) : ∀ (vs : List Value) (o : Nat) (w : World), (w.setCells b o vs).tape = w.tape
  | [], _, _ => rfl
  | v :: r, o, w => by rw [World.setCells, tape_setCells b r]; rfl
theorem heap_setCells_ne (b : Nat) : ∀ (vs : List Value) (o : Nat) (w : World) (k : Nat), k ≠ b → (w.setCells b o vs).heap[k]? = w.heap[k]?
  | [], _, _, _, _ => rfl
  | v :: r, o, w, k, h => by rw [World.setCells, heap_setCells_ne b r _ _ k h]; exact Below.heap_setCell _ _ _ _ h
theorem Turned.setCells {F : Nat → Prop} {w w' : World} (h : Turned F w w') {b : Nat} (o : Nat) (vs : List Value) (hb : F b) : Turned F w (w'.setCells b o vs) := by
  have hk := World.keptBut_setCells b (may := fun _ => True) vs o w' (fun _ _ => trivial)
  exact h.trans ⟨hk.1, tape_setCells b vs o w', hk.2.1, Nat.le_of_eq (size_setCells b vs o w').symm, fun k _ hf => heap_setCells_ne b vs o w' k (fun e => hf (e ▸ hb))⟩

theorem splice_nil {α : Type} (L : List α) (o : Nat) : splice L o [] = L := by simp [splice]
theorem splice_all {α : Type} (L cs : List α) (h : cs.length = L.length) : splice L 0 cs = cs := by simp [splice, h]
theorem splice_cons {α : Type} (L : List α) (o : Nat) (x : α) (r : List α) (h : o + (r.length + 1) ≤ L.length) : splice (L.set o x) (o + 1) r = splice L o (x :: r) := by
  unfold splice
  apply List.ext_getElem?
  intro i
  simp only [List.getElem?_append, List.length_take, List.length_set, List.getElem?_take, List.getElem?_drop, List.getElem?_set, List.length_cons, List.getElem?_cons]
  have e1 : min (o + 1) L.length = o + 1 := by omega
  have e2 : min o L.length = o := by omega
  rw [e1, e2]
  by_cases h1 : i < o
  · simp [show i < o + 1 by omega, h1, show ¬ o = i by omega]
  · by_cases h2 : i = o
    · subst h2
      simp [show i < L.length by omega]
    · have h3 : ¬ i < o + 1 := by omega
      by_cases h4 : i - o < r.length + 1
      · have h5 : i - (o + 1) < r.length := by omega
        simp [h1, h3, h4, h5, show ¬ i - o = 0 by omega]
        rw [List.getElem?_eq_getElem (by omega)]
        congr 2
      · have h5 : ¬ i - (o + 1) < r.length := by omega
        simp only [h1, h3, h4, h5, if_false]
        rw [if_neg (by omega)]
        congr 1
        omega
theorem heap_setCells_same (b : Nat) (t : TypeId) (fr : Nat × Nat) : ∀ (vs : List Value) (o : Nat) (w : World) (cur : List Value), w.heap[b]? = some (.cells cur.toArray t fr) → o + vs.length ≤ cur.length →
    (w.setCells b o vs).heap[b]? = some (.cells (splice cur o vs).toArray t fr)
  | [], o, w, cur, h, _ => by rw [splice_nil]; exact h
  | v :: r, o, w, cur, h, hl => by
    rw [World.setCells, ← splice_cons cur o v r (by simpa using hl)]
    refine heap_setCells_same b t fr r (o + 1) _ (cur.set o v) ?_ (by simp at hl ⊢; omega)
    simp [World.setCell, Array.getElem?_modify, h]

/-! ### A block known whole -/
theorem rangeAt_whole {w : World} {b : Nat} {cur : List Value} {t : TypeId} {fr : Nat × Nat} (h : w.heap[b]? = some (.cells cur.toArray t fr)) (o n : Nat) : w.rangeAt b o ((cur.drop o).take n) := fun j v hj => by
  rw [cell_of_row w b (o + j) _ t fr h]
  simp only [List.getElem?_take, List.getElem?_drop] at hj
  split at hj
  · simpa using hj
  · cases hj
theorem cell_whole {w : World} {b : Nat} {cur : List Value} {t : TypeId} {fr : Nat × Nat} (h : w.heap[b]? = some (.cells cur.toArray t fr)) (o : Nat) : w.cell? ⟨b, o, none⟩ = cur[o]? := by
  rw [cell_of_row w b o _ t fr h]; simp
theorem news_whole {w : World} {b : Nat} {cur : List Value} {t : TypeId} {fr : Nat × Nat} (h : w.heap[b]? = some (.cells cur.toArray t fr)) : ∀ j u, cur[j]? = some u → w.cell? ((⟨b, 0, none⟩ : Addr).add j) = some u := fun j u hu => by
  rw [Addr.add_mid, Nat.zero_add, cell_whole h]; exact hu
theorem frozen_whole {w : World} {b : Nat} {cur : Array Value} {t : TypeId} (h : w.heap[b]? = some (.cells cur t (0, 0))) (o : Nat) : w.frozen? ⟨b, o, none⟩ = false := by simp [World.frozen?, h]
/-! ### copy, told exactly: the one block that it writes -/
theorem turned_setRow {F : Nat → Prop} {w0 w : World} (h : Turned F w0 w) {g : Nat} (hF : F g) (cs : Array Value) : Turned F w0 (w.setRow g cs) :=
  h.trans ⟨rfl, rfl, rfl, by simp [World.setRow], fun k _ hf => setRow_other w g k cs (fun e => hf (e ▸ hF))⟩
theorem wpList_copy_at {P : Program} {w : World} {ops : Array Oper} {rest : List Oper} {o : Oper} {a : Act} {Q : Exit → Act → World → Prop} (hgd : o.guard = none) (d s : Operand) (dT sT : TypeId)
    (ho : o.op = .call { callee := .builtin .copy, args := #[d, s], argTypes := #[dT, sT] }) (elem : TypeId) (hu : P.underlying dT = some (.slice elem)) (hsz : (P.info? elem).map (·.size) = some 1)
    (dp sp : Option Addr) (dLen dCap sLen sCap : Nat) (hd : a.eval d = .slice dp dLen dCap) (hs : a.eval s = .slice sp sLen sCap)
    (g off : Nat) (cur : List Value) (t : TypeId) (hg : w.heap[g]? = some (.cells cur.toArray t (0, 0))) (cs : List Value) (hn : cs.length = Nat.min sLen dLen)
    (hpos : 0 < cs.length → dp = some ⟨g, off, none⟩ ∧ ∃ ad, sp = some ad ∧ ∀ j v, cs[j]? = some v → w.cell? (ad.add j) = some v)
    (hfit : off + cs.length ≤ cur.length) (h1 : ∀ v ∈ cs, v.oneCell' = true)
    (h : ∀ w', Hid (w'.heap[g]? = some (.cells (splice cur off cs).toArray t (0, 0))) → Turned (· = g) w w' → wpList P ops Q rest (a.put o.dst (goInt cs.length)) w') :
    wpList P ops Q (o :: rest) a w := by
  by_cases h0 : cs.length = 0
  · obtain rfl : cs = [] := List.eq_nil_of_length_eq_zero h0
    refine wpList_copy_nothing hgd d s dT sT ho elem hu hsz dp sp dLen dCap sLen sCap hd hs (by simpa using hn.symm) ?_
    exact h w (show _ = _ by simpa [splice] using hg) (Turned.refl _ _)
  · obtain ⟨rfl, ad, rfl, hsrc⟩ := hpos (by omega)
    refine wpList_copy_own hgd d s dT sT ho elem hu hsz g off dLen dCap ad sLen sCap hd hs cur.toArray t hg cs hn hsrc (by simpa using hfit) h1 ?_
    exact h _ (show _ = _ by simpa [splice] using setRow_heap w g _ _ t _ hg) (turned_setRow (F := (· = g)) (Turned.refl _ _) rfl _)

/-! ### Bytes -/
/-- A byte's cell. -/
def u8v (b : UInt8) : Value := .int .u8 b.toNat
def u8s (l : List UInt8) : List Value := l.map u8v
theorem length_u8s (l : List UInt8) : (u8s l).length = l.length := by simp [u8s]
/-- string(b) of a slice that reads as bytes. -/
theorem run_convert_u8s {P : Program} (w : World) (src dst e : TypeId) (hs : P.underlying src = some (.slice e)) (he : P.underlying e = some (.int .u8)) (hd : P.underlying dst = some .string) (b off cap : Nat) (s : List UInt8) (hr : w.rangeAt b off (u8s s)) :
    (convert src dst (.slice (some ⟨b, off, none⟩) s.length cap)).run P w = .ok (.string ⟨s.toArray⟩) w := by
  have h := run_convert_bytes_arg (P := P) w src e hs he b off s.length cap (s.map fun x => (x.toNat : Int)) (by simp) (fun i hi => by
    rw [hr i (u8v s[i]) (by simp [u8s, hi])]
    simp [u8v, List.getD, hi]) dst hd
  rw [h]
  simp [strOfNums, Function.comp_def]

/-! ### A slice literal of one great element -/
/-! ### Operations on great values, told by blocks -/
section
variable {P : Program} {w : World} {ops : Array Oper} {rest : List Oper} {o : Oper} {a : Act} {Q : Exit → Act → World → Prop}
end

/-! ### Rows of one length -/
section
variable {α : Type} {z : Nat} {ls : List (List α)}
end
end Go.Proofs.YtokbmimbbeedcaaGreatDoor

/- Plain facts on spares: which lists rise, what is taken, what is given. -/
namespace Go.Proofs.YtokbmimbbeedcaaGreatDoor

/-- A spare: its page, its transaction. -/
structure Sp where
  page : Nat
  tx : Nat
def Sp.zero : Sp := ⟨0, 0⟩
structure Sp.Ok (s : Sp) : Prop where
  page : s.page < 4294967296
  tx : s.tx < 18446744073709551616

/-- Spares of pages from 'least' on, below high, that rise. -/
def rising (high : Nat) : Nat → List Sp → Bool
  | _, [] => true
  | least, s :: r => (decide (least ≤ s.page) && (decide (s.page < high) && decide (1 ≤ s.tx))) && rising high (s.page + 1) r
theorem rising_cons (high least : Nat) (s : Sp) (r : List Sp) : rising high least (s :: r) = true ↔ (least ≤ s.page ∧ s.page < high ∧ 1 ≤ s.tx) ∧ rising high (s.page + 1) r = true := by simp [rising, and_assoc]
theorem rising_ge {high : Nat} : ∀ {L : List Sp} {least : Nat}, rising high least L = true → ∀ s ∈ L, least ≤ s.page ∧ s.page < high ∧ 1 ≤ s.tx
  | [], _, _, _, h => by cases h
  | a :: r, least, h, s, hs => by
    obtain ⟨⟨h1, h2, h3⟩, hr⟩ := (rising_cons _ _ _ _).1 h
    rcases List.mem_cons.1 hs with rfl | hs
    · exact ⟨h1, h2, h3⟩
    · obtain ⟨k1, k2, k3⟩ := rising_ge hr s hs
      exact ⟨by omega, k2, k3⟩
/-! ### The first that is told -/
/-- How many stand ahead of the first one that f tells. -/
def firstAt (f : Sp → Bool) : List Sp → Nat
  | [] => 0
  | s :: r => if f s then 0 else firstAt f r + 1
theorem firstAt_le (f : Sp → Bool) : ∀ L, firstAt f L ≤ L.length
  | [] => Nat.le_refl _
  | s :: r => by
    have := firstAt_le f r
    unfold firstAt
    split <;> simp <;> omega
theorem firstAt_true (f : Sp → Bool) : ∀ L, firstAt f L < L.length → f (L.getD (firstAt f L) Sp.zero) = true
  | [], h => by simp [firstAt] at h
  | s :: r, h => by
    unfold firstAt at h ⊢
    by_cases hf : f s = true
    · simp [hf]
    · rw [if_neg hf] at h ⊢
      simpa using firstAt_true f r (by simpa using h)
theorem firstAt_false (f : Sp → Bool) : ∀ L i, i < firstAt f L → f (L.getD i Sp.zero) = false
  | [], i, h => by simp [firstAt] at h
  | s :: r, i, h => by
    unfold firstAt at h
    by_cases hf : f s = true
    · rw [if_pos hf] at h; omega
    · rw [if_neg hf] at h
      cases i with
      | zero => simpa using hf
      | succ i => simpa using firstAt_false f r i (by omega)
theorem firstAt_of {f : Sp → Bool} {L : List Sp} {k : Nat} (hk : k < L.length) (ht : f (L.getD k Sp.zero) = true) (hf : ∀ i, i < k → f (L.getD i Sp.zero) = false) : firstAt f L = k := by
  rcases Nat.lt_trichotomy (firstAt f L) k with h | h | h
  · have := firstAt_true f L (by omega)
    rw [hf _ h] at this
    cases this
  · exact h
  · have := firstAt_false f L k h
    rw [ht] at this
    cases this
theorem firstAt_none {f : Sp → Bool} {L : List Sp} (hf : ∀ i, i < L.length → f (L.getD i Sp.zero) = false) : firstAt f L = L.length := by
  rcases Nat.lt_or_eq_of_le (firstAt_le f L) with h | h
  · have := firstAt_true f L h
    rw [hf _ h] at this
    cases this
  · exact h

/-! ### A spare in its place -/
def ahead (page : Nat) : Sp → Bool := fun s => decide (page ≤ s.page)
def old (oldest : Nat) : Sp → Bool := fun s => decide (s.tx ≤ oldest)
def insS (x : Sp) : List Sp → List Sp
  | [] => [x]
  | s :: r => if x.page ≤ s.page then x :: s :: r else s :: insS x r
theorem insS_eq (x : Sp) : ∀ L, insS x L = L.take (firstAt (ahead x.page) L) ++ ([x] ++ L.drop (firstAt (ahead x.page) L))
  | [] => rfl
  | s :: r => by
    unfold insS firstAt
    by_cases h : x.page ≤ s.page
    · simp [ahead, h]
    · have ih := insS_eq x r
      simp [ahead, h] at ih ⊢
      exact ih
theorem insS_length (x : Sp) (L : List Sp) : (insS x L).length = L.length + 1 := by
  have := firstAt_le (ahead x.page) L
  rw [insS_eq]
  simp only [List.length_append, List.length_take, List.length_drop, List.length_cons, List.length_nil]
  omega
theorem rising_ins (high : Nat) (x : Sp) : ∀ (L : List Sp) (least : Nat), rising high least (insS x L) = true ↔ rising high least L = true ∧ (least ≤ x.page ∧ x.page < high ∧ 1 ≤ x.tx) ∧ ∀ s ∈ L, s.page ≠ x.page
  | [], least => by simp [insS, rising]
  | s :: r, least => by
    unfold insS
    by_cases h : x.page ≤ s.page
    · rw [if_pos h, rising_cons, rising_cons, rising_cons]
      constructor
      · rintro ⟨hx, ⟨h1, h2, h3⟩, hr⟩
        refine ⟨⟨⟨by omega, h2, h3⟩, hr⟩, hx, fun t ht => ?_⟩
        rcases List.mem_cons.1 ht with rfl | ht
        · omega
        · have := rising_ge hr t ht
          omega
      · rintro ⟨⟨⟨h1, h2, h3⟩, hr⟩, hx, hn⟩
        have := hn s List.mem_cons_self
        exact ⟨hx, ⟨by omega, h2, h3⟩, hr⟩
    · rw [if_neg h, rising_cons, rising_cons, rising_ins high x r]
      constructor
      · rintro ⟨⟨h1, h2, h3⟩, hr, hx, hn⟩
        refine ⟨⟨⟨h1, h2, h3⟩, hr⟩, ⟨by omega, hx.2⟩, fun t ht => ?_⟩
        rcases List.mem_cons.1 ht with rfl | ht
        · omega
        · exact hn t ht
      · rintro ⟨⟨⟨h1, h2, h3⟩, hr⟩, hx, hn⟩
        have := hn s List.mem_cons_self
        exact ⟨⟨h1, h2, h3⟩, hr, ⟨by omega, hx.2⟩, fun t ht => hn t (List.mem_cons_of_mem _ ht)⟩

/-! ### Allocs -/
/-- What an alloc says. -/
structure Al where
  high : Nat
  most : Nat
  l : List Sp
def Al.zero : Al := ⟨0, 0, []⟩
structure Al.Ok (a : Al) : Prop where
  high : a.high < 4294967296
  most : a.most < 4294967296
  l : ∀ s ∈ a.l, s.Ok
  few : a.l.length ≤ 100000
def Al.right (a : Al) : Bool := decide (2 ≤ a.high ∧ a.high ≤ a.most ∧ a.most ≤ 16384 ∧ a.l.length ≤ 4096) && rising a.high 2 a.l
theorem Al.right_iff (a : Al) : a.right = true ↔ (2 ≤ a.high ∧ a.high ≤ a.most ∧ a.most ≤ 16384 ∧ a.l.length ≤ 4096) ∧ rising a.high 2 a.l = true := by simp [Al.right]

/-- What is taken: the alloc then, the page, the error. -/
structure Tk where
  a : Al
  page : Nat
  err : Int
def Al.take (a : Al) (oldest : Nat) : Tk :=
  if a.right = true then
    (if firstAt (old oldest) a.l < a.l.length then ⟨⟨a.high, a.most, a.l.eraseIdx (firstAt (old oldest) a.l)⟩, (a.l.getD (firstAt (old oldest) a.l) Sp.zero).page, 0⟩
     else if a.high = a.most then ⟨a, 0, 51⟩ else ⟨⟨a.high + 1, a.most, a.l⟩, a.high, 0⟩)
  else ⟨Al.zero, 0, 50⟩
/-- What given comes to. -/
def Al.given (a : Al) (page tx : Nat) : Bool := a.right && (decide (2 ≤ page ∧ page < a.high ∧ 1 ≤ tx ∧ a.l.length < 4096) && a.l.all fun s => decide (s.page ≠ page))
theorem Al.given_iff (a : Al) (page tx : Nat) : a.given page tx = true ↔ a.right = true ∧ (2 ≤ page ∧ page < a.high ∧ 1 ≤ tx ∧ a.l.length < 4096) ∧ ∀ s ∈ a.l, s.page ≠ page := by simp [Al.given]
def Al.give (a : Al) (page tx : Nat) : Al × Int := if a.given page tx = true then (⟨a.high, a.most, insS ⟨page, tx⟩ a.l⟩, 0) else (Al.zero, 50)
/-- What the program asks: is what comes of it right? -/
theorem Al.given_right (a : Al) (page tx : Nat) : (Al.right ⟨a.high, a.most, insS ⟨page, tx⟩ a.l⟩) = a.given page tx := by
  rw [Bool.eq_iff_iff, Al.right_iff, Al.given_iff, Al.right_iff, rising_ins, insS_length]
  constructor
  · rintro ⟨⟨h1, h2, h3, h4⟩, h5, ⟨h6, h7, h8⟩, h9⟩
    have h4 : a.l.length + 1 ≤ 4096 := h4
    exact ⟨⟨⟨h1, h2, h3, by omega⟩, h5⟩, ⟨h6, h7, h8, by omega⟩, h9⟩
  · rintro ⟨⟨⟨h1, h2, h3, h4⟩, h5⟩, ⟨h6, h7, h8, h9⟩, h10⟩
    exact ⟨⟨h1, h2, h3, by omega⟩, h5, ⟨h6, h7, h8⟩, h10⟩
theorem insS_ok {x : Sp} (hx : x.Ok) {L : List Sp} (h : ∀ s ∈ L, s.Ok) : ∀ s ∈ insS x L, s.Ok := by
  intro s hs
  rw [insS_eq] at hs
  rcases List.mem_append.1 hs with hs | hs
  · exact h s (List.mem_of_mem_take hs)
  · rcases List.mem_append.1 hs with hs | hs
    · rw [List.mem_singleton.1 hs]; exact hx
    · exact h s (List.mem_of_mem_drop hs)
theorem Al.zero_ok : Al.zero.Ok := ⟨by decide, by decide, fun s h => by simp [Al.zero] at h, by simp [Al.zero]⟩
theorem Al.take_ok {a : Al} (h : a.Ok) (oldest : Nat) : (a.take oldest).a.Ok ∧ (a.take oldest).page < 4294967296 := by
  unfold Al.take
  split
  · rename_i hr
    obtain ⟨⟨h1, h2, h3, h4⟩, h5⟩ := (Al.right_iff a).1 hr
    split
    · rename_i hf
      refine ⟨⟨h.high, h.most, fun s hs => h.l s (List.mem_of_mem_eraseIdx hs), ?_⟩, ?_⟩
      · have := h.few
        show (a.l.eraseIdx _).length ≤ 100000
        rw [List.length_eraseIdx]
        split <;> omega
      · have := h.l (a.l.getD (firstAt (old oldest) a.l) Sp.zero) (by rw [List.getD, List.getElem?_eq_getElem hf]; exact List.getElem_mem ..)
        exact this.page
    · split
      · exact ⟨h, (by decide : 0 < 4294967296)⟩
      · exact ⟨⟨by have := h.most; simp only; omega, h.most, h.l, h.few⟩, h.high⟩
  · exact ⟨Al.zero_ok, (by decide : 0 < 4294967296)⟩
end Go.Proofs.YtokbmimbbeedcaaGreatDoor
