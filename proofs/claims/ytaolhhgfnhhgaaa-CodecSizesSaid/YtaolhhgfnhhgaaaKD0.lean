/- Plain facts on memory: which blocks have turned; blocks that are known whole, rows of one length in them. -/
import Derived.WalkKit
import Derived.WalkSpells
import Derived.WalkLawsBesides
import Derived.Lib.Hide
import Derived.Deep.MidRow
import Derived.Laws.CopyOwn
import Derived.Laws.BytesArg
import Derived.Lib.LazyBuf
import Derived.Deep.AppendLies
namespace Go.Proofs.Ytaolhhgfnhhgaaa
open Go.RowKit

/-- Of what was there only the blocks of F have turned. -/
structure Turned (F : Nat → Prop) (w w' : World) : Prop where
  os : w'.os = w.os
  tape : w'.tape = w.tape
  output : w'.output = w.output
  size : w.heap.size ≤ w'.heap.size
  block : ∀ k, k < w.heap.size → ¬ F k → w'.heap[k]? = w.heap[k]?

section
variable {F G : Nat → Prop} {w w' w'' : World}
theorem Turned.refl (F : Nat → Prop) (w : World) : Turned F w w := ⟨rfl, rfl, rfl, Nat.le_refl _, fun _ _ _ => rfl⟩
theorem Turned.trans (h : Turned F w w') (k : Turned F w' w'') : Turned F w w'' :=
  ⟨k.os.trans h.os, k.tape.trans h.tape, k.output.trans h.output, Nat.le_trans h.size k.size, fun i hi hf => (k.block i (Nat.lt_of_lt_of_le hi h.size) hf).trans (h.block i hi hf)⟩
/-- More may turn. What is new may be in G. -/
theorem Turned.wider (h : Turned G w w') (hG : ∀ k, k < w.heap.size → G k → F k) : Turned F w w' :=
  ⟨h.os, h.tape, h.output, h.size, fun i hi hf => h.block i hi fun hg => hf (hG i hi hg)⟩
theorem Turned.then (h : Turned F w w') (k : Turned G w' w'') (hG : ∀ k, k < w.heap.size → G k → F k) : Turned F w w'' :=
  ⟨k.os.trans h.os, k.tape.trans h.tape, k.output.trans h.output, Nat.le_trans h.size k.size, fun i hi hf => (k.block i (Nat.lt_of_lt_of_le hi h.size) (fun hg => hf (hG i hi hg))).trans (h.block i hi hf)⟩
theorem Turned.drew (h : Turned F w w') : Turned F w w'.drew := ⟨h.os, h.tape, h.output, h.size, h.block⟩
theorem Turned.drewN (h : Turned F w w') (n : Nat) : Turned F w (w'.drewN n) := ⟨h.os, h.tape, h.output, h.size, h.block⟩
theorem Turned.alloc (h : Turned F w w') (o : Obj) : Turned F w (w'.alloc o) :=
  h.trans ⟨rfl, rfl, rfl, by simp, fun k hk _ => Below.heap_alloc _ _ _ hk⟩
theorem Turned.setCell (h : Turned F w w') {p : Addr} (hp : F p.block) (u : Value) : Turned F w (w'.setCell p u) :=
  h.trans ⟨rfl, rfl, rfl, by simp [World.setCell], fun k _ hf => Below.heap_setCell _ _ _ _ (fun e => hf (e ▸ hp))⟩
/-- Into a new block. -/
theorem Turned.setNew (h : Turned F w w') {p : Addr} (hp : w.heap.size ≤ p.block) (u : Value) : Turned F w (w'.setCell p u) :=
  h.then (G := fun k => k = p.block) ⟨rfl, rfl, rfl, by simp [World.setCell], fun k _ hf => Below.heap_setCell _ _ _ _ hf⟩ (fun k hk e => by omega)
theorem Turned.below {B : Nat} (h : Below B w w') (hB : ∀ k, k < w.heap.size → B ≤ k → F k) : Turned F w w' :=
  ⟨h.os, h.tape, h.output, h.size, fun k hk hf => h.block k (Nat.lt_of_not_le fun hb => hf (hB k hk hb))⟩
theorem Turned.new (h : Below w.heap.size w w') : Turned F w w' := Turned.below h fun k hk hb => absurd hk (by omega)
theorem Turned.grown {r : Option Nat} (h : w.grownBy w' r) (hr : ∀ k, r = some k → k < w.heap.size → F k) : Turned F w w' :=
  ⟨h.os, h.tape, h.output, h.size, fun k hk hf => h.block k hk fun e => hf (hr k e.symm hk)⟩
theorem Turned.toBelow {B : Nat} (h : Turned F w w') (hB : B ≤ w.heap.size) (hF : ∀ k, k < w.heap.size → F k → B ≤ k) : Below B w w' :=
  ⟨h.os, h.tape, h.output, h.size, fun k hk => h.block k (by omega) fun hf => by have := hF k (by omega) hf; omega⟩
theorem Turned.cell (h : Turned F w w') {p : Addr} {x : Value} (hx : w.cell? p = some x) (hp : ¬ F p.block) : w'.cell? p = some x := by
  rw [World.cell?_of_block (h.block p.block (World.block_lt_of_cell? w p hx) hp)]; exact hx
theorem Turned.heap (h : Turned F w w') {k : Nat} {o : Obj} (hx : w.heap[k]? = some o) (hp : ¬ F k) : w'.heap[k]? = some o := by
  rw [h.block k (Array.getElem?_eq_some_iff.1 hx).1 hp]; exact hx
theorem Turned.ownsRow (h : Turned F w w') {base e size n : Nat} {v : Value} {xs : List Value} (hr : w.ownsRow base e size v n xs) (hp : ∀ k, v.ownBlock = some k → ¬ F k) : w'.ownsRow base e size v n xs := by
  obtain ⟨h1, h2⟩ := hr
  refine ⟨h1, ?_⟩
  rcases h2 with h2 | ⟨g, cap, cur, hv, hg, hh, r⟩
  · exact Or.inl h2
  · exact Or.inr ⟨g, cap, cur, hv, hg, h.heap hh (hp g (by rw [hv]; rfl)), r⟩
end

theorem ownsRow_cells {w : World} {base e size n : Nat} {v : Value} {xs : List Value} (h : w.ownsRow base e size v n xs) {k : Nat} (hk : v.ownBlock = some k) : ∃ c t fr, w.heap[k]? = some (.cells c t fr) := by
  rcases h.2 with ⟨h1, -⟩ | ⟨g, cap, cur, hv, -, hh, -⟩
  · rw [h1] at hk; simp [Value.ownBlock] at hk
  · rw [hv] at hk; simp [Value.ownBlock] at hk; subst hk; exact ⟨_, _, _, hh⟩
theorem lt_of_heap {w : World} {k : Nat} {o : Obj} (h : w.heap[k]? = some o) : k < w.heap.size := (Array.getElem?_eq_some_iff.1 h).1

theorem below_al {w x : World} (h : Below w.heap.size w x) (o : Obj) : Below w.heap.size w (x.alloc o) := h.alloc h.size o
theorem heap_alloc_if (w : World) (o : Obj) (k : Nat) : (w.alloc o).heap[k]? = if k = w.heap.size then some o else w.heap[k]? := by
  show (w.heap.push o)[k]? = _
  rw [Array.getElem?_push]

theorem heap_setCell_at {w : World} {b : Nat} {cur : Array Value} {t : TypeId} {fr : Nat × Nat} (h : w.heap[b]? = some (.cells cur t fr)) (o : Nat) (v : Value) : (w.setCell ⟨b, o, none⟩ v).heap[b]? = some (.cells (cur.setIfInBounds o v) t fr) := by
  simp [World.setCell, Array.getElem?_modify, h]

/-! ### Stores of many cells -/
theorem size_setCells (b : Nat) : ∀ (vs : List Value) (o : Nat) (w : World), (w.setCells b o vs).heap.size = w.heap.size
  | [], _, _ => rfl
  | v :: r, o, w => by rw [World.setCells, size_setCells b r]; simp
theorem tape_setCells (b : Nat) : ∀ (vs : List Value) (o : Nat) (w : World), (w.setCells b o vs).tape = w.tape
  | [], _, _ => rfl
  | v :: r, o, w => by rw [World.setCells, tape_setCells b r]; rfl
theorem heap_setCells_ne (b : Nat) : ∀ (vs : List Value) (o : Nat) (w : World) (k : Nat), k ≠ b → (w.setCells b o vs).heap[k]? = w.heap[k]?
  | [], _, _, _, _ => rfl
  | v :: r, o, w, k, h => by rw [World.setCells, heap_setCells_ne b r _ _ k h]; exact Below.heap_setCell _ _ _ _ h
theorem Turned.setCells {F : Nat → Prop} {w w' : World} (h : Turned F w w') {b : Nat} (o : Nat) (vs : List Value) (hb : F b) : Turned F w (w'.setCells b o vs) := by
  have hk := World.keptBut_setCells b (may := fun _ => True) vs o w' (fun _ _ => trivial)
  exact h.trans ⟨hk.1, tape_setCells b vs o w', hk.2.1, Nat.le_of_eq (size_setCells b vs o w').symm, fun k _ hf => heap_setCells_ne b vs o w' k (fun e => hf (e ▸ hb))⟩

theorem splice_nil {α : Type} (L : List α) (o : Nat) : splice L o [] = L := by simp [splice]
theorem splice_all {α : Type} (L cs : List α) (h : cs.length = L.length) : splice L 0 cs = cs := by simp [splice, h]
theorem splice_cons {α : Type} (L : List α) (o : Nat) (x : α) (r : List α) (h : o + (r.length + 1) ≤ L.length) : splice (L.set o x) (o + 1) r = splice L o (x :: r) := by
  unfold splice
  apply List.ext_getElem?
  intro i
  simp only [List.getElem?_append, List.length_take, List.length_set, List.getElem?_take, List.getElem?_drop, List.getElem?_set, List.length_cons, List.getElem?_cons]
  have e1 : min (o + 1) L.length = o + 1 := by omega
  have e2 : min o L.length = o := by omega
  rw [e1, e2]
  by_cases h1 : i < o
  · simp [show i < o + 1 by omega, h1, show ¬ o = i by omega]
  · by_cases h2 : i = o
    · subst h2
      simp [show i < L.length by omega]
    · have h3 : ¬ i < o + 1 := by omega
      by_cases h4 : i - o < r.length + 1
      · have h5 : i - (o + 1) < r.length := by omega
        simp [h1, h3, h4, h5, show ¬ i - o = 0 by omega]
        rw [List.getElem?_eq_getElem (by omega)]
        congr 2
      · have h5 : ¬ i - (o + 1) < r.length := by omega
        simp only [h1, h3, h4, h5, if_false]
        rw [if_neg (by omega)]
        congr 1
        omega
theorem heap_setCells_same (b : Nat) (t : TypeId) (fr : Nat × Nat) : ∀ (vs : List Value) (o : Nat) (w : World) (cur : List Value), w.heap[b]? = some (.cells cur.toArray t fr) → o + vs.length ≤ cur.length →
    (w.setCells b o vs).heap[b]? = some (.cells (splice cur o vs).toArray t fr)
  | [], o, w, cur, h, _ => by rw [splice_nil]; exact h
  | v :: r, o, w, cur, h, hl => by
    rw [World.setCells, ← splice_cons cur o v r (by simpa using hl)]
    refine heap_setCells_same b t fr r (o + 1) _ (cur.set o v) ?_ (by simp at hl ⊢; omega)
    simp [World.setCell, Array.getElem?_modify, h]

/-! ### A block known whole -/
theorem rangeAt_whole {w : World} {b : Nat} {cur : List Value} {t : TypeId} {fr : Nat × Nat} (h : w.heap[b]? = some (.cells cur.toArray t fr)) (o n : Nat) : w.rangeAt b o ((cur.drop o).take n) := fun j v hj => by
  rw [cell_of_row w b (o + j) _ t fr h]
  simp only [List.getElem?_take, List.getElem?_drop] at hj
  split at hj
  · simpa using hj
  · cases hj
theorem cell_whole {w : World} {b : Nat} {cur : List Value} {t : TypeId} {fr : Nat × Nat} (h : w.heap[b]? = some (.cells cur.toArray t fr)) (o : Nat) : w.cell? ⟨b, o, none⟩ = cur[o]? := by
  rw [cell_of_row w b o _ t fr h]; simp
theorem news_whole {w : World} {b : Nat} {cur : List Value} {t : TypeId} {fr : Nat × Nat} (h : w.heap[b]? = some (.cells cur.toArray t fr)) : ∀ j u, cur[j]? = some u → w.cell? ((⟨b, 0, none⟩ : Addr).add j) = some u := fun j u hu => by
  rw [Addr.add_mid, Nat.zero_add, cell_whole h]; exact hu
theorem frozen_whole {w : World} {b : Nat} {cur : Array Value} {t : TypeId} (h : w.heap[b]? = some (.cells cur t (0, 0))) (o : Nat) : w.frozen? ⟨b, o, none⟩ = false := by simp [World.frozen?, h]
theorem there_whole {w : World} {b : Nat} {cur : List Value} {t : TypeId} (h : w.heap[b]? = some (.cells cur.toArray t (0, 0))) (o n : Nat) (hl : o + n ≤ cur.length) : w.there b o n := fun j hj => by
  refine ⟨?_, frozen_whole h _⟩
  rw [cell_whole h, List.getElem?_eq_getElem (by omega)]; rfl

/-! ### copy, told exactly: the one block that it writes -/
theorem turned_setRow {F : Nat → Prop} {w0 w : World} (h : Turned F w0 w) {g : Nat} (hF : F g) (cs : Array Value) : Turned F w0 (w.setRow g cs) :=
  h.trans ⟨rfl, rfl, rfl, by simp [World.setRow], fun k _ hf => setRow_other w g k cs (fun e => hf (e ▸ hF))⟩
theorem wpList_copy_at {P : Program} {w : World} {ops : Array Oper} {rest : List Oper} {o : Oper} {a : Act} {Q : Exit → Act → World → Prop} (hgd : o.guard = none) (d s : Operand) (dT sT : TypeId)
    (ho : o.op = .call { callee := .builtin .copy, args := #[d, s], argTypes := #[dT, sT] }) (elem : TypeId) (hu : P.underlying dT = some (.slice elem)) (hsz : (P.info? elem).map (·.size) = some 1)
    (dp sp : Option Addr) (dLen dCap sLen sCap : Nat) (hd : a.eval d = .slice dp dLen dCap) (hs : a.eval s = .slice sp sLen sCap)
    (g off : Nat) (cur : List Value) (t : TypeId) (hg : w.heap[g]? = some (.cells cur.toArray t (0, 0))) (cs : List Value) (hn : cs.length = Nat.min sLen dLen)
    (hpos : 0 < cs.length → dp = some ⟨g, off, none⟩ ∧ ∃ ad, sp = some ad ∧ ∀ j v, cs[j]? = some v → w.cell? (ad.add j) = some v)
    (hfit : off + cs.length ≤ cur.length) (h1 : ∀ v ∈ cs, v.oneCell' = true)
    (h : ∀ w', Hid (w'.heap[g]? = some (.cells (splice cur off cs).toArray t (0, 0))) → Turned (· = g) w w' → wpList P ops Q rest (a.put o.dst (goInt cs.length)) w') :
    wpList P ops Q (o :: rest) a w := by
  by_cases h0 : cs.length = 0
  · obtain rfl : cs = [] := List.eq_nil_of_length_eq_zero h0
    refine wpList_copy_nothing hgd d s dT sT ho elem hu hsz dp sp dLen dCap sLen sCap hd hs (by simpa using hn.symm) ?_
    exact h w (show _ = _ by simpa [splice] using hg) (Turned.refl _ _)
  · obtain ⟨rfl, ad, rfl, hsrc⟩ := hpos (by omega)
    refine wpList_copy_own hgd d s dT sT ho elem hu hsz g off dLen dCap ad sLen sCap hd hs cur.toArray t hg cs hn hsrc (by simpa using hfit) h1 ?_
    exact h _ (show _ = _ by simpa [splice] using setRow_heap w g _ _ t _ hg) (turned_setRow (F := (· = g)) (Turned.refl _ _) rfl _)

/-! ### Bytes -/
/-- A byte's cell. -/
def u8v (b : UInt8) : Value := .int .u8 b.toNat
def u8s (l : List UInt8) : List Value := l.map u8v
theorem length_u8s (l : List UInt8) : (u8s l).length = l.length := by simp [u8s]
theorem oneCell_u8s (l : List UInt8) : ∀ v ∈ u8s l, v.oneCell' = true := fun v hv => by
  obtain ⟨b, _, rfl⟩ := List.mem_map.1 hv
  rfl
/-- string(b) of a slice that reads as bytes. -/
theorem run_convert_u8s {P : Program} (w : World) (src dst e : TypeId) (hs : P.underlying src = some (.slice e)) (he : P.underlying e = some (.int .u8)) (hd : P.underlying dst = some .string) (b off cap : Nat) (s : List UInt8) (hr : w.rangeAt b off (u8s s)) :
    (convert src dst (.slice (some ⟨b, off, none⟩) s.length cap)).run P w = .ok (.string ⟨s.toArray⟩) w := by
  have h := run_convert_bytes_arg (P := P) w src e hs he b off s.length cap (s.map fun x => (x.toNat : Int)) (by simp) (fun i hi => by
    rw [hr i (u8v s[i]) (by simp [u8s, hi])]
    simp [u8v, List.getD, hi]) dst hd
  rw [h]
  simp [strOfNums, Function.comp_def]

/-- copy(dst, s) of a string that fits. -/
theorem wpList_copy_str {P : Program} {w : World} {ops : Array Oper} {rest : List Oper} {o : Oper} {a : Act} {Q : Exit → Act → World → Prop} (hgd : o.guard = none) (d s : Operand) (dT sT : TypeId)
    (ho : o.op = .call { callee := .builtin .copy, args := #[d, s], argTypes := #[dT, sT] }) (elem : TypeId) (hu : P.underlying dT = some (.slice elem)) (hz : ∀ w, (Go.sizeOf elem).run P w = .ok 1 w)
    (g off dLen dCap : Nat) (bs : List UInt8) (hd : a.eval d = .slice (some ⟨g, off, none⟩) dLen dCap) (hs : a.eval s = .string ⟨bs.toArray⟩) (hle : bs.length ≤ dLen)
    (cur : List Value) (t : TypeId) (hg : w.heap[g]? = some (.cells cur.toArray t (0, 0))) (hfit : off + bs.length ≤ cur.length)
    (h : ∀ w', Hid (w'.heap[g]? = some (.cells (splice cur off (u8s bs)).toArray t (0, 0))) → Turned (· = g) w w' → wpList P ops Q rest (a.put o.dst (goInt bs.length)) w') :
    wpList P ops Q (o :: rest) a w := by
  refine wpList_plain hgd fun K hK => ?_
  have ht := there_whole hg off bs.length hfit
  have hrun := run_copy_string (P := P) w dT sT o.type elem g off dLen dCap ⟨bs.toArray⟩ hu hz (by simpa [ByteArray.size] using hle) (fun j hj => (ht j (by simpa [ByteArray.size] using hj)).1) (fun j hj => (ht j (by simpa [ByteArray.size] using hj)).2)
  unfold Oper.wp
  simp [execOp, ho, resolve, invoke, builtin, hd, hs, hrun, Result.andThen]
  refine hK _ _ ?_
  have e : (fun x : UInt8 => Value.int .u8 (x.toNat : Int)) = u8v := rfl
  rw [e]
  have := h _ (heap_setCells_same g t (0, 0) (u8s bs) off w cur hg (by rw [length_u8s]; exact hfit)) ((Turned.refl (· = g) w).setCells off (u8s bs) rfl)
  simpa [ByteArray.size, u8s] using this

/-! ### A slice literal of one great element -/
theorem foldl_sets : ∀ (l : List Value) (k : Nat) (z : Array Value), k + l.length ≤ z.size →
    ∃ r : Array Value, (l.zipIdx k).foldl (fun (cs : Array Value) (x : Value × Nat) => cs.setIfInBounds (0 + x.2) x.1) z = r ∧ r.size = z.size ∧ ∀ i, i < z.size → r[i]? = if k ≤ i ∧ i < k + l.length then l[i - k]? else z[i]?
  | [], k, z, _ => ⟨z, rfl, rfl, fun i _ => by rw [if_neg (by simp)]⟩
  | v :: l, k, z, h => by
    obtain ⟨r, hr, hs, hi⟩ := foldl_sets l (k + 1) (z.setIfInBounds (0 + k) v) (by simp at h ⊢; omega)
    refine ⟨r, by rw [List.zipIdx_cons, List.foldl_cons]; exact hr, by simpa using hs, fun i hlt => ?_⟩
    rw [hi i (by simpa using hlt)]
    by_cases h1 : i = k
    · subst h1
      rw [if_neg (by omega), if_pos (by simp)]
      simp [hlt]
    · by_cases h2 : k + 1 ≤ i ∧ i < k + 1 + l.length
      · rw [if_pos h2, if_pos (by simp; omega), show i - k = (i - (k + 1)) + 1 by omega, List.getElem?_cons_succ]
      · rw [if_neg h2, if_neg (by simp; omega), Array.getElem?_setIfInBounds, if_neg (by omega)]
theorem fill_one (place : Nat → Option (Nat × Nat)) (z cells : Array Value) (hp : place 0 = some (0, cells.size)) (hz : z.size = cells.size) : Instr.fill place z [(0, .agg cells)] = some cells := by
  have h := foldl_sets cells.toList 0 z (by simp [hz])
  obtain ⟨r, hr, hs, hi⟩ := h
  have e : r = cells := by
    apply Array.ext_getElem?
    intro i
    by_cases hlt : i < z.size
    · rw [hi i hlt, if_pos (by simp; omega)]; simp
    · rw [Array.getElem?_eq_none (by omega), Array.getElem?_eq_none (by omega)]
  have e2 : Array.foldl (fun (cs : Array Value) (x : Value × Nat) => cs.setIfInBounds (0 + x.2) x.1) z cells.zipIdx = cells := by
    rw [← Array.foldl_toList, Array.toList_zipIdx, hr, e]
  have n1 : ¬ (z.size < cells.size) := by omega
  simp only [Nat.zero_add] at e2
  simp [Instr.fill, hp, Value.cells, hz]
  simpa using e2
theorem run_buildSlice_one {P : Program} (w : World) (t e : TypeId) (z : Value) (cells : Array Value) (ht : P.underlying t = some (.slice e)) (hsz : (sizeOf e).run P w = .ok cells.size w) (hzv : (zeroValue e).run P w = .ok z w) (hpos : 0 < cells.size) (hle : cells.size ≤ 16777216) (hzs : z.cells.size = cells.size) :
    (Instr.buildSlice t 1 #[(0, .agg cells)]).run P w = .ok (.slice (some ⟨w.heap.size, 0, none⟩) 1 1) (w.alloc (.cells cells e)) := by
  have hf := fill_one (fun i => some (i * cells.size, cells.size)) (Array.map (fun x => z.cells[x % z.cells.size]!) (Array.range (1 * cells.size))) cells (by simp) (by simp)
  have n0 : ¬ (1 * cells.size = 0) := by omega
  have n1 : ¬ (1 * cells.size > 2 ^ 24) := by omega
  simp only [Instr.buildSlice, Sem.run_bind, run_underlying ht, hsz, Result.andThen_ok]
  rw [if_neg n1, if_neg n0]
  simp only [Sem.run_bind, hzv, Sem.run_pure, Result.andThen_ok, hf]
  simp [newRow, Result.andThen]

/-! ### Operations on great values, told by blocks -/
section
variable {P : Program} {w : World} {ops : Array Oper} {rest : List Oper} {o : Oper} {a : Act} {Q : Exit → Act → World → Prop}
theorem wpList_build_at (hgd : o.guard = none) (t : TypeId) (parts : Array (Nat × Operand)) (ho : o.op = .build t parts) (vals : Array (Nat × Value)) (hv : (parts.map fun (i, x) => (i, a.eval x)) = vals)
    (v : Value) (hrun : (Instr.build t vals).run P w = .ok v w) (h : wpList P ops Q rest (a.put o.dst v) w) : wpList P ops Q (o :: rest) a w :=
  wpList_plain hgd fun K hK => by
    subst hv
    unfold Oper.wp execOp
    simp only [ho, Sem.run_bind, Sem.run_pure, hrun, Result.andThen_ok]
    exact hK _ _ h
theorem wpList_buildSlice_at (hgd : o.guard = none) (t : TypeId) (x : Operand) (ho : o.op = .buildSlice t 1 #[(0, x)]) (cells : List Value) (hx : a.eval x = .agg cells.toArray) (e : TypeId) (z : Value) (ht : P.underlying t = some (.slice e)) (hsz : (sizeOf e).run P w = .ok cells.length w) (hzv : (zeroValue e).run P w = .ok z w) (hpos : 0 < cells.length) (hle : cells.length ≤ 16777216) (hzs : z.cells.size = cells.length)
    (h : ∀ w', Hid (w'.heap[w.heap.size]? = some (.cells cells.toArray e (0, 0))) → Turned (fun _ => False) w w' → w'.heap.size = w.heap.size + 1 → wpList P ops Q rest (a.put o.dst (.slice (some ⟨w.heap.size, 0, none⟩) 1 1)) w') : wpList P ops Q (o :: rest) a w :=
  wpList_plain hgd fun K hK => by
    have hrun := run_buildSlice_one (P := P) w t e z cells.toArray ht (by simpa using hsz) hzv (by simpa using hpos) (by simpa using hle) (by simpa using hzs)
    unfold Oper.wp execOp
    simp only [ho, List.map_toArray, List.map_cons, List.map_nil, hx, Sem.run_bind, Sem.run_pure, hrun, Result.andThen_ok]
    exact hK _ _ (h _ (heap_alloc_new w _) ((Turned.refl _ w).alloc _) (by simp))
/-- A new variable, at its zero. -/
theorem wpList_alloc_at (hgd : o.guard = none) (t : TypeId) (ho : o.op = .alloc t) (z : Value) (hz : (zeroValue t).run P w = .ok z w)
    (h : ∀ w', Hid (w'.heap[w.heap.size]? = some (.cells z.cells t (0, 0))) → Turned (fun _ => False) w w' → wpList P ops Q rest (a.put o.dst (.pointer (some ⟨w.heap.size, 0, none⟩))) w') : wpList P ops Q (o :: rest) a w :=
  wpList_plain hgd fun K hK => by
    unfold Oper.wp execOp
    simp only [ho, Sem.run_bind, Sem.run_pure]
    have hrun : (Instr.alloc t true (.tuple #[])).run P w = .ok (.pointer (some ⟨w.heap.size, 0, none⟩)) (w.alloc (.cells z.cells t)) := by simp [Instr.alloc, newVar, newRow, Sem.run_bind, hz, Result.andThen]
    rw [hrun]
    exact hK _ _ (h _ (heap_alloc_new w _) ((Turned.refl _ w).alloc _))
/-- A store of many cells into a block that is known whole. -/
theorem wpList_store_at (hgd : o.guard = none) (ty : TypeId) (x y : Operand) (ho : o.op = .store ty x y) (g off : Nat) (cs : List Value) (hx : a.eval x = .pointer (some ⟨g, off, none⟩)) (hy : a.eval y = .agg cs.toArray)
    (cur : List Value) (t : TypeId) (hg : w.heap[g]? = some (.cells cur.toArray t (0, 0))) (hfit : off + cs.length ≤ cur.length) (hi : (P.info? ty).map (·.size) = some cs.length) (h1 : ∀ v ∈ cs, v.oneCell' = true)
    (h : ∀ w', Hid (w'.heap[g]? = some (.cells (splice cur off cs).toArray t (0, 0))) → Turned (· = g) w w' → wpList P ops Q rest (a.put o.dst undef) w') : wpList P ops Q (o :: rest) a w := by
  refine wpList_store_mid hgd ty x y ho g off cs.toArray hx hy (by simpa using there_whole hg off cs.length hfit) (by simpa using hi) (all_oneCell_toArray h1) ?_
  exact h _ (heap_setCells_same g t (0, 0) cs off w cur hg hfit) ((Turned.refl (· = g) w).setCells off cs rfl)
/-- A load of many cells out of a block that is known whole. -/
theorem wpList_load_at (hgd : o.guard = none) (ty : TypeId) (x : Operand) (ho : o.op = .load ty x) (g off : Nat) (cs : List Value) (hx : a.eval x = .pointer (some ⟨g, off, none⟩))
    (cur : List Value) (t : TypeId) (fr : Nat × Nat) (hg : w.heap[g]? = some (.cells cur.toArray t fr)) (hcs : (cur.drop off).take cs.length = cs) (d : TypeDesc) (hu : P.underlying ty = some d) (hd : d.isRow = true) (hi : (P.info? ty).map (·.size) = some cs.length)
    (h : wpList P ops Q rest (a.put o.dst (.agg cs.toArray)) w) : wpList P ops Q (o :: rest) a w :=
  wpList_load_mid hgd ty x ho g off hx cs d (by have := rangeAt_whole hg off cs.length; rwa [hcs] at this) hu hd hi h
end

/-! ### Rows of one length -/
section
variable {α : Type} {z : Nat} {ls : List (List α)}
theorem length_rows (h : ∀ x ∈ ls, x.length = z) : ls.flatten.length = ls.length * z := by
  induction ls with
  | nil => simp
  | cons a r ih => simp only [List.flatten_cons, List.length_append, List.length_cons, ih fun x hx => h x (List.mem_cons_of_mem _ hx), h a List.mem_cons_self, Nat.add_mul]; omega
theorem drop_rows (h : ∀ x ∈ ls, x.length = z) (i : Nat) : ls.flatten.drop (i * z) = (ls.drop i).flatten := by
  induction ls generalizing i with
  | nil => simp
  | cons a r ih =>
    cases i with
    | zero => simp
    | succ i =>
      have ha := h a List.mem_cons_self
      rw [List.flatten_cons, List.drop_append, List.drop_of_length_le (by rw [ha, Nat.add_mul]; omega), List.drop_succ_cons, List.nil_append, ha, ← ih fun x hx => h x (List.mem_cons_of_mem _ hx)]
      congr 1
      rw [Nat.add_mul]; omega
theorem take_rows (h : ∀ x ∈ ls, x.length = z) (i : Nat) : ls.flatten.take (i * z) = (ls.take i).flatten := by
  induction ls generalizing i with
  | nil => simp
  | cons a r ih =>
    cases i with
    | zero => simp
    | succ i =>
      have ha := h a List.mem_cons_self
      rw [List.flatten_cons, List.take_append, List.take_of_length_le (by rw [ha, Nat.add_mul]; omega), List.take_succ_cons, List.flatten_cons, ha, ← ih fun x hx => h x (List.mem_cons_of_mem _ hx)]
      congr 2
      rw [Nat.add_mul]; omega
theorem row_at (h : ∀ x ∈ ls, x.length = z) (i : Nat) (y : List α) (hi : ls[i]? = some y) : (ls.flatten.drop (i * z)).take z = y := by
  obtain ⟨hl, rfl⟩ := List.getElem?_eq_some_iff.1 hi
  rw [drop_rows h, List.drop_eq_getElem_cons hl, List.flatten_cons, List.take_append, List.take_of_length_le (by rw [h _ (List.getElem_mem hl)]; omega)]
  simp [h _ (List.getElem_mem hl)]
theorem row_part (h : ∀ x ∈ ls, x.length = z) (i j n : Nat) (y : List α) (hi : ls[i]? = some y) (hn : j + n ≤ z) : (ls.flatten.drop (i * z + j)).take n = (y.drop j).take n := by
  have := row_at h i y hi
  rw [← List.drop_drop, ← this, List.drop_take, List.take_take]
  congr 1
  omega
theorem splice_rows (h : ∀ x ∈ ls, x.length = z) (i j : Nat) (y c : List α) (hi : ls[i]? = some y) (hc : j + c.length ≤ z) : splice ls.flatten (i * z + j) c = (ls.set i (splice y j c)).flatten := by
  obtain ⟨hl, rfl⟩ := List.getElem?_eq_some_iff.1 hi
  have hy := h _ (List.getElem_mem hl)
  have hsplit : ls.flatten = (ls.take i).flatten ++ (ls[i] ++ (ls.drop (i + 1)).flatten) := by
    rw [← List.flatten_cons, ← List.drop_eq_getElem_cons hl, ← List.flatten_append, List.take_append_drop]
  have hlen : (ls.take i).flatten.length = i * z := by
    rw [length_rows fun x hx => h x (List.mem_of_mem_take hx)]; rw [List.length_take, Nat.min_eq_left (by omega)]
  rw [List.set_eq_take_append_cons_drop, if_pos hl, List.flatten_append, List.flatten_cons]
  unfold splice
  have e1 : ls.flatten.take (i * z + j) = (ls.take i).flatten ++ ls[i].take j := by
    rw [hsplit, List.take_append, List.take_of_length_le (by omega), hlen, List.take_append, show i * z + j - i * z = j by omega, show j - ls[i].length = 0 by omega]; simp
  have e2 : ls.flatten.drop (i * z + j + c.length) = ls[i].drop (j + c.length) ++ (ls.drop (i + 1)).flatten := by
    rw [hsplit, List.drop_append, List.drop_of_length_le (by omega), hlen, List.drop_append, show i * z + j + c.length - i * z = j + c.length by omega, show j + c.length - ls[i].length = 0 by omega]; simp
  rw [e1, e2]; simp [List.append_assoc]
theorem ownsRow_range {w : World} {base e g n cap z : Nat} {ls : List (List Value)} (h : w.ownsRow base e z (.slice (some ⟨g, 0, none⟩) n cap) n ls.flatten) (hz : ∀ x ∈ ls, x.length = z) (i : Nat) (y : List Value) (hi : ls[i]? = some y) : w.rangeAt g (i * z) y := fun j u hj => by
  have hc := h.cells (g := g) rfl (i * z + j) u (by
    have := row_at hz i y hi
    rw [← this] at hj
    simp only [List.getElem?_take, List.getElem?_drop] at hj
    split at hj
    · exact hj
    · cases hj)
  rwa [Addr.add_mid, Nat.zero_add] at hc
theorem splice_row (h : ∀ x ∈ ls, x.length = z) (i : Nat) (c : List α) (hi : i < ls.length) (hc : c.length = z) : splice ls.flatten (i * z) c = (ls.set i c).flatten := by
  have := splice_rows h i 0 ls[i] c (List.getElem?_eq_getElem hi) (by omega)
  rw [Nat.add_zero] at this
  rw [this]
  congr 2
  have := h _ (List.getElem_mem hi)
  simp [splice, hc, this]
end
end Go.Proofs.Ytaolhhgfnhhgaaa
