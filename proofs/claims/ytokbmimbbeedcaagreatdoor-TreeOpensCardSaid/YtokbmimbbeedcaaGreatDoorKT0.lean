/- Maps keyed by numbers: what they hold, in the order in which it was laid; reading, laying, deleting, at the operation. -/
import Derived.Maps.OwnSet
import Derived.Test.YtokbmimbbeedcaaGreatDoorKD0
namespace Go.Proofs.YtokbmimbbeedcaaGreatDoor
open Go Go.RowKit

section
variable {V : Type}
def mget (m : List (Nat × V)) (k : Nat) : Option V := (m.find? fun x => x.1 == k).map (·.2)
def mput (m : List (Nat × V)) (k : Nat) (v : V) : List (Nat × V) := if (mget m k).isSome then m.map (fun x => if x.1 = k then (k, v) else x) else m ++ [(k, v)]
def mdel (m : List (Nat × V)) (k : Nat) : List (Nat × V) := m.filter fun x => decide (x.1 ≠ k)
def mkeys (m : List (Nat × V)) : List Nat := m.map (·.1)

theorem mget_nil (k : Nat) : mget ([] : List (Nat × V)) k = none := rfl
theorem mget_cons (x : Nat × V) (m : List (Nat × V)) (k : Nat) : mget (x :: m) k = if x.1 = k then some x.2 else mget m k := by
  unfold mget
  rw [List.find?_cons]
  by_cases h : x.1 = k
  · rw [if_pos h, show (x.1 == k) = true by rw [h]; exact beq_self_eq_true k]; rfl
  · rw [if_neg h, show (x.1 == k) = false by rw [beq_eq_false_iff_ne]; exact h]
theorem mget_none_iff (m : List (Nat × V)) (k : Nat) : mget m k = none ↔ k ∉ mkeys m := by
  induction m with
  | nil => simp [mget, mkeys]
  | cons x r ih =>
    rw [mget_cons]
    unfold mkeys at ih ⊢
    rw [List.map_cons, List.mem_cons, not_or]
    by_cases h : x.1 = k
    · rw [if_pos h]; simp [h]
    · rw [if_neg h, ih]
      exact ⟨fun h' => ⟨fun e => h e.symm, h'⟩, fun h' => h'.2⟩
theorem mget_append (a b : List (Nat × V)) (k : Nat) : mget (a ++ b) k = (mget a k).or (mget b k) := by
  induction a with
  | nil => simp [mget]
  | cons x r ih =>
    rw [List.cons_append, mget_cons, mget_cons, ih]
    by_cases h : x.1 = k
    · rw [if_pos h, if_pos h]; rfl
    · rw [if_neg h, if_neg h]
theorem mget_map (m : List (Nat × V)) (k j : Nat) (v : V) : mget (m.map fun x => if x.1 = k then (k, v) else x) j = if j = k then (mget m k).map (fun _ => v) else mget m j := by
  induction m with
  | nil => simp [mget]
  | cons x r ih =>
    rw [List.map_cons, mget_cons, mget_cons, mget_cons, ih]
    by_cases h : x.1 = k
    · rw [if_pos h, if_pos h]
      by_cases hj : j = k
      · subst hj; rw [if_pos rfl, if_pos rfl]; rfl
      · rw [if_neg hj, if_neg hj, if_neg (fun e => hj e.symm), if_neg (fun e => hj (e.symm.trans h))]
    · rw [if_neg h, if_neg h]
      by_cases hj : j = k
      · subst hj; rw [if_neg h, if_pos rfl, if_pos rfl]
      · rw [if_neg hj, if_neg hj]
theorem mget_put (m : List (Nat × V)) (k j : Nat) (v : V) : mget (mput m k v) j = if j = k then some v else mget m j := by
  unfold mput
  cases h : mget m k with
  | some x =>
    rw [if_pos (show (some x).isSome = true from rfl), mget_map, h]
    rfl
  | none =>
    rw [if_neg (by simp), mget_append, mget_cons]
    by_cases hj : j = k
    · subst hj; rw [h, if_pos rfl, if_pos rfl]; rfl
    · rw [if_neg hj, if_neg (fun e => hj e.symm), mget_nil]
      cases mget m j <;> rfl
theorem mget_del (m : List (Nat × V)) (k j : Nat) : mget (mdel m k) j = if j = k then none else mget m j := by
  unfold mdel
  induction m with
  | nil => simp [mget]
  | cons x r ih =>
    rw [List.filter_cons]
    by_cases h : x.1 = k
    · rw [if_neg (by simp [h]), ih, mget_cons]
      by_cases hj : j = k
      · rw [if_pos hj, if_pos hj]
      · rw [if_neg hj, if_neg hj, if_neg (by omega)]
    · rw [if_pos (by simp [h]), mget_cons, ih, mget_cons]
      by_cases hj : j = k
      · subst hj; rw [if_neg h, if_pos rfl, if_pos rfl]
      · rw [if_neg hj, if_neg hj]
theorem mkeys_put (m : List (Nat × V)) (k : Nat) (v : V) : mkeys (mput m k v) = if (mget m k).isSome then mkeys m else mkeys m ++ [k] := by
  unfold mput
  by_cases h : (mget m k).isSome = true
  · rw [if_pos h, if_pos h]
    unfold mkeys
    rw [List.map_map]
    refine List.map_congr_left fun x _ => ?_
    show (if x.1 = k then (k, v) else x).1 = x.1
    by_cases hx : x.1 = k
    · rw [if_pos hx]; exact hx.symm
    · rw [if_neg hx]
  · rw [if_neg h, if_neg h]
    unfold mkeys
    rw [List.map_append]; rfl
theorem nodup_put {m : List (Nat × V)} (h : (mkeys m).Nodup) (k : Nat) (v : V) : (mkeys (mput m k v)).Nodup := by
  rw [mkeys_put]
  by_cases hs : (mget m k).isSome = true
  · rw [if_pos hs]; exact h
  · rw [if_neg hs]
    have hn : k ∉ mkeys m := (mget_none_iff m k).1 (by simpa using hs)
    rw [List.nodup_append]
    refine ⟨h, by simp, fun a ha b hb => ?_⟩
    obtain rfl := List.mem_singleton.1 hb
    rintro rfl
    exact hn ha
theorem nodup_del {m : List (Nat × V)} (h : (mkeys m).Nodup) (k : Nat) : (mkeys (mdel m k)).Nodup := by
  unfold mkeys mdel
  exact ((List.filter_sublist).map _).nodup h

/-! ### In memory -/
def entU (enc : V → Value) (x : Nat × V) : Value × Value := (.int .u32 x.1, enc x.2)
/-- A map's block: its entries, in the order in which they were laid. -/
structure MapAt (w : World) (b : Nat) (enc : V → Value) (m : List (Nat × V)) : Prop where
  nodup : (mkeys m).Nodup
  row : ∃ es clock, w.heap[b]? = some (.map es clock) ∧ MapKept.Stamped es clock ∧ es.toList.map (fun e : MapEntry => (e.key, e.val)) = m.map (entU enc)
variable {enc : V → Value} {w w' : World} {b : Nat} {m : List (Nat × V)}
theorem MapAt.lt (h : MapAt w b enc m) : b < w.heap.size := by
  obtain ⟨es, c, hb, -⟩ := h.row
  exact (Array.getElem?_eq_some_iff.1 hb).1
theorem MapAt.turned {F : Nat → Prop} (h : MapAt w b enc m) (ht : Turned F w w') (hF : ¬ F b) : MapAt w' b enc m := by
  obtain ⟨es, c, hb, hs, he⟩ := h.row
  exact ⟨h.nodup, es, c, (ht.block b (Array.getElem?_eq_some_iff.1 hb).1 hF).trans hb, hs, he⟩
theorem MapAt.below (h : MapAt w b enc m) (hb : Below w.heap.size w w') : MapAt w' b enc m := h.turned (Turned.new hb : Turned (fun _ => False) w w') (fun h => h)
theorem MapAt.made (w : World) (enc : V → Value) : MapAt (w.alloc (.map #[] 0)) w.heap.size enc [] :=
  ⟨List.nodup_nil, #[], 0, heap_alloc_new _ _, MapKept.stamped_empty _, rfl⟩
theorem mget_at {m : List (Nat × V)} (hn : (mkeys m).Nodup) {j : Nat} {x : Nat × V} (h : m[j]? = some x) : mget m x.1 = some x.2 := by
  induction m generalizing j with
  | nil => simp at h
  | cons y r ih =>
    rw [mget_cons]
    unfold mkeys at hn
    rw [List.map_cons, List.nodup_cons] at hn
    cases j with
    | zero =>
      simp only [List.getElem?_cons_zero, Option.some.injEq] at h
      subst h
      rw [if_pos rfl]
    | succ j =>
      rw [List.getElem?_cons_succ] at h
      have hne : y.1 ≠ x.1 := fun e => hn.1 (by rw [e]; exact List.mem_map_of_mem (List.mem_of_getElem? h))
      rw [if_neg hne]
      exact ih hn.2 h
theorem idx_same {m : List (Nat × V)} (hn : (mkeys m).Nodup) {i j : Nat} {x y : Nat × V} (hi : m[i]? = some x) (hj : m[j]? = some y) (he : x.1 = y.1) : i = j := by
  obtain ⟨h1, h2⟩ := List.getElem?_eq_some_iff.1 hi
  obtain ⟨h3, h4⟩ := List.getElem?_eq_some_iff.1 hj
  have hl : (mkeys m).length = m.length := by simp [mkeys]
  refine (List.getElem_inj (h₀ := by rw [hl]; exact h1) (h₁ := by rw [hl]; exact h3) hn).1 ?_
  simp only [mkeys, List.getElem_map]
  rw [h2, h4, he]
theorem ent_at {es : Array MapEntry} {m : List (Nat × V)} {enc : V → Value} (h : es.toList.map (fun e : MapEntry => (e.key, e.val)) = m.map (entU enc)) (j : Nat) : (es[j]?).map (fun e : MapEntry => (e.key, e.val)) = (m[j]?).map (entU enc) := by
  have := congrArg (fun l => l[j]?) h
  simpa [List.getElem?_map] using this
theorem isKey_all {es : Array MapEntry} {m : List (Nat × V)} {enc : V → Value} (h : es.toList.map (fun e : MapEntry => (e.key, e.val)) = m.map (entU enc)) : ∀ x ∈ es.toList, MapKept.IsKey (.int .u32) x.key := by
  intro x hx
  have : (x.key, x.val) ∈ m.map (entU enc) := by rw [← h]; exact List.mem_map_of_mem hx
  obtain ⟨y, -, hy⟩ := List.mem_map.1 this
  have e : x.key = .int .u32 y.1 := (congrArg Prod.fst hy).symm
  rw [e]; rfl
theorem find_u {es : Array MapEntry} {m : List (Nat × V)} {enc : V → Value} (hn : (mkeys m).Nodup) (h : es.toList.map (fun e : MapEntry => (e.key, e.val)) = m.map (entU enc)) (k : Nat) :
    (mget m k = none ∧ Instr.findNow (.int .u32) (.int .u32 k) es.toList 0 = some none ∧ ∀ x ∈ es.toList, x.key ≠ .int .u32 k) ∨
    ∃ v j e, mget m k = some v ∧ Instr.findNow (.int .u32) (.int .u32 k) es.toList 0 = some (some (j, enc v)) ∧ es[j]? = some e ∧ e.key = .int .u32 k ∧ m[j]? = some (k, v) := by
  rcases MapKept.findNow_spec (d := .int .u32) (k := .int .u32 k) rfl es.toList 0 (isKey_all h) with ⟨h1, h2⟩ | ⟨j, e, h1, h2, h3⟩
  · refine .inl ⟨(mget_none_iff m k).2 fun hk => ?_, h1, h2⟩
    obtain ⟨x, hx, rfl⟩ := List.mem_map.1 hk
    have : entU enc x ∈ es.toList.map (fun e : MapEntry => (e.key, e.val)) := by rw [h]; exact List.mem_map_of_mem hx
    obtain ⟨y, hy, hye⟩ := List.mem_map.1 this
    exact h2 y hy (congrArg Prod.fst hye)
  · have he : es[j]? = some e := by simpa using h2
    have hm := ent_at h j
    rw [he] at hm
    cases hx : m[j]? with
    | none => rw [hx] at hm; simp at hm
    | some x =>
      rw [hx] at hm
      simp only [Option.map_some, Option.some.injEq, entU, Prod.mk.injEq] at hm
      have hk : x.1 = k := by
        have := hm.1
        rw [h3] at this
        simp only [Value.int.injEq, true_and] at this
        omega
      have hg := mget_at hn hx
      rw [hk] at hg
      refine .inr ⟨x.2, j, e, hg, ?_, he, h3, by rw [← hk]; exact hx⟩
      rw [h1, Nat.zero_add, hm.2]
/-- What a lookup tells. -/
def mgetV (enc : V → Value) (z : Value) (m : List (Nat × V)) (k : Nat) : Value := match mget m k with | some v => enc v | none => z
theorem MapAt.look {P : Program} {kt et : TypeId} (T : TypeId) (h : MapAt w b enc m) (ht : P.underlying T = some (.map kt et)) (hk : P.underlying kt = some (.int .u32)) {z : Value} (hz : (zeroValue et).run P w = .ok z w) (k : Nat) (c : Bool) :
    (Instr.lookup T (.map (some b)) (.int .u32 k) c).run P w = .ok (if c then .tuple #[mgetV enc z m k, .bool (mget m k).isSome] else mgetV enc z m k) w := by
  obtain ⟨es, cl, hb, hs, he⟩ := h.row
  have hkey : MapKept.IsKey (.int .u32) (.int .u32 (k : Int)) := rfl
  rcases find_u h.nodup he k with ⟨h1, h2, -⟩ | ⟨v, j, e, h1, h2, -⟩
  · cases c <;> simp [Instr.lookup, run_underlying ht, MapKept.run_getObj_map hb, MapKept.run_checkKey hk hkey, MapKept.run_findKey hk h2, hz, Result.andThen, mgetV, h1]
  · cases c <;> simp [Instr.lookup, run_underlying ht, MapKept.run_getObj_map hb, MapKept.run_checkKey hk hkey, MapKept.run_findKey hk h2, Result.andThen, mgetV, h1]
theorem turned_obj (w : World) (b : Nat) (o : Obj) (_hb : b < w.heap.size) : Turned (· = b) w { w with heap := w.heap.setIfInBounds b o } :=
  ⟨rfl, rfl, rfl, by simp, fun k hk hF => by
    show (w.heap.setIfInBounds b o)[k]? = w.heap[k]?
    rw [Array.getElem?_setIfInBounds_ne (fun e => hF e.symm)]⟩
theorem list_two {es : Array MapEntry} {m' : List (Nat × V)} {enc : V → Value} (_hl : es.size = m'.length) (h : ∀ j : Nat, (es[j]?).map (fun e : MapEntry => (e.key, e.val)) = (m'[j]?).map (entU enc)) : es.toList.map (fun e : MapEntry => (e.key, e.val)) = m'.map (entU enc) := by
  apply List.ext_getElem?
  intro j
  rw [List.getElem?_map, List.getElem?_map, ← h j]
  simp
theorem MapAt.store {P : Program} {kt et : TypeId} (T : TypeId) (h : MapAt w b enc m) (ht : P.underlying T = some (.map kt et)) (hk : P.underlying kt = some (.int .u32)) (k : Nat) (v : V) :
    ∃ w', (Instr.mapUpdate T (.map (some b)) (.int .u32 k) (enc v)).run P w = .ok () w' ∧ MapAt w' b enc (mput m k v) ∧ Turned (· = b) w w' := by
  obtain ⟨es, cl, hb, hs, he⟩ := h.row
  have hlt := (Array.getElem?_eq_some_iff.1 hb).1
  have hkey : MapKept.IsKey (.int .u32) (.int .u32 (k : Int)) := rfl
  have hsz : es.size = m.length := by simpa using congrArg List.length he
  rcases find_u h.nodup he k with ⟨h1, h2, h3⟩ | ⟨v0, j, e, h1, h2, h3, h4, h5⟩
  · refine ⟨{ w with heap := w.heap.setIfInBounds b (.map (es.push ⟨.int .u32 k, enc v, cl⟩) (cl + 1)) }, by simp only [Instr.mapUpdate, Sem.run_bind, run_underlying ht, Result.andThen, MapKept.run_getObj_map hb, MapKept.run_checkKey hk hkey, MapKept.run_findKey hk h2, MapKept.run_setObj_map _ hb], ⟨nodup_put h.nodup k v, _, _, (MapKept.heap_set hb).1, MapKept.stamped_push hs h3, ?_⟩, turned_obj w b _ hlt⟩
    unfold mput
    rw [h1, if_neg (by simp), Array.toList_push, List.map_append, List.map_append, he]
    rfl
  · have hst : (Instr.keyThatStays (((es[j]?).map (·.key)).getD (.int .u32 k)) (.int .u32 k)).run P w = .ok (.int .u32 k) w := by
      rw [h3]
      simp only [Option.map_some, Option.getD_some]
      rw [h4]
      exact MapKept.run_keyThatStays (d := .int .u32) hkey
    refine ⟨{ w with heap := w.heap.setIfInBounds b (.map (es.modify j fun e : MapEntry => { e with key := .int .u32 k, val := enc v }) cl) }, by simp only [Instr.mapUpdate, Sem.run_bind, run_underlying ht, Result.andThen, MapKept.run_getObj_map hb, MapKept.run_checkKey hk hkey, MapKept.run_findKey hk h2, hst, MapKept.run_setObj_map _ hb], ⟨nodup_put h.nodup k v, _, _, (MapKept.heap_set hb).1, MapKept.stamped_modify hs j _ (fun _ _ => rfl) (fun e' _ he' => ?_), ?_⟩, turned_obj w b _ hlt⟩
    · rw [h3] at he'
      cases he'
      exact h4.symm
    · unfold mput
      rw [h1, if_pos (show (some v0).isSome = true from rfl)]
      refine list_two (by simp [hsz]) fun i => ?_
      rw [Array.getElem?_modify, List.getElem?_map]
      have hi := ent_at he i
      by_cases hij : j = i
      · subst hij
        rw [if_pos rfl, h3, h5]
        simp [entU]
      · rw [if_neg hij, hi]
        cases hx : m[i]? with
        | none => rfl
        | some x =>
          have hne : x.1 ≠ k := fun e => hij (idx_same h.nodup h5 hx e.symm)
          simp [hne]
theorem MapAt.drop {P : Program} {kt et : TypeId} (T : TypeId) (h : MapAt w b enc m) (ht : P.underlying T = some (.map kt et)) (hk : P.underlying kt = some (.int .u32)) (k : Nat) (ty : TypeId) :
    ∃ w', (Builtin.delete_ #[T, kt] ty #[.map (some b), .int .u32 k]).run P w = .ok (.tuple #[]) w' ∧ MapAt w' b enc (mdel m k) ∧ Turned (· = b) w w' := by
  obtain ⟨es, cl, hb, hs, he⟩ := h.row
  have hlt := (Array.getElem?_eq_some_iff.1 hb).1
  have hkey : MapKept.IsKey (.int .u32) (.int .u32 (k : Int)) := rfl
  rcases find_u h.nodup he k with ⟨h1, h2, h3⟩ | ⟨v0, j, e, h1, h2, h3, h4, h5⟩
  · refine ⟨{ w with heap := w.heap.setIfInBounds b (.map es cl) }, by simp [Builtin.delete_, run_underlying ht, MapKept.run_getObj_map hb, MapKept.run_checkKey hk hkey, MapKept.run_findKey hk h2, MapKept.run_setObj_map _ hb, Result.andThen], ⟨nodup_del h.nodup k, _, _, (MapKept.heap_set hb).1, hs, ?_⟩, turned_obj w b _ hlt⟩
    have hd : mdel m k = m := by
      unfold mdel
      rw [List.filter_eq_self]
      intro x hx
      have : x.1 ≠ k := fun e => (mget_none_iff m k).1 h1 (by rw [← e]; exact List.mem_map_of_mem hx)
      simpa using this
    rw [hd]; exact he
  · refine ⟨{ w with heap := w.heap.setIfInBounds b (.map (es.eraseIdxIfInBounds j) cl) }, by simp [Builtin.delete_, run_underlying ht, MapKept.run_getObj_map hb, MapKept.run_checkKey hk hkey, MapKept.run_findKey hk h2, MapKept.run_setObj_map _ hb, Result.andThen], ⟨nodup_del h.nodup k, _, _, (MapKept.heap_set hb).1, MapKept.stamped_erase hs j, ?_⟩, turned_obj w b _ hlt⟩
    have hjl : j < m.length := (List.getElem?_eq_some_iff.1 h5).1
    have hd : mdel m k = m.eraseIdx j := by
      have hsplit : m = m.take j ++ (k, v0) :: m.drop (j + 1) := by
        conv => lhs; rw [← List.take_append_drop j m, List.drop_eq_getElem_cons hjl, (List.getElem?_eq_some_iff.1 h5).2]
      have hout : ∀ i x, i ≠ j → m[i]? = some x → x.1 ≠ k := fun i x hij hx e => hij (idx_same h.nodup hx h5 e)
      have e1 : (m.take j).filter (fun x => decide (x.1 ≠ k)) = m.take j := by
        rw [List.filter_eq_self]
        intro x hx
        obtain ⟨i, hi⟩ := List.mem_iff_getElem?.1 hx
        have hij : i < j := by
          have := (List.getElem?_eq_some_iff.1 hi).1
          rw [List.length_take] at this; omega
        rw [List.getElem?_take_of_lt hij] at hi
        simpa using hout i x (by omega) hi
      have e2 : (m.drop (j + 1)).filter (fun x => decide (x.1 ≠ k)) = m.drop (j + 1) := by
        rw [List.filter_eq_self]
        intro x hx
        obtain ⟨i, hi⟩ := List.mem_iff_getElem?.1 hx
        rw [List.getElem?_drop] at hi
        simpa using hout _ x (by omega) hi
      unfold mdel
      rw [List.eraseIdx_eq_take_drop_succ]
      conv => lhs; rw [hsplit]
      rw [List.filter_append, List.filter_cons, if_neg (by simp), e1, e2]
    have hje : j < es.size := (Array.getElem?_eq_some_iff.1 h3).1
    have hmap : ∀ {α β : Type} (f : α → β) (l : List α) (i : Nat), (l.eraseIdx i).map f = (l.map f).eraseIdx i := fun f l => by
      induction l with
      | nil => intro i; simp
      | cons x r ih => intro i; cases i <;> simp [ih]
    rw [hd, Array.eraseIdxIfInBounds, dif_pos hje, Array.toList_eraseIdx, hmap, hmap, he]
end

/-! ### At the operation -/
section
variable {V : Type} {enc : V → Value} {b : Nat} {m : List (Nat × V)} {P : Program} {w : World} {ops : Array Oper} {rest : List Oper} {o : Oper} {a : Act} {Q : Exit → Act → World → Prop}
theorem wpList_mget_some (hg : o.guard = none) (mo x : Operand) (T : TypeId) (c : Bool) (hop : o.op = Op.lookup T mo x c) (kt et : TypeId) (ht : P.underlying T = some (.map kt et)) (hk : P.underlying kt = some (.int .u32)) (z : Value) (hz : (zeroValue et).run P w = .ok z w)
    (hm : a.eval mo = .map (some b)) (h : MapAt w b enc m) (k : Nat) (hx : a.eval x = .int .u32 k) (v : V) (hv : mget m k = some v) (val : Value) (hval : enc v = val) (hK : wpList P ops Q rest (a.put o.dst (if c then .tuple #[val, .bool true] else val)) w) : wpList P ops Q (o :: rest) a w := by
  refine wpList_plain hg fun K' hK' => ?_
  have hrun := h.look T ht hk hz k c
  unfold mgetV at hrun
  rw [hv] at hrun
  subst hval
  unfold Oper.wp
  simp only [execOp, hop, hm, hx, hrun, Sem.run_bind, Sem.run_pure, Result.andThen]
  exact hK' _ _ hK
theorem wpList_mget_none (hg : o.guard = none) (mo x : Operand) (T : TypeId) (c : Bool) (hop : o.op = Op.lookup T mo x c) (kt et : TypeId) (ht : P.underlying T = some (.map kt et)) (hk : P.underlying kt = some (.int .u32)) (z : Value) (hz : (zeroValue et).run P w = .ok z w)
    (hm : a.eval mo = .map (some b)) (h : MapAt w b enc m) (k : Nat) (hx : a.eval x = .int .u32 k) (hv : mget m k = none) (hK : wpList P ops Q rest (a.put o.dst (if c then .tuple #[z, .bool false] else z)) w) : wpList P ops Q (o :: rest) a w := by
  refine wpList_plain hg fun K' hK' => ?_
  have hrun := h.look T ht hk hz k c
  unfold mgetV at hrun
  rw [hv] at hrun
  unfold Oper.wp
  simp only [execOp, hop, hm, hx, hrun, Sem.run_bind, Sem.run_pure, Result.andThen]
  exact hK' _ _ hK
theorem wpList_mput (hg : o.guard = none) (mo x v : Operand) (T : TypeId) (hop : o.op = Op.mapUpdate T mo x v) (kt et : TypeId) (ht : P.underlying T = some (.map kt et)) (hk : P.underlying kt = some (.int .u32))
    (hm : a.eval mo = .map (some b)) (h : MapAt w b enc m) (k : Nat) (hx : a.eval x = .int .u32 k) (val : V) (hv : a.eval v = enc val) (hK : ∀ w', MapAt w' b enc (mput m k val) → Turned (· = b) w w' → wpList P ops Q rest (a.put o.dst undef) w') : wpList P ops Q (o :: rest) a w := by
  refine wpList_plain hg fun K' hK' => ?_
  obtain ⟨w', hrun, h1, h2⟩ := h.store T ht hk k val
  unfold Oper.wp
  simp [execOp, hop, hm, hx, hv, hrun, Result.andThen]
  exact hK' _ _ (hK w' h1 h2)
theorem wpList_mdel (hg : o.guard = none) (mo x : Operand) (T kt : TypeId) (hop : o.op = Op.call { callee := Callee.builtin Builtin.delete, args := #[mo, x], argTypes := #[T, kt] }) (et : TypeId) (ht : P.underlying T = some (.map kt et)) (hk : P.underlying kt = some (.int .u32))
    (hm : a.eval mo = .map (some b)) (h : MapAt w b enc m) (k : Nat) (hx : a.eval x = .int .u32 k) (hK : ∀ w', MapAt w' b enc (mdel m k) → Turned (· = b) w w' → wpList P ops Q rest (a.put o.dst (.tuple #[])) w') : wpList P ops Q (o :: rest) a w := by
  refine wpList_plain hg fun K' hK' => ?_
  obtain ⟨w', hrun, h1, h2⟩ := h.drop T ht hk k o.type
  unfold Oper.wp
  simp [execOp, hop, resolve, invoke, builtin, hm, hx, hrun, Result.andThen]
  exact hK' _ _ (hK w' h1 h2)
end
end Go.Proofs.YtokbmimbbeedcaaGreatDoor
