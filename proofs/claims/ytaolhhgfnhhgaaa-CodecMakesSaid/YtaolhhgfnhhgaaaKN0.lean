/- Lists of elements in memory, whatever they are: what reads as one, what a call has made of its own, how it is appended to. -/
import Derived.Test.YtaolhhgfnhhgaaaProg
import Derived.Deep.AppendLies
import Derived.Test.YtaolhhgfnhhgaaaKD0
namespace Go.Proofs.Ytaolhhgfnhhgaaa
open Go Go.RowKit

/-- A kind of elements: the cells of one, how many; its type, that of a slice of them; bytes of one. -/
structure El (α : Type) where
  enc : α → List Value
  z : Nat
  ty : TypeId
  sl : TypeId
  bytes : Nat
  zero : Value
  d : α
  len : ∀ x, (enc x).length = z
  one : ∀ x, ∀ v ∈ enc x, v.oneCell' = true
  pos : 0 < z
  under : Try.prog.underlying sl = some (.slice ty)
  info : (Try.prog.info? ty).map (fun i => (i.zero, i.size, i.bytes)) = some (some zero, z, bytes)
  zlen : zero.cells.size = z
  few : bytes ≤ 64

section
variable {α : Type} {E : El α}
def elCells (E : El α) (L : List α) : List Value := L.flatMap E.enc
theorem elCells_len (E : El α) : ∀ L : List α, (elCells E L).length = L.length * E.z
  | [] => by simp [elCells]
  | x :: r => by
    have := elCells_len E r
    simp only [elCells, List.flatMap_cons, List.length_append, E.len, List.length_cons] at this ⊢
    rw [this, Nat.add_mul, Nat.one_mul, Nat.add_comm]
theorem elCells_append (E : El α) (L M : List α) : elCells E (L ++ M) = elCells E L ++ elCells E M := by simp [elCells]
theorem elCells_one (E : El α) (L : List α) : ∀ v ∈ elCells E L, v.oneCell' = true := fun v hv => by
  obtain ⟨x, _, hx⟩ := List.mem_flatMap.1 hv
  exact E.one x v hx
theorem elCells_at (E : El α) : ∀ (L : List α) (i j : Nat), i < L.length → j < E.z → (elCells E L)[i * E.z + j]? = (E.enc (L.getD i E.d))[j]?
  | [], i, j, h, _ => by simp at h
  | x :: r, 0, j, _, hj => by
    simp only [elCells, List.flatMap_cons, Nat.zero_mul, Nat.zero_add]
    rw [List.getElem?_append_left (by rw [E.len]; exact hj)]
    rfl
  | x :: r, i + 1, j, h, hj => by
    have ih := elCells_at E r i j (by simpa using h) hj
    simp only [elCells, List.flatMap_cons] at ih ⊢
    rw [List.getElem?_append_right (by rw [E.len, Nat.add_mul, Nat.one_mul]; omega), E.len, show (i + 1) * E.z + j - E.z = i * E.z + j by rw [Nat.add_mul, Nat.one_mul]; omega, ih]
    rfl

/-- A slice that reads as these. -/
def Els (E : El α) (w : World) (p : Option Addr) (L : List α) : Prop :=
  L ≠ [] → ∃ b o, p = some ⟨b, o, none⟩ ∧ ∀ i j, i < L.length → j < E.z → w.cell? ⟨b, o + i * E.z + j, none⟩ = (E.enc (L.getD i E.d))[j]?
theorem Els.nil (w : World) (p : Option Addr) : Els E w p [] := fun h => absurd rfl h
theorem Els.cells {w w' : World} {p : Option Addr} {L : List α} (h : Els E w p L) (hc : ∀ b o x, p.isSome → (∀ a, p = some a → a.block = b) → w.cell? ⟨b, o, none⟩ = some x → w'.cell? ⟨b, o, none⟩ = some x) : Els E w' p L := fun hn => by
  obtain ⟨b, o, rfl, hr⟩ := h hn
  refine ⟨b, o, rfl, fun i j hi hj => ?_⟩
  have h1 := hr i j hi hj
  have h2 : j < (E.enc (L.getD i E.d)).length := by rw [E.len]; exact hj
  rw [List.getElem?_eq_getElem h2] at h1 ⊢
  exact hc _ _ _ rfl (fun a ha => by cases ha; rfl) h1
theorem Els.turned {F : Nat → Prop} {w w' : World} {p : Option Addr} {L : List α} (h : Els E w p L) (ht : Turned F w w') (hF : ∀ a, p = some a → ¬ F a.block) : Els E w' p L :=
  h.cells fun b o x hs hb hx => by
    obtain ⟨a, rfl⟩ := Option.isSome_iff_exists.1 hs
    exact ht.cell hx (by rw [← hb a rfl]; exact hF a rfl)
theorem Els.below {w w' : World} {p : Option Addr} {L : List α} (h : Els E w p L) (hb : Below w.heap.size w w') : Els E w' p L :=
  h.turned (Turned.new hb : Turned (fun _ => False) w w') (fun _ _ h => h)
theorem Els.take {w : World} {p : Option Addr} {L : List α} (h : Els E w p L) (n : Nat) : Els E w p (L.take n) := fun hne => by
  obtain ⟨b, o, hp, hc⟩ := h (by rintro rfl; simp at hne)
  refine ⟨b, o, hp, fun i j hi hj => ?_⟩
  have hi' : i < L.length ∧ i < n := by simp at hi; omega
  rw [hc i j hi'.1 hj]
  simp [List.getD, hi'.2]
/-- Where a list lies whose first f were cut away. -/
def dropP (E : El α) (p : Option Addr) (f : Nat) : Option Addr := p.map fun a => ⟨a.block, a.off + f * E.z, none⟩
theorem Els.drop {w : World} {p : Option Addr} {L : List α} (h : Els E w p L) (f : Nat) : Els E w (dropP E p f) (L.drop f) := fun hne => by
  obtain ⟨b, o, rfl, hc⟩ := h (by rintro rfl; simp at hne)
  refine ⟨b, o + f * E.z, rfl, fun i j hi hj => ?_⟩
  have hi' : f + i < L.length := by simp at hi; omega
  have := hc (f + i) j hi' hj
  rw [Nat.add_mul, ← Nat.add_assoc] at this
  rw [this]
  simp [List.getD]
theorem Els.news {w : World} {p : Option Addr} {L : List α} (h : Els E w p L) : ∀ ad, p = some ad → ∀ j u, (elCells E L)[j]? = some u → w.cell? (ad.add j) = some u := fun ad hp j v hj => by
  have hlt := (List.getElem?_eq_some_iff.1 hj).1
  rw [elCells_len] at hlt
  have hz := E.pos
  obtain ⟨b, o, hp', hc⟩ := h (by rintro rfl; simp at hlt)
  rw [hp'] at hp
  cases hp
  have hi : j / E.z < L.length := Nat.div_lt_of_lt_mul (by rw [Nat.mul_comm]; exact hlt)
  have hm : j % E.z < E.z := Nat.mod_lt _ hz
  have e : j / E.z * E.z + j % E.z = j := by rw [Nat.mul_comm]; exact Nat.div_add_mod j E.z
  have h1 := elCells_at E L (j / E.z) (j % E.z) hi hm
  have h2 := hc (j / E.z) (j % E.z) hi hm
  rw [e] at h1
  rw [Nat.add_assoc, e] at h2
  rw [← h1, hj] at h2
  have e2 : (⟨b, o, none⟩ : Addr).add j = ⟨b, o + j, none⟩ := by
    unfold Addr.add
    split
    · rename_i h0; subst h0; rfl
    · rfl
  rw [e2]
  exact h2
/-- A block that holds these, whole. -/
theorem els_of_block {w : World} {g : Nat} {L : List α} {cur : Array Value} {t : TypeId} {fr : Nat × Nat} (h : w.heap[g]? = some (.cells cur t fr)) (hc : cur.toList.take (L.length * E.z) = elCells E L) : Els E w (some ⟨g, 0, none⟩) L := fun _ => by
  refine ⟨g, 0, rfl, fun i j hi hj => ?_⟩
  rw [← elCells_at E L i j hi hj, ← hc, Nat.zero_add]
  have hlt : i * E.z + j < L.length * E.z := by
    have : (i + 1) * E.z ≤ L.length * E.z := Nat.mul_le_mul_right _ hi
    rw [Nat.add_mul, Nat.one_mul] at this
    omega
  rw [List.getElem?_take_of_lt hlt]
  have h' : w.heap[g]? = some (.cells cur.toList.toArray t fr) := by simpa using h
  exact cell_whole h' _

/-- What the call itself has made. -/
def OwnE (E : El α) (w : World) (base : Nat) (v : Value) (L : List α) : Prop := w.ownsRow base E.ty E.z v L.length (elCells E L)
theorem OwnE.nil (E : El α) (w : World) (base : Nat) : OwnE E w base (.slice none 0 0) [] := World.ownsRow_nil _ _ _ _
theorem OwnE.form {w : World} {base : Nat} {v : Value} {L : List α} (h : OwnE E w base v L) : ∃ p c, v = .slice p L.length c ∧ Els E w p L ∧ (∀ a, p = some a → base ≤ a.block ∧ a.block < w.heap.size ∧ v.ownBlock = some a.block) := by
  have hlt := World.ownsRow.lt h
  obtain ⟨h1, h2⟩ := h
  rcases h2 with ⟨rfl, h0⟩ | ⟨g, cap, cur, rfl, hg, hh, hn, hc, hs, ht⟩
  · obtain rfl : L = [] := List.eq_nil_of_length_eq_zero h0
    exact ⟨none, 0, rfl, Els.nil _ _, fun a ha => (by cases ha)⟩
  · exact ⟨_, _, rfl, els_of_block hh ht, fun a ha => by cases ha; exact ⟨hg, lt_of_heap hh, rfl⟩⟩
theorem OwnE.kept {w w' : World} {base : Nat} {v : Value} {L : List α} {F : Nat → Prop} (h : OwnE E w base v L) (ht : Turned F w w') (hp : ∀ k, v.ownBlock = some k → ¬ F k) : OwnE E w' base v L := ht.ownsRow h hp
theorem OwnE.below {w w' : World} {base : Nat} {v : Value} {L : List α} (h : OwnE E w base v L) (hb : Below w.heap.size w w') : OwnE E w' base v L := h.kept (Turned.new hb : Turned (fun _ => False) w w') (fun _ _ h => h)
theorem OwnE.lt {w : World} {base : Nat} {v : Value} {L : List α} (h : OwnE E w base v L) {j : Nat} (hj : v.ownBlock = some j) : base ≤ j ∧ j < w.heap.size := World.ownsRow.lt h j hj
theorem own_here {g n c H : Nat} {v : Value} (h : v.ownBlock = some g ∨ g = H) : ∀ k, (Value.slice (some ⟨g, 0, none⟩) n c).ownBlock = some k → v.ownBlock = some k ∨ H ≤ k := fun k hk => by
  have e : g = k := by
    have h1 : (Value.slice (some ⟨g, 0, none⟩) n c).ownBlock = some g := rfl
    rw [h1] at hk
    exact Option.some.inj hk
  subst e
  rcases h with h | h
  · exact .inl h
  · exact .inr (by omega)
/-- One element, out of a block made for it. -/
theorem wpList_append_el (E : El α) {w : World} {ops : Array Oper} {rest : List Oper} {o : Oper} {a : Act} {Q : Exit → Act → World → Prop} (hgd : o.guard = none) (s x : Operand)
    (ho : o.op = .call { callee := .builtin .append, args := #[s, x], argTypes := #[E.sl, E.sl] })
    (base : Nat) (v : Value) (L : List α) (c : α) (hs : a.eval s = v) (hown : OwnE E w base v L) (g : Nat) (hx : a.eval x = .slice (some ⟨g, 0, none⟩) 1 1) (hc : w.heap[g]? = some (.cells (E.enc c).toArray E.ty (0, 0))) (hL : L.length ≤ 1000000) (hbase : base ≤ w.heap.size)
    (h : ∀ v' w', OwnE E w' base v' (L ++ [c]) → w.grownBy w' v.ownBlock → (∀ k, v'.ownBlock = some k → v.ownBlock = some k ∨ w.heap.size ≤ k) → wpList Try.prog ops Q rest (a.put o.dst v') w') : wpList Try.prog ops Q (o :: rest) a w := by
  obtain ⟨i0, hi0, hz0, hz1, hz2⟩ := info_parts E.info
  have hfew := E.few
  have hb : (L.length + 1) * E.bytes ≤ 140737488355328 := Nat.le_trans (Nat.mul_le_mul_left _ hfew) (by omega)
  refine wpList_append_lies _ hgd s x E.sl ho base E.ty i0 _ E.z E.bytes E.under hi0 hz0 hz1 hz2 E.zlen E.pos v L.length (elCells E L) hs hown ⟨g, 0, none⟩ 1 1 (E.enc c) hx (by rw [E.len, Nat.one_mul]) (news_whole hc) (E.one c) (Nat.le_refl _) (by unfold maxLen; omega) hb hbase _ rfl ?_
  intro g' cap w' h1 h2 h3 h4
  refine h _ w' ?_ h2 (own_here h3)
  unfold OwnE
  rw [elCells_append]
  simpa [elCells] using h1
/-- Nothing is appended. -/
theorem append_empty {α : Type} (E : El α) (ty : TypeId) {w W : World} {base : Nat} {v : Value} {L : List α} (h : OwnE E w base v L) (q : Option Addr) (c : Nat) : (Builtin.append_ #[E.sl, E.sl] ty #[v, .slice q 0 c]).run Try.prog W = .ok v W := by
  obtain ⟨i0, hi0, hz0, hz1, hz2⟩ := info_parts E.info
  obtain ⟨h1, h2⟩ := h
  have hu := E.under
  rcases h2 with ⟨rfl, h0⟩ | ⟨g, cap, cur, rfl, hg, hh, hn, hc, hs, ht⟩
  · cases q <;> simp [Builtin.append_, run_underlying hu, sizeOf, typeInfo, hi0, Builtin.lenOf, Builtin.firstCells, loadCells, loadCellsFrom]
  · have hle : L.length ≤ cap := by omega
    cases q <;> simp [Builtin.append_, run_underlying hu, sizeOf, typeInfo, hi0, Builtin.lenOf, Builtin.firstCells, loadCells, loadCellsFrom, hle, storeCells]
/-- A whole list. -/
theorem wpList_append_els (E : El α) {w : World} {ops : Array Oper} {rest : List Oper} {o : Oper} {a : Act} {Q : Exit → Act → World → Prop} (hgd : o.guard = none) (s x : Operand)
    (ho : o.op = .call { callee := .builtin .append, args := #[s, x], argTypes := #[E.sl, E.sl] })
    (base : Nat) (v : Value) (L M : List α) (hs : a.eval s = v) (hown : OwnE E w base v L) (q : Option Addr) (cq : Nat) (hx : a.eval x = .slice q M.length cq) (hM : Els E w q M) (hL : L.length + M.length ≤ 1000000) (hbase : base ≤ w.heap.size)
    (h : ∀ v' w', OwnE E w' base v' (L ++ M) → w.grownBy w' v.ownBlock → (∀ k, v'.ownBlock = some k → v.ownBlock = some k ∨ w.heap.size ≤ k) → wpList Try.prog ops Q rest (a.put o.dst v') w') : wpList Try.prog ops Q (o :: rest) a w := by
  obtain ⟨i0, hi0, hz0, hz1, hz2⟩ := info_parts E.info
  have hfew := E.few
  by_cases hne : M = []
  · subst hne
    refine wpList_plain hgd fun K hK => ?_
    have hrun := append_empty E o.type (W := w) hown q cq
    unfold Oper.wp execOp
    simp only [List.length_nil] at hx
    simp only [ho, resolve, invoke, builtin, Sem.run_bind, Sem.run_pure, Result.andThen_ok, List.map_toArray, List.map_cons, List.map_nil, hs, hx, hrun]
    refine hK _ _ (h v w ?_ (World.grownBy.refl _ _) (fun k hk => .inl hk))
    rw [List.append_nil]; exact hown
  · obtain ⟨b, o', rfl, -⟩ := hM hne
    have hpos : 0 < M.length := by
      rcases Nat.eq_zero_or_pos M.length with h0 | h0
      · exact absurd (List.eq_nil_of_length_eq_zero h0) hne
      · exact h0
    have hb : (L.length + M.length) * E.bytes ≤ 140737488355328 := Nat.le_trans (Nat.mul_le_mul_left _ hfew) (by omega)
    refine wpList_append_lies _ hgd s x E.sl ho base E.ty i0 _ E.z E.bytes E.under hi0 hz0 hz1 hz2 E.zlen E.pos v L.length (elCells E L) hs hown ⟨b, o', none⟩ M.length cq (elCells E M) hx (elCells_len E M) (hM.news _ rfl) (elCells_one E M) hpos (by unfold maxLen; omega) hb hbase _ rfl ?_
    intro g' cap w' h1 h2 h3 h4
    refine h _ w' ?_ h2 (own_here h3)
    unfold OwnE
    rw [elCells_append, List.length_append]
    exact h1
/-- Behind an append: what was there ahead of the call stands. -/
theorem ownE_grown {w wr w' : World} {B : Nat} {v : Value} {L : List α} (hB : Below B w wr) (hw : B ≤ w.heap.size) (hown : OwnE E wr B v L) (hg : wr.grownBy w' v.ownBlock) : Below B w w' := by
  have ht : Turned (fun j => v.ownBlock = some j) wr w' := Turned.grown hg (fun j hj _ => hj)
  exact hB.trans (ht.toBelow (Nat.le_trans hw hB.size) (fun k hk e => (hown.lt e).1))
end
end Go.Proofs.Ytaolhhgfnhhgaaa
