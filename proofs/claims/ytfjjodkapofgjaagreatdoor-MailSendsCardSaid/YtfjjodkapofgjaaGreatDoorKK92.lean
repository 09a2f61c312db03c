/- Mail, by the program: Bytes (a strings.Builder, field by field). -/
import Derived.Test.YtfjjodkapofgjaaGreatDoorSh
import Derived.Test.YtfjjodkapofgjaaGreatDoorKK0
namespace Go.Proofs.YtfjjodkapofgjaaGreatDoor
open Go Go.RowKit Sm
attribute [local go_sem] Oper.semAt_some

/-- What is written into a builder, with the frame that reaches above it. -/
theorem bwrite_any (B b : Nat) (bs : List Value) (s : ByteArray) (w : World) (h : Lib.IsBuilderF 83 5 B b bs w) (hlen : bs.length + s.size ≤ 140737488355328) (hBw : B ≤ w.heap.size) :
    Calls Tryz.prog 62 #[.pointer (some ⟨b, 0, none⟩), .string s] w fun e w' => e = .returned (.tuple #[.int .i64 s.size, .nilIface]) ∧ (Lib.BuilderAtF 83 5 B b (.pointer (some ⟨b, 0, none⟩)) (bs ++ Lib.strCells s) w' ∧ Below B w w' ∧ Lib.OthersKept 5 (some b) w w') :=
  Any.Builder_WriteString_k (P := Tryz.prog) (ρ := Tryz.lays105_ren) { Tryz.lays105 with } Tryz.Builder_Extra_105 B b bs s w h hlen hBw
theorem isB_booked {T e : TypeId} {B b S : Nat} {bs : List Value} {w w' : World} (h : Lib.IsBuilderF T e B b bs w) (hb : Booked S w w') : Lib.IsBuilderF T e B b bs w' := by
  have go : ∀ p, Lib.BuilderAtF T e B b p bs w → Lib.BuilderAtF T e B b p bs w' := by
    rintro p ⟨h1, v, h2, ⟨h3, h4⟩, h5⟩
    refine ⟨h1, v, hb.heap h2, ⟨h3, ?_⟩, h5⟩
    rcases h4 with h4 | ⟨g, cap, cur, fz, hv, hg, hh, r⟩
    · exact .inl h4
    · exact .inr ⟨g, cap, cur, fz, hv, hg, hb.heap hh, r⟩
  exact h.elim (fun x => .inl (go _ x)) (fun x => .inr (go _ x))
/-- What the iterator of a mail's fields and the loop hold. -/
structure ByI (w : World) (B1 B2 : Nat) (m : Ml) (acc : List UInt8) (A : World) : Prop where
  f : Lib.IsBuilderF 83 5 w.heap.size B1 (Lib.byteCells acc) A
  bx : A.heap[B2]? = some (.cells #[.int .u32 m.src, .int .i64 m.money, .int .u16 m.item, .int .i64 m.n] 30 (0, 0))
  t : Below w.heap.size w A
section
variable {w : World} {B1 B2 : Nat} {m : Ml} {acc : List UInt8} {A A' : World}
theorem ByI.booked {B : Nat} (h : ByI w B1 B2 m acc A) (hb : Booked B A A') (hB : w.heap.size ≤ B) : ByI w B1 B2 m acc A' :=
  ⟨isB_booked h.f hb, hb.heap h.bx, (hb.turned (Turned.new h.t : Turned (fun _ => False) w A) hB).toBelow (Nat.le_refl _) (fun _ _ h => h.elim)⟩
theorem ByI.new (h : ByI w B1 B2 m acc A) (hb : Below A.heap.size A A') : ByI w B1 B2 m acc A' :=
  ⟨isB_booked (S := 0) h.f (Booked.below hb), (hb.block _ (lt_of_heap h.bx)).trans h.bx, bc_then h.t hb⟩
theorem ByI.box (h : ByI w B1 B2 m acc A) : MlBox A B2 m.src m.money m.item m.n := by
  constructor <;> exact cell_whole (cur := [.int .u32 m.src, .int .i64 m.money, .int .u16 m.item, .int .i64 m.n]) h.bx _
theorem ByI.wrote {x : List UInt8} (h : ByI w B1 B2 m acc A) (hB : B2 ≠ B1) (hf : Lib.BuilderAtF 83 5 w.heap.size B1 (.pointer (some ⟨B1, 0, none⟩)) (Lib.byteCells acc ++ Lib.strCells ⟨x.toArray⟩) A') (hb : Below w.heap.size A A') (hk : Lib.OthersKept 5 (some B1) A A') : ByI w B1 B2 m (acc ++ x) A' :=
  ⟨.inr (by rw [Lib.byteCells_append]; exact hf), hk _ _ h.bx (by simpa using hB) (by intro c fz hc; cases hc), h.t.trans hb⟩
end
theorem lt_of_heap' {w : World} {k : Nat} {o : Obj} (h : w.heap[k]? = some o) : k < w.heap.size := (Array.getElem?_eq_some_iff.1 h).1
theorem isB_cells {T e : TypeId} {B b : Nat} {bs : List Value} {w : World} (h : Lib.IsBuilderF T e B b bs w) : ∃ c t fr, w.heap[b]? = some (.cells c t fr) :=
  h.elim (fun ⟨_, _, h, _⟩ => ⟨_, _, _, h⟩) (fun ⟨_, _, h, _⟩ => ⟨_, _, _, h⟩)
/-- What holds no cells stands behind a write into a builder. -/
theorem kept_others {e : TypeId} {b : Nat} {A A' : World} (h : Lib.OthersKept e (some b) A A') (hb : ∃ c t fr, A.heap[b]? = some (.cells c t fr)) {k : Nat} {o : Obj} (hk : A.heap[k]? = some o) (ho : o.isCells = false) : A'.heap[k]? = some o := by
  refine h k o hk (fun e => ?_) (fun c fz e => by rw [e] at ho; cases ho)
  obtain ⟨c, t, fr, hc⟩ := hb
  rw [← Option.some.inj e, hk] at hc
  cases hc
  cases ho
theorem keeps_others {B b : Nat} {e : TypeId} {A A' A'' : World} (h1 : Below A.heap.size A A') (h2 : Lib.OthersKept e (some b) A' A'') (hs : A'.heap.size ≤ A''.heap.size) (hb : ∃ c t fr, A'.heap[b]? = some (.cells c t fr)) : KeepsFrom B A A'' :=
  ⟨Nat.le_trans h1.size hs, fun _ _ _ hk ho => kept_others h2 hb ((h1.block _ (lt_of_heap' hk)).trans hk) ho⟩
theorem putB_drop (v s : Nat) : ∀ d, (putB v (d + s)).drop d = putB v s
  | 0 => by rw [Nat.zero_add]; rfl
  | d + 1 => by rw [show d + 1 + s = (d + s) + 1 by omega, putB_succ]; exact putB_drop v s d
def fldB (x : Nat × Int) : List UInt8 := putB x.2.toNat x.1
theorem flds_key (m : Ml) : m.flds.flatMap fldB = keyM m := by
  simp [Ml.flds, fldB, keyM]
theorem flds_take (L : List (Nat × Int)) (k : Nat) (h : k < L.length) : (L.take (k + 1)).flatMap fldB = (L.take k).flatMap fldB ++ fldB (L.getD k (0, 0)) := by
  rw [List.take_succ_eq_append_getElem h, List.flatMap_append]
  simp [List.getD, h]
theorem flds_few (m : Ml) (k : Nat) : ((m.flds.take k).flatMap fldB).length ≤ 22 := by
  match k with
  | 0 => simp
  | 1 => simp [Ml.flds, fldB]
  | 2 => simp [Ml.flds, fldB]
  | 3 => simp [Ml.flds, fldB]
  | k + 4 => simp [Ml.flds, fldB]
theorem flds_sz (m : Ml) (k : Nat) (h : k < 4) : (m.flds.getD k (0, 0)).1 ≤ 8 ∧ 0 < (m.flds.getD k (0, 0)).1 := by
  match k, h with
  | 0, _ => simp [Ml.flds]
  | 1, _ => simp [Ml.flds]
  | 2, _ => simp [Ml.flds]
  | 3, _ => simp [Ml.flds]
theorem flds_amt (m : Ml) (hm : m.Ok) (hr : rightM m = true) (k : Nat) (h : k < 4) : amt (m.flds.getD k (0, 0)).2 = true := by
  have hs := hm.src
  have hi := hm.item
  obtain ⟨-, h2, h3, -⟩ := (rightM_iff m).1 hr
  rw [amt_iff]
  match k, h with
  | 0, _ => show 0 ≤ (m.src : Int) ∧ (m.src : Int) ≤ 1152921504606846976; omega
  | 1, _ => exact h2
  | 2, _ => show 0 ≤ (m.item : Int) ∧ (m.item : Int) ≤ 1152921504606846976; omega
  | 3, _ => exact h3
theorem els_oneL (W : World) (y : Int) (t : TypeId) : Els elL (W.alloc (.cells #[.int .i64 y] t)) (some ⟨W.heap.size, 0, none⟩) [y] := by
  intro _
  refine ⟨_, _, rfl, ?_⟩
  intro k j hk hj
  have hj0 : j = 0 := Nat.lt_one_iff.1 hj
  subst hj0
  simp only [List.length_cons, List.length_nil] at hk
  match k, hk with
  | 0, _ => show _ = some (Value.int .i64 y); rw [show elL.z = 1 from rfl]; go_simp
end Go.Proofs.YtfjjodkapofgjaaGreatDoor
