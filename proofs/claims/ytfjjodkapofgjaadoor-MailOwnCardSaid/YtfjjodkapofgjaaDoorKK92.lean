/- Mail, by the program: Bytes (a strings.Builder, field by field). -/
import Derived.Test.YtfjjodkapofgjaaDoorSh
import Derived.Test.YtfjjodkapofgjaaDoorKK0
namespace Go.Proofs.YtfjjodkapofgjaaDoor
open Go Go.RowKit Sm
attribute [local go_sem] Oper.semAt_some

/-- What is written into a builder, with the frame that reaches above it. -/
theorem bwrite_any (B b : Nat) (bs : List Value) (s : ByteArray) (w : World) (h : Lib.IsBuilderF 51 5 B b bs w) (hlen : bs.length + s.size ≤ 140737488355328) (hBw : B ≤ w.heap.size) :
    Calls Tryd.prog 22 #[.pointer (some ⟨b, 0, none⟩), .string s] w fun e w' => e = .returned (.tuple #[.int .i64 s.size, .nilIface]) ∧ (Lib.BuilderAtF 51 5 B b (.pointer (some ⟨b, 0, none⟩)) (bs ++ Lib.strCells s) w' ∧ Below B w w' ∧ Lib.OthersKept 5 (some b) w w') :=
  Any.Builder_WriteString_k (P := Tryd.prog) (ρ := Tryd.lays105_ren) { Tryd.lays105 with } Tryd.Builder_Extra_105 B b bs s w h hlen hBw
theorem isB_booked {T e : TypeId} {B b S : Nat} {bs : List Value} {w w' : World} (h : Lib.IsBuilderF T e B b bs w) (hb : Booked S w w') : Lib.IsBuilderF T e B b bs w' := by
  have go : ∀ p, Lib.BuilderAtF T e B b p bs w → Lib.BuilderAtF T e B b p bs w' := by
    rintro p ⟨h1, v, h2, ⟨h3, h4⟩, h5⟩
    refine ⟨h1, v, hb.heap h2, ⟨h3, ?_⟩, h5⟩
    rcases h4 with h4 | ⟨g, cap, cur, fz, hv, hg, hh, r⟩
    · exact .inl h4
    · exact .inr ⟨g, cap, cur, fz, hv, hg, hb.heap hh, r⟩
  exact h.elim (fun x => .inl (go _ x)) (fun x => .inr (go _ x))
/-- What the iterator of a mail's fields and the loop hold. -/
structure ByI (w : World) (B1 B2 : Nat) (m : Ml) (acc : List UInt8) (A : World) : Prop where
  f : Lib.IsBuilderF 51 5 w.heap.size B1 (Lib.byteCells acc) A
  bx : A.heap[B2]? = some (.cells #[.int .u32 m.src, .int .i64 m.money, .int .u16 m.item, .int .i64 m.n] 27 (0, 0))
  t : Below w.heap.size w A
section
variable {w : World} {B1 B2 : Nat} {m : Ml} {acc : List UInt8} {A A' : World}
theorem ByI.booked {B : Nat} (h : ByI w B1 B2 m acc A) (hb : Booked B A A') (hB : w.heap.size ≤ B) : ByI w B1 B2 m acc A' :=
  ⟨isB_booked h.f hb, hb.heap h.bx, (hb.turned (Turned.new h.t : Turned (fun _ => False) w A) hB).toBelow (Nat.le_refl _) (fun _ _ h => h.elim)⟩
theorem ByI.new (h : ByI w B1 B2 m acc A) (hb : Below A.heap.size A A') : ByI w B1 B2 m acc A' :=
  ⟨isB_booked (S := 0) h.f (Booked.below hb), (hb.block _ (lt_of_heap h.bx)).trans h.bx, bc_then h.t hb⟩
theorem ByI.box (h : ByI w B1 B2 m acc A) : MlBox A B2 m.src m.money m.item m.n := by
  constructor <;> exact cell_whole (cur := [.int .u32 m.src, .int .i64 m.money, .int .u16 m.item, .int .i64 m.n]) h.bx _
theorem ByI.wrote {x : List UInt8} (h : ByI w B1 B2 m acc A) (hB : B2 ≠ B1) (hf : Lib.BuilderAtF 51 5 w.heap.size B1 (.pointer (some ⟨B1, 0, none⟩)) (Lib.byteCells acc ++ Lib.strCells ⟨x.toArray⟩) A') (hb : Below w.heap.size A A') (hk : Lib.OthersKept 5 (some B1) A A') : ByI w B1 B2 m (acc ++ x) A' :=
  ⟨.inr (by rw [Lib.byteCells_append]; exact hf), hk _ _ h.bx (by simpa using hB) (by intro c fz hc; cases hc), h.t.trans hb⟩
end
theorem lt_of_heap' {w : World} {k : Nat} {o : Obj} (h : w.heap[k]? = some o) : k < w.heap.size := (Array.getElem?_eq_some_iff.1 h).1
theorem isB_cells {T e : TypeId} {B b : Nat} {bs : List Value} {w : World} (h : Lib.IsBuilderF T e B b bs w) : ∃ c t fr, w.heap[b]? = some (.cells c t fr) :=
  h.elim (fun ⟨_, _, h, _⟩ => ⟨_, _, _, h⟩) (fun ⟨_, _, h, _⟩ => ⟨_, _, _, h⟩)
/-- What holds no cells stands behind a write into a builder. -/
theorem kept_others {e : TypeId} {b : Nat} {A A' : World} (h : Lib.OthersKept e (some b) A A') (hb : ∃ c t fr, A.heap[b]? = some (.cells c t fr)) {k : Nat} {o : Obj} (hk : A.heap[k]? = some o) (ho : o.isCells = false) : A'.heap[k]? = some o := by
  refine h k o hk (fun e => ?_) (fun c fz e => by rw [e] at ho; cases ho)
  obtain ⟨c, t, fr, hc⟩ := hb
  rw [← Option.some.inj e, hk] at hc
  cases hc
  cases ho
theorem keeps_others {B b : Nat} {e : TypeId} {A A' A'' : World} (h1 : Below A.heap.size A A') (h2 : Lib.OthersKept e (some b) A' A'') (hs : A'.heap.size ≤ A''.heap.size) (hb : ∃ c t fr, A'.heap[b]? = some (.cells c t fr)) : KeepsFrom B A A'' :=
  ⟨Nat.le_trans h1.size hs, fun _ _ _ hk ho => kept_others h2 hb ((h1.block _ (lt_of_heap' hk)).trans hk) ho⟩
theorem putB_drop (v s : Nat) : ∀ d, (putB v (d + s)).drop d = putB v s
  | 0 => by rw [Nat.zero_add]; rfl
  | d + 1 => by rw [show d + 1 + s = (d + s) + 1 by omega, putB_succ]; exact putB_drop v s d
def fldB (x : Nat × Int) : List UInt8 := putB x.2.toNat x.1
theorem flds_key (m : Ml) : m.flds.flatMap fldB = keyM m := by
  simp [Ml.flds, fldB, keyM]
theorem flds_take (L : List (Nat × Int)) (k : Nat) (h : k < L.length) : (L.take (k + 1)).flatMap fldB = (L.take k).flatMap fldB ++ fldB (L.getD k (0, 0)) := by
  rw [List.take_succ_eq_append_getElem h, List.flatMap_append]
  simp [List.getD, h]
theorem flds_few (m : Ml) (k : Nat) : ((m.flds.take k).flatMap fldB).length ≤ 22 := by
  match k with
  | 0 => simp
  | 1 => simp [Ml.flds, fldB]
  | 2 => simp [Ml.flds, fldB]
  | 3 => simp [Ml.flds, fldB]
  | k + 4 => simp [Ml.flds, fldB]
theorem flds_sz (m : Ml) (k : Nat) (h : k < 4) : (m.flds.getD k (0, 0)).1 ≤ 8 ∧ 0 < (m.flds.getD k (0, 0)).1 := by
  match k, h with
  | 0, _ => simp [Ml.flds]
  | 1, _ => simp [Ml.flds]
  | 2, _ => simp [Ml.flds]
  | 3, _ => simp [Ml.flds]
theorem flds_amt (m : Ml) (hm : m.Ok) (hr : rightM m = true) (k : Nat) (h : k < 4) : amt (m.flds.getD k (0, 0)).2 = true := by
  have hs := hm.src
  have hi := hm.item
  obtain ⟨-, h2, h3, -⟩ := (rightM_iff m).1 hr
  rw [amt_iff]
  match k, h with
  | 0, _ => show 0 ≤ (m.src : Int) ∧ (m.src : Int) ≤ 1152921504606846976; omega
  | 1, _ => exact h2
  | 2, _ => show 0 ≤ (m.item : Int) ∧ (m.item : Int) ≤ 1152921504606846976; omega
  | 3, _ => exact h3
theorem els_oneL (W : World) (y : Int) (t : TypeId) : Els elL (W.alloc (.cells #[.int .i64 y] t)) (some ⟨W.heap.size, 0, none⟩) [y] := by
  intro _
  refine ⟨_, _, rfl, ?_⟩
  intro k j hk hj
  have hj0 : j = 0 := Nat.lt_one_iff.1 hj
  subst hj0
  simp only [List.length_cons, List.length_nil] at hk
  match k, hk with
  | 0, _ => show _ = some (Value.int .i64 y); rw [show elL.z = 1 from rfl]; go_simp
theorem mobytes_one (y : Int) (hy : amt y = true) (w : World) (hS : MSent w) : ∀ (W : World) (g : Nat), g = W.heap.size → Below w.heap.size w W → Calls Tryd.prog 21 #[.slice (some ⟨g, 0, none⟩) 1 1] (W.alloc (.cells #[.int .i64 y] 2)) fun e w' => e = .returned (.tuple #[.string ⟨(putB y.toNat 8).toArray⟩, .int .i64 0]) ∧ Below W.heap.size W w' := fun W g hg hb => by
  subst hg
  refine (mobytes_any (w := W.alloc (.cells #[.int .i64 y] 2)) [y] 1 (els_oneL W y _) (by simp) (hS.below (below_al hb _))).mono ?_
  rintro e w' ⟨h1, h2⟩
  have e1 : bytesR [y] = (putB y.toNat 8, 0) := by
    unfold bytesR
    rw [if_pos (by simp [hy])]
    simp [bytesM]
  rw [e1] at h1
  exact ⟨h1, bc_then (below_al (Below.refl _ _) _) h2⟩

set_option maxRecDepth 20000 in
set_option maxHeartbeats 4000000 in
theorem mlbytes_any (m : Ml) (hm : m.Ok) (w : World) (hS : MSent w) : Calls Tryd.prog 9 #[m.v] w fun e w' => e = .returned (.tuple #[.string ⟨(bytesMl m).1.toArray⟩, .int .i64 (bytesMl m).2]) ∧ Below w.heap.size w w' := by
  have HRt : Veil _ := ⟨fun w => mlright_any m hm w⟩
  by_cases hr : rightM m = true
  · have e : bytesMl m = (keyM m, 0) := by unfold bytesMl; rw [if_pos hr]
    rw [e]
    rw [hr] at HRt
    clear e
    have HF : Veil _ := ⟨fun w => mlfields_any m w⟩
    have HSQ : Veil _ := ⟨fun Bx => mlfields_seq Bx m hm⟩
    have HA : Veil _ := ⟨flds_amt m hm hr⟩
    have HMS : Veil (∀ W, Below w.heap.size w W → MSent W) := ⟨fun W hb => hS.below hb⟩
    have HST : Veil _ := ⟨fun (b : Nat) (W : World) (h : Lib.IsBuilderF 51 5 w.heap.size b (Lib.byteCells (keyM m)) W) hB => Tryd.Builder_String_any_k w.heap.size b (keyM m) W h hB⟩
    clear hr hS
    refine calls_of_wp_marks Tryd.func9 rfl ?_
    simp only [Tryd.ntmps9, List.size_toArray, List.length_cons, List.length_nil, Nat.reduceAdd, Nat.reduceSub, Array.replicate_succ, Array.replicate_zero, List.push_toArray, List.append_toArray, List.nil_append, List.cons_append]
    obtain ⟨M, hM⟩ : ∃ M : Ml, M = m := ⟨_, rfl⟩
    have HM : Veil _ := ⟨hM⟩
    generalize hKM : keyM m = KM at HST ⊢
    have HKM : Veil _ := ⟨hKM⟩
    clear hM hKM
    obtain ⟨f, mo, i, n⟩ := m
    unfold Ml.v at *
    dsimp only at *
    clear hm
    have HB0 : Veil _ := ⟨heap_alloc_new w (.cells #[.int .u32 f, .int .i64 mo, .int .u16 i, .int .i64 n] 27)⟩
    go_wp2_with (first
      | (go_at_call 20; refine (HF.out _).mono ?_; rintro e w2 ⟨rfl, hw2⟩)
      | (go_at_call 13; refine (HRt.out _).mono ?_; rintro e w1 ⟨rfl, hb1⟩; have HBl : Veil _ := ⟨bc_then (below_al (Below.refl _ w) _) hb1⟩; obtain ⟨⟨y0, y1, y2, y3⟩, -⟩ := pkM ((hb1.block _ (lt_of_heap HB0.out)).trans HB0.out); have hlt1 : w.heap.size < w1.heap.size := lt_of_heap ((hb1.block _ (lt_of_heap HB0.out)).trans HB0.out); clear hb1))
    obtain ⟨B1, e1⟩ : ∃ B1, w1.heap.size = B1 := ⟨_, rfl⟩
    obtain ⟨B2, e2⟩ : ∃ B2, B1 + 1 = B2 := ⟨_, rfl⟩
    have hI : ByI w B1 B2 ⟨f, mo, i, n⟩ [] w2 := by
      rw [← hw2, ← e2, ← e1]
      refine ⟨.inl ?_, ?_, bc_then HBl.out (below_al (below_al (Below.refl _ _) _) _)⟩
      · exact ⟨Nat.le_of_lt hlt1, .slice none 0 0, (by
          simp only [heap_alloc_if, World.size_alloc]
          repeat (first | rw [if_neg (by omega)] | rw [if_pos (by first | trivial | omega)])), World.ownsRowF_nil _ _ _ _, (by simp [Value.ownBlock])⟩
      · simp only [heap_alloc_if, World.size_alloc]
        repeat (first | rw [if_neg (by omega)] | rw [if_pos (by first | trivial | omega)])
    have hz2 : w2.heap.size = B2 + 1 := by rw [← hw2]; simp; omega
    have HW : Veil (w.heap.size < B1 ∧ B1 < B2) := ⟨by omega⟩
    have HZ : Veil (w2.heap.size = B2 + 1) := ⟨hz2⟩
    rw [e1, e2]
    clear hw2 e1 e2 hz2 hlt1
    have HKM2 : Veil ((Ml.flds ⟨f, mo, i, n⟩).flatMap fldB = KM) := ⟨(flds_key _).trans HKM.out⟩
    refine wp_range_break (gf := 38) (lb := #[.pointer (some ⟨B2, 0, none⟩)]) rfl (enters_of Tryd.func38 (by kernel_rfl) rfl)
      (HSQ.out B2) (fun k => rfl)
      (fun k A => ByI w B1 B2 ⟨f, mo, i, n⟩ (((Ml.flds ⟨f, mo, i, n⟩).take k).flatMap fldB) A)
      (fun A => ByI w B1 B2 ⟨f, mo, i, n⟩ KM A) ?hI ?hE ?hF ?h0 ?hN ?hround ?hend
    case hI => rintro k A A' h1 hb; exact h1.booked hb (by have := HW.out; have := HZ.out; omega)
    case hE => rintro A A' h1 hb; exact h1.booked hb (by have := HW.out; have := HZ.out; omega)
    case hF => rintro k A h; exact h.box
    case h0 => exact hI
    case hN =>
      rintro A h1
      rw [List.take_of_length_le (Nat.le_of_eq (flds_len _)), HKM2.out] at h1
      exact h1
    case hround =>
      rintro l m k A hl2 hlt hi
      simp only [handsMl, List.zip_cons_cons, List.zip_nil_right, List.foldl_cons, List.foldl_nil, List.setIfInBounds_toArray, List.set_cons_succ, List.set_cons_zero]
      have HTk : Veil _ := ⟨flds_take (Ml.flds ⟨f, mo, i, n⟩) k (show k < (Ml.flds ⟨f, mo, i, n⟩).length from hlt)⟩
      have HFw : Veil _ := ⟨flds_few ⟨f, mo, i, n⟩ k⟩
      have hsz := flds_sz ⟨f, mo, i, n⟩ k hlt
      have ham := HA.out k hlt
      clear hI
      have HI : Veil _ := ⟨hi⟩
      clear hi
      revert HTk HFw hsz ham HI
      generalize ((Ml.flds ⟨f, mo, i, n⟩).take k).flatMap fldB = acc
      generalize (Ml.flds ⟨f, mo, i, n⟩).getD k (0, 0) = x
      obtain ⟨sz, y⟩ := x
      intro HTk HFw hsz ham HI
      dsimp only [fldB] at *
      have HMB : Veil _ := ⟨fun W hW => mobytes_one y ham W (HMS.out W hW)⟩
      obtain ⟨d, hd⟩ : ∃ d : Nat, d + sz = 8 := ⟨8 - sz, by omega⟩
      have hE : (putB y.toNat 8).drop d = putB y.toNat sz := by rw [← hd]; exact putB_drop _ _ _
      have hEl : (putB y.toNat 8).length = 8 := by simp
      rw [← hE] at HTk
      clear hE ham
      revert HMB HTk hEl
      generalize putB y.toNat 8 = E
      intro HMB HTk hEl
      have hsd : (sz : Int) = 8 - (d : Int) := by omega
      have HSX : Veil ((⟨E.toArray⟩ : ByteArray).extract (8 - (8 - d)) 8 = ⟨(E.drop d).toArray⟩) := ⟨by
        rw [extM, List.take_of_length_le (by rw [List.length_drop]; omega), show 8 - (8 - d) = d by omega]⟩
      have HLn : Veil ((Lib.byteCells acc).length + ((⟨E.toArray⟩ : ByteArray).extract (8 - (8 - d)) 8).size ≤ 140737488355328) := ⟨by
        rw [HSX.out, Lib.byteCells_length]
        have h1 := HFw.out
        have h2 : (⟨(E.drop d).toArray⟩ : ByteArray).size = (E.drop d).length := by simp [ByteArray.size]
        rw [h2, List.length_drop]
        omega⟩
      gi_wp2
      refine ⟨KeepsFrom.refl _ _, fun A2 hbk hsz2 => ?_⟩
      have HI2 : Veil _ := ⟨HI.out.booked hbk (by have := HW.out; have := HZ.out; omega)⟩
      clear hbk hsz2
      gi_wp2_with (first
        | (refine calls_roundG ?_; refine (bwrite_any w.heap.size B1 (Lib.byteCells acc) _ w3 HI3.out.f HLn.out HI3.out.t.size).mono ?_; rintro e w4 ⟨rfl, hf4, hb4, hk4⟩)
        | (refine calls_roundG ?_; refine (HMB.out A2 HI2.out.t A2 _ rfl (Below.refl _ _)).mono ?_; rintro e w3 ⟨rfl, hb3⟩; have HI3 : Veil _ := ⟨HI2.out.new hb3⟩; have HB3 : Veil _ := ⟨hb3⟩; clear hb3))
      refine ⟨keeps_others HB3.out hk4 ?_ (isB_cells HI3.out.f), ?_⟩
      · exact hb4.size
      · rw [HTk.out]
        rw [HSX.out] at hf4
        exact HI3.out.wrote (by have := HW.out; omega) hf4 hb4 hk4
    case hend =>
      rintro Dd A hDd h1 hdd
      have HI : Veil _ := ⟨h1⟩
      have HD : Veil _ := ⟨hdd⟩
      clear h1 hdd hI
      go_wp2_with (go_at_call 23; refine (HST.out B1 _ HI.out.f HI.out.t.size).mono ?_; rintro e w4 ⟨rfl, hf4, hb4, hk4⟩)
      refine leaves_mark (D := Dd) (B := w.heap.size) (kept_others hk4 (isB_cells HI.out.f) HD.out rfl) (by have := HW.out; have := HZ.out; omega) ?_
      intro w' hb _
      refine leaves_none (results_two rfl rfl rfl) ⟨rfl, ?_⟩
      exact (hb.turned (Turned.new (HI.out.t.trans hb4) : Turned (fun _ => False) w w4) (Nat.le_refl _)).toBelow (Nat.le_refl _) (fun _ _ h => h.elim)
  · have e : bytesMl m = ([], 140) := by unfold bytesMl; rw [if_neg hr]
    have hf : rightM m = false := by simpa using hr
    rw [e]
    rw [hf] at HRt
    dsimp only
    clear e hf hr hS
    obtain ⟨f, mo, i, n⟩ := m
    unfold Ml.v at *
    dsimp only at *
    clear hm
    go_enter Tryd.func9, Tryd.ntmps9
    go_wp2_with (go_at_call 13; refine (HRt.out _).mono ?_; rintro e w1 ⟨rfl, hb1⟩)
    go_ret2
    exact ⟨rfl, bc_then (below_al (Below.refl _ _) _) hb1⟩
end Go.Proofs.YtfjjodkapofgjaaDoor
