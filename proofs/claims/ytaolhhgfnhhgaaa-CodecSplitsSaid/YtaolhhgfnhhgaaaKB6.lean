/- Codec: numbers, by the program: what bytes tell, one number behind the other. -/
import Derived.Test.YtaolhhgfnhhgaaaKB5
import Derived.Test.YtaolhhgfnhhgaaaKO1
namespace Go.Proofs.Ytaolhhgfnhhgaaa
open Go Go.RowKit Sm
attribute [local go_sem] Oper.semAt_some

/-- A call in a round, by the callee's plain contract. -/
theorem calls_roundB {P : Program} {f : FuncId} {args : Array Value} {w : World} {R : Ending → World → Prop} {l m : Nat} (h : Calls P f args w R) :
    Fence.wide.fn f ∧ (Fence.wide.depth.isSome = true → 1 ≤ m) ∧ CallsIn (Fence.wide.inRound l) (m - 1) P f args w R := by
  refine ⟨trivial, fun hd => by simp [Fence.wide] at hd, ?_⟩
  have h' := (callsIn_wide (n := m - 1)).2 h
  refine ⟨trivial, fun cs hr => ?_⟩
  obtain ⟨e, w2, fr, hR, hs, hf⟩ := h'.2 cs (room_wide _)
  exact ⟨e, w2, fr, hR, hs, hf⟩
theorem RdZ.booked {Bx g B : Nat} {zs : List Nat} {W W' : World} (h : RdZ Bx g zs W) (hb : Booked B W W') : RdZ Bx g zs W' := ⟨hb.heap h.bx, hb.heap h.row⟩
theorem RdZ.turned {Bx g : Nat} {zs : List Nat} {F : Nat → Prop} {W W' : World} (h : RdZ Bx g zs W) (ht : Turned F W W') (h1 : ¬ F Bx) (h2 : ¬ F g) : RdZ Bx g zs W' := ⟨ht.heap h.bx h1, ht.heap h.row h2⟩
/-- While numbers are read: the text's box, the numbers', where it stands, the iterator's. -/
structure NuI (w : World) (s : List UInt8) (g : Nat) (zs : List Nat) (B0 : Nat) (en : Nat) (v : Value) (ns : List Nat) (A : World) : Prop where
  key : A.heap[B0]? = some (.cells #[.string ⟨s.toArray⟩] 9 (0, 0))
  num : A.heap[B0 + 1]? = some (.cells #[v] 58 (0, 0))
  at' : A.heap[B0 + 2]? = some (.cells #[.int .i64 en] 3 (0, 0))
  it : RdZ (B0 + 3) g zs A
  own : OwnE elQ A (B0 + 4) v ns
  t : Turned (fun _ => False) w A
section
variable {w A A' : World} {s : List UInt8} {g B0 en : Nat} {zs : List Nat} {v : Value} {ns : List Nat}
theorem NuI.booked {S : Nat} (h : NuI w s g zs B0 en v ns A) (hb : Booked S A A') (hS : w.heap.size ≤ S) : NuI w s g zs B0 en v ns A' :=
  ⟨hb.heap h.key, hb.heap h.num, hb.heap h.at', h.it.booked hb, hb.ownsRow h.own, hb.turned h.t hS⟩
theorem NuI.turned {F : Nat → Prop} (h : NuI w s g zs B0 en v ns A) (ht : Turned F A A') (h0 : ¬ F B0) (h1 : ¬ F (B0 + 1)) (h2 : ¬ F (B0 + 2)) (h3 : ¬ F (B0 + 3)) (hg : ¬ F g) (hv : ∀ k, v.ownBlock = some k → ¬ F k) (hF : ∀ k, F k → w.heap.size ≤ k) : NuI w s g zs B0 en v ns A' :=
  ⟨ht.heap h.key h0, ht.heap h.num h1, ht.heap h.at' h2, h.it.turned ht h3 hg, h.own.kept ht hv, h.t.then ht (fun k hk hf => by have := hF k hf; omega)⟩
theorem NuI.new (h : NuI w s g zs B0 en v ns A) (hb : Below A.heap.size A A') : NuI w s g zs B0 en v ns A' :=
  h.turned (F := fun _ => False) (Turned.new hb) id id id id id (fun _ _ h => h) (fun _ h => h.elim)
theorem NuI.at2 (h : NuI w s g zs B0 en v ns A) (hB : w.heap.size ≤ B0) (hg : g < w.heap.size) (n : Nat) : NuI w s g zs B0 n v ns (A.setCell ⟨B0 + 2, 0, none⟩ (.int .i64 n)) := by
  have ht : Turned (· = B0 + 2) A (A.setCell ⟨B0 + 2, 0, none⟩ (.int .i64 n)) := (Turned.refl (· = B0 + 2) A).setCell (p := ⟨B0 + 2, 0, none⟩) rfl _
  refine ⟨ht.heap h.key (by omega), ht.heap h.num (by omega), ?_, h.it.turned ht (by omega) (by omega), h.own.kept ht (fun j hj e => by have := (h.own.lt hj).1; omega), h.t.then ht (fun j hj e => by omega)⟩
  have := heap_setCell_at h.at' 0 (.int .i64 n)
  exact this
end
def numsR (s : List UInt8) (zs : List Nat) : Bool := decide (s.length = zs.sum)
def NuPost (s : List UInt8) (zs : List Nat) (w : World) (e : Ending) (w' : World) : Prop := ∃ v, e = .returned v ∧ ((s.length = zs.sum ∧ ∃ p c, v = .slice p zs.length c ∧ Els elQ w' p (numsB s zs)) ∨ (s.length ≠ zs.sum ∧ v = .slice none 0 0)) ∧ Below w.heap.size w w'
theorem numsB_len (s : List UInt8) (zs : List Nat) : (numsB s zs).length = zs.length := by simp [numsB]
theorem offB_all (zs : List Nat) : offB zs zs.length = zs.sum := by unfold offB; rw [List.take_length]

set_option maxRecDepth 20000 in
set_option maxHeartbeats 4000000 in
theorem cnumbers_any (s : List UInt8) (_hs : s.length ≤ 1000000) (g : Nat) (zs : List Nat) (hz : ∀ x ∈ zs, x ≤ 8) (hn : zs.length ≤ 6) (w : World) (hg : w.heap[g]? = some (.cells (i64row zs).toArray 3 (0, 0))) :
    Calls Try.prog 28 #[.string ⟨s.toArray⟩, .slice (some ⟨g, 0, none⟩) zs.length zs.length] w (NuPost s zs w) := by
  have hgl := lt_of_heap hg
  have HSEQ : Veil _ := ⟨fun Bx => cfields_seq Bx g zs hz hn⟩
  have HF : Veil _ := ⟨fun w => cfields_any g zs.length w⟩
  have HG : Veil _ := ⟨hg⟩
  have HFw : Veil _ := ⟨offB_few zs hz hn⟩
  have HLs : Veil (∀ k, ((numsB s zs).take k).length ≤ 6) := ⟨fun k => by rw [List.length_take, numsB_len]; omega⟩
  refine calls_of_wp_marks Try.func28 rfl ?_
  simp only [Try.ntmps28, List.size_toArray, List.length_cons, List.length_nil, Nat.reduceAdd, Nat.reduceSub, Array.replicate_succ, Array.replicate_zero, List.push_toArray, List.append_toArray, List.nil_append, List.cons_append]
  go_wp2
  go_step3
  go_wp2
  go_step3
  go_wp2_with (go_at_call 36; refine (HF.out _).mono ?_; rintro e w3 ⟨rfl, hw3⟩)
  obtain ⟨B0, e0⟩ : ∃ B0, w.heap.size = B0 := ⟨_, rfl⟩
  have hI0 : NuI w s g zs B0 0 (.slice none 0 0) [] w3 := by
    rw [← hw3, ← e0]
    refine ⟨?_, ?_, ?_, ⟨?_, ?_⟩, OwnE.nil _ _ _, (((((Turned.refl _ _).alloc _).alloc _).alloc _).alloc _)⟩
    all_goals
      simp only [heap_alloc_if, World.size_alloc]; repeat (first | rw [if_neg (by omega)] | rw [if_pos (by first | trivial | omega)])
    all_goals first | rfl | exact HG.out
  have hz3 : w3.heap.size = B0 + 4 := by rw [← hw3, ← e0]; simp
  have HW : Veil (w.heap.size = B0 ∧ w3.heap.size = B0 + 4 ∧ g < w.heap.size) := ⟨e0, hz3, hgl⟩
  rw [e0, show B0 + 1 + 1 + 1 = B0 + 3 from rfl, show B0 + 1 + 1 = B0 + 2 from rfl]
  clear hw3 e0 hz3 hgl hg
  refine wp_range_break (gf := 41) (lb := #[.pointer (some ⟨B0 + 3, 0, none⟩)]) rfl (enters_of Try.func41 (by kernel_rfl) rfl)
    (HSEQ.out (B0 + 3)) (fun k => rfl)
    (fun k A => ∃ v, NuI w s g zs B0 (offB zs k) v ((numsB s zs).take k) A ∧ offB zs k ≤ s.length)
    (fun A => ∃ en v ns, NuI w s g zs B0 en v ns A ∧ (en = s.length → ns = numsB s zs ∧ s.length = zs.sum) ∧ (en ≠ s.length → s.length ≠ zs.sum) ∧ en ≤ 48) ?hI ?hE ?hF ?h0 ?hN ?hround ?hend
  case hI =>
    rintro k A A' ⟨v, h1, h2⟩ hb
    exact ⟨v, h1.booked hb (by have := HW.out; omega), h2⟩
  case hE =>
    rintro A A' ⟨en, v, ns, h1, h2⟩ hb
    exact ⟨en, v, ns, h1.booked hb (by have := HW.out; omega), h2⟩
  case hF =>
    rintro k A ⟨v, h1, h2⟩
    exact h1.it
  case h0 => exact ⟨_, hI0, Nat.zero_le _⟩
  case hN =>
    rintro A ⟨v, h1, h2⟩
    refine ⟨_, v, _, h1, fun e => ⟨?_, ?_⟩, fun e => ?_, HFw.out _⟩
    · rw [← numsB_len s zs, List.take_length]
    · rw [← e, offB_all]
    · rw [offB_all] at e; exact fun h => e h.symm
  case hround =>
    rintro l m k A hl hlt ⟨v, hi, hle⟩
    have HT : Veil _ := ⟨numsB_take s zs k hlt⟩
    have HO : Veil _ := ⟨offB_succ zs k hlt⟩
    have h48 := HFw.out (k + 1)
    have HSum : Veil (s.length < offB zs (k + 1) → s.length ≠ zs.sum) := ⟨fun h e => by have := offB_le zs (k + 1); omega⟩
    have HLe : Veil _ := ⟨hle⟩
    have HI1 : Veil _ := ⟨hi⟩
    have HLk : Veil _ := ⟨HLs.out k⟩
    have HSeg : Veil (segB s zs k = (s.drop (offB zs k)).take (zs.getD k 0)) := ⟨rfl⟩
    clear hi hle hI0 HF HSEQ HLs HFw
    simp only [handsN, List.zip_cons_cons, List.zip_nil_right, List.foldl_cons, List.foldl_nil, List.setIfInBounds_toArray, List.set_cons_succ, List.set_cons_zero]
    revert HT HO h48 HSum HLe HI1 HLk HSeg
    generalize (numsB s zs).take k = ns
    generalize offB zs (k + 1) = en
    generalize offB zs k = o
    generalize zs.getD k 0 = z
    intro HT HO h48 HSum HLe HI1 HLk HSeg
    gi_wp2
    refine ⟨KeepsFrom.refl _ _, fun A2 hbk hsz2 => ?_⟩
    have HI2 : Veil _ := ⟨HI1.out.booked hbk (by have := HW.out; omega)⟩
    clear hbk hsz2 HI1
    have r2 := cell_row6 HI2.out.at'
    have f2 : A2.frozen? ⟨B0 + 2, 0, none⟩ = false := frozen_whole HI2.out.at' _
    have HI3 : Veil _ := ⟨HI2.out.at2 (by have := HW.out; omega) (HW.out.2.2) en⟩
    have HT3 : Veil (Turned (· = B0 + 2) A2 (A2.setCell ⟨B0 + 2, 0, none⟩ (.int .i64 en))) := ⟨(Turned.refl (· = B0 + 2) A2).setCell (p := ⟨B0 + 2, 0, none⟩) rfl _⟩
    have r3 := cell_row6 HI2.out.key
    by_cases hlong : s.length < en
    · gi_wp2
      refine ⟨keepsFrom_turned6 HT3.out (fun j hj => .inl (by have := HW.out; omega)), rfl, en, v, ns, HI3.out, fun e => ?_, fun _ => HSum.out hlong, h48⟩
      omega
    gi_wp2
    revert HI3; revert HT3
    generalize A2.setCell ⟨B0 + 2, 0, none⟩ (.int .i64 en) = A3
    intro HT3 HI3
    clear r2 f2 r3 HI2
    obtain ⟨pn, cn, ev, -, -⟩ := HI3.out.own.form
    subst ev
    have HEn : Veil (en = o + z) := ⟨HO.out⟩
    have hoe : o ≤ en := by have := HO.out; omega
    have HNum : Veil (∀ w, Calls Try.prog 37 #[.string ((⟨s.toArray⟩ : ByteArray).extract o en)] w fun e w' => e = .returned (.int .u64 (getB (segB s zs k))) ∧ w = w') := ⟨fun w => by
      have h := cnumber_any ((s.drop o).take z) (by rw [List.length_take]; have := HEn.out; omega) w
      have e : (⟨s.toArray⟩ : ByteArray).extract o en = ⟨((s.drop o).take z).toArray⟩ := by rw [extM, HEn.out, Nat.add_sub_cancel_left]
      rw [e, HSeg.out]
      exact h⟩
    have hx := getB_lt (segB s zs k)
    revert HNum HT hx
    generalize getB (segB s zs k) = x
    intro HT HNum hx
    have hlong' : en ≤ s.length := by omega
    clear hlong hx
    refine region_new_in [.is (.slice pn ns.length cn), .is (.string ⟨s.toArray⟩), .is (.int .i64 o), .is (.int .i64 en), .is (.string ((⟨s.toArray⟩ : ByteArray).extract o en)), .is (.int .u64 x), .row 0 (fun g => .slice (some ⟨g, 0, none⟩) 1 1) #[.int .u64 x] 55]
      [[], [], [], [], [(1, 19), (2, 20), (3, 21)], [(4, 22)], [(5, 23)]]
      [[], [], [], [], [1, 2, 3], [4], [5]]
      [(0, 18), (1, 19), (2, 20), (3, 21), (4, 22), (5, 23), (6, 24)] rfl (by kernel_rfl) rfl ⟨?_, ?_, ?_, ?_, ?_, ?_, ?_, trivial⟩ ?_
    · intro vals W hB _
      have c0 := cell_row6 (HI3.out.new hB).num
      dsimp only [putsL, slotOf]
      go_wp2
      exact ⟨rfl, Below.refl _ _, rfl⟩
    · intro vals W hB _
      have c0 := cell_row6 (HI3.out.new hB).key
      dsimp only [putsL, slotOf]
      go_wp2
      exact ⟨rfl, Below.refl _ _, rfl⟩
    · intro vals W hB _
      dsimp only [putsL, slotOf]
      go_wp2
      exact ⟨rfl, Below.refl _ _, rfl⟩
    · intro vals W hB _
      dsimp only [putsL, slotOf]
      go_wp2
      exact ⟨rfl, Below.refl _ _, rfl⟩
    · intro vals W hB ⟨h1, h2, h3, _⟩
      have h1 : vals 1 = _ := h1
      have h2 : vals 2 = _ := h2
      have h3 : vals 3 = _ := h3
      dsimp only [putsL, slotOf]
      rw [h1, h2, h3]
      go_wp2
      exact ⟨rfl, Below.refl _ _, rfl⟩
    · intro vals W hB ⟨h4, _⟩
      have h4 : vals 4 = _ := h4
      dsimp only [putsL, slotOf]
      rw [h4]
      go_wp2_with ((go_at_call 37; refine (HNum.out _).mono ?_; rintro e w4 ⟨rfl, hw4⟩; subst hw4; have hb4 := Below.refl W.heap.size W))
      exact ⟨rfl, hb4, rfl⟩
    · intro vals W hB ⟨h5, _⟩
      have h5 : vals 5 = _ := h5
      dsimp only [putsL, slotOf]
      rw [h5]
      go_wp2
      exact ⟨rfl, below_al (Below.refl _ _) _, _, Nat.zero_le _, rfl, heap_alloc_new _ _⟩
    rintro vals W hB ⟨q0, q1, q2, q3, q4, q5, ⟨g6, hw6, q6, hg6⟩, -⟩
    have h0 : vals 0 = _ := q0
    have h1 : vals 1 = _ := q1
    have h2 : vals 2 = _ := q2
    have h3 : vals 3 = _ := q3
    have h4 : vals 4 = _ := q4
    have h5 : vals 5 = _ := q5
    have h6 : vals 6 = _ := q6
    dsimp only [putsL]
    rw [h0, h1, h2, h3, h4, h5, h6]
    clear h0 q0 h1 q1 h2 q2 h3 q3 h4 q4 h5 q5 h6 q6
    simp only [List.length_cons, List.length_nil, Nat.reduceAdd, List.drop_succ_cons, List.drop_zero, List.setIfInBounds_toArray, List.set_cons_succ, List.set_cons_zero]
    have HI4 : Veil _ := ⟨HI3.out.new hB⟩
    have HT4 : Veil (Turned (· = B0 + 2) A2 W) := ⟨HT3.out.trans (Turned.new hB)⟩
    have HOA : Veil (∀ j, (Value.slice pn ns.length cn).ownBlock = some j → B0 + 4 ≤ j ∧ j < W.heap.size ∧ (j < A2.heap.size → ∃ c t fr, A2.heap[j]? = some (.cells c t fr))) := ⟨fun j hj => by
      have hlt2 := HI4.out.own.lt hj
      refine ⟨hlt2.1, hlt2.2, fun hj2 => ?_⟩
      obtain ⟨-, h2⟩ := HI4.out.own
      rcases h2 with ⟨e, -⟩ | ⟨g, cap, cur, e, -, hh, -⟩
      · rw [e] at hj; cases hj
      · rw [e] at hj
        cases hj
        exact ⟨_, _, _, ((HT4.out.block _ hj2 (by omega)).symm.trans hh)⟩⟩
    clear hB HI3 HT3
    obtain ⟨v, ev⟩ : ∃ v, Value.slice pn ns.length cn = v := ⟨_, rfl⟩
    rw [ev] at HI4 HOA ⊢
    clear ev
    go_wp2_with (refine wpList_append_el elQ rfl (.tmp 18) (.tmp 24) rfl (B0 + 4) v ns x rfl HI4.out.own g6 rfl hg6 (by have := HLk.out; omega) (by have h1 := HI4.out.t.size; have h2 := lt_of_heap HI4.out.it.bx; omega) ?_; intro v' w9 hown9 hgrow hfrom; obtain ⟨p', c', ev, -, -⟩ := hown9.form; subst ev; have ht9 : Turned (fun j => v.ownBlock = some j) W w9 := (Turned.grown hgrow (fun j hj _ => hj)); have hv9 := ht9.heap HI4.out.num (fun e => by have := (HI4.out.own.lt e).1; omega); have q9 := cell_row6 hv9; have f9 : w9.frozen? ⟨B0 + 1, 0, none⟩ = false := frozen_whole hv9 _)
    have e9 : (ns ++ [x]).length = ns.length + 1 := by simp
    rw [e9] at hown9
    have ht8 : Turned (fun j => v.ownBlock = some j ∨ j = B0 + 1) W (w9.setCell ⟨B0 + 1, 0, none⟩ (.slice p' (ns.length + 1) c')) := (ht9.wider fun _ _ h => .inl h).setCell (p := ⟨B0 + 1, 0, none⟩) (.inr rfl) _
    have hn8 := heap_setCell_at hv9 0 (.slice p' (ns.length + 1) c')
    have ho8 : OwnE elQ (w9.setCell ⟨B0 + 1, 0, none⟩ (.slice p' (ns.length + 1) c')) (B0 + 4) (.slice p' (ns.length + 1) c') (ns ++ [x]) := hown9.kept ((Turned.refl (· = B0 + 1) w9).setCell (p := ⟨B0 + 1, 0, none⟩) rfl _) (fun j hj e => by have := (hown9.lt hj).1; omega)
    refine only_normal ?_
    have hno : ∀ j, j < B0 + 4 → ∀ h : v.ownBlock = some j ∨ j = B0 + 1, j = B0 + 1 := fun j hj h => h.elim (fun e => by have := (HOA.out j e).1; omega) id
    refine ⟨keepsFrom_turned6 (F := fun j => v.ownBlock = some j ∧ j < A2.heap.size ∨ j = B0 + 1 ∨ j = B0 + 2) ?_ ?_, .slice p' (ns.length + 1) c', ⟨?_, ?_, ?_, ⟨?_, ?_⟩, ?_, ?_⟩, by omega⟩
    · refine (HT4.out.wider fun _ _ h => .inr (.inr h)).then ht8 ?_
      intro j hj h
      exact h.elim (fun e => .inl ⟨e, hj⟩) (fun e => .inr (.inl e))
    · rintro j (⟨h1, h2⟩ | h | h)
      · exact .inr ((HOA.out j h1).2.2 h2)
      · exact .inl (by have := HW.out; omega)
      · exact .inl (by have := HW.out; omega)
    · exact ht8.heap HI4.out.key (fun h => by have := hno _ (by omega) h; omega)
    · exact hn8
    · exact ht8.heap HI4.out.at' (fun h => by have := hno _ (by omega) h; omega)
    · exact ht8.heap HI4.out.it.bx (fun h => by have := hno _ (by omega) h; omega)
    · exact ht8.heap HI4.out.it.row (fun h => by have := HW.out; have := hno _ (by omega) h; omega)
    · rw [HT.out]; exact ho8
    · exact HI4.out.t.then ht8 (fun j hj e => by have := HW.out; have := hno _ (by omega) e; omega)
  case hend =>
    rintro Dd A hDd ⟨en, v, ns, hi, h1, h2, h48⟩ hdd
    have HI2 : Veil _ := ⟨hi⟩
    have HD : Veil _ := ⟨hdd⟩
    have r0 := cell_row6 hi.key
    have r1 := cell_row6 hi.num
    have r2 := cell_row6 hi.at'
    have HE : Veil _ := ⟨(⟨h1, h2⟩ : _ ∧ _)⟩
    clear hi hdd h1 h2
    by_cases he : en = s.length
    · have HE1 : Veil _ := ⟨HE.out.1 he⟩
      subst he
      clear HE
      go_wp2
      refine leaves_mark (D := Dd) (B := w.heap.size) HD.out (by have := HW.out; omega) ?_
      intro w' hb _
      obtain ⟨hns, hsum⟩ := HE1.out
      obtain ⟨p, c, ev, hels, -⟩ := OwnE.form (E := elQ) (w := w') (base := B0 + 4) (v := v) (L := ns) (hb.ownsRow HI2.out.own)
      refine leaves_none (results_tmp rfl _ _ _) ⟨v, rfl, .inl ⟨hsum, p, c, ?_, ?_⟩, ?_⟩
      · rw [ev, hns, numsB_len]
      · rw [← hns]; exact hels
      · exact (hb.turned HI2.out.t (Nat.le_refl _)).toBelow (Nat.le_refl _) (fun _ _ h => h.elim)
    · have HE2 : Veil _ := ⟨HE.out.2 he⟩
      clear HE
      have hne : ((en : Int) != (s.length : Int)) = true := by simp; omega
      go_wp2
      refine leaves_mark (D := Dd) (B := w.heap.size) HD.out (by have := HW.out; omega) ?_
      intro w' hb _
      refine leaves_none (results_tmp rfl _ _ _) ⟨.slice none 0 0, rfl, .inr ⟨HE2.out, rfl⟩, ?_⟩
      exact (hb.turned HI2.out.t (Nat.le_refl _)).toBelow (Nat.le_refl _) (fun _ _ h => h.elim)
end Go.Proofs.Ytaolhhgfnhhgaaa
