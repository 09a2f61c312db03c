/- The walks of slices.Grow (of nothing), slices.Concat, for each kind of elements. -/
import Derived.Lib.AppendZerosOnto
import Derived.Lib.SliceRun
import Derived.Test.YtokbmimbbeedcaaGreatDoorKO2
import Derived.Test.YtokbmimbbeedcaaGreatDoorKF1
import Derived.Test.YtokbmimbbeedcaaGreatDoorKN1
namespace Go.Proofs.YtokbmimbbeedcaaGreatDoor
open Go Go.RowKit Sm
attribute [local go_sem] Oper.semAt_some

/-- A part of what is put together: where it lies, its room, what it is. -/
structure Pt (α : Type) where
  p : Option Addr
  c : Nat
  l : List α
def Pt.v {α : Type} (x : Pt α) : Value := .slice x.p x.l.length x.c
def Pt.none {α : Type} : Pt α := ⟨Option.none, 0, []⟩
def sumL {α : Type} (P : List (Pt α)) : Nat := (P.map fun x => x.l.length).sum
def allL {α : Type} (P : List (Pt α)) : List α := P.flatMap (·.l)
theorem pt_take {α : Type} (P : List (Pt α)) (k : Nat) (h : k < P.length) : P.take (k + 1) = P.take k ++ [P.getD k Pt.none] := by
  rw [List.take_add_one]; simp [List.getD, h]
theorem sumL_take {α : Type} (P : List (Pt α)) (k : Nat) (h : k < P.length) : sumL (P.take (k + 1)) = sumL (P.take k) + (P.getD k Pt.none).l.length := by
  rw [pt_take P k h]; simp [sumL]
theorem allL_take {α : Type} (P : List (Pt α)) (k : Nat) (h : k < P.length) : allL (P.take (k + 1)) = allL (P.take k) ++ (P.getD k Pt.none).l := by
  rw [pt_take P k h]; simp [allL]
theorem allL_len {α : Type} (P : List (Pt α)) : (allL P).length = sumL P := by
  induction P with
  | nil => rfl
  | cons x r ih => simp only [allL, sumL, List.flatMap_cons, List.length_append, List.map_cons, List.sum_cons] at ih ⊢; omega
theorem sumL_le {α : Type} (P : List (Pt α)) (k : Nat) : sumL (P.take k) ≤ sumL P := by
  have e : sumL P = sumL (P.take k) + sumL (P.drop k) := by
    unfold sumL
    rw [← List.sum_append, ← List.map_append, List.take_append_drop]
  omega
theorem pt_cell {α : Type} {w : World} {g : Nat} {P : List (Pt α)} {t : TypeId} (h : w.heap[g]? = some (.cells (P.map Pt.v).toArray t (0, 0))) (k : Nat) (hk : k < P.length) : w.cell? ⟨g, k, Option.none⟩ = some (.slice (P.getD k Pt.none).p (P.getD k Pt.none).l.length (P.getD k Pt.none).c) := by
  rw [cell_whole h k, List.getElem?_map, List.getElem?_eq_getElem hk]
  simp [List.getD, hk, Pt.v]
theorem info_of {t : TypeId} {z : Value} {s b : Nat} (h : (Tryz.prog.info? t).map (fun i => (i.zero, i.size, i.bytes)) = some (some z, s, b)) : ∃ i, Tryz.prog.info? t = some i ∧ i.zero = some z ∧ i.size = s ∧ i.bytes = b := by
  cases hq : Tryz.prog.info? t with
  | none => rw [hq] at h; cases h
  | some i => rw [hq] at h; simp at h; exact ⟨i, rfl, h.1, h.2.1, h.2.2⟩
theorem grow_run {α : Type} (E : El α) (n : Nat) (h0 : 0 < n) (hn : n ≤ 1000000) (w : World) : ∀ ty, (Builtin.append_ #[E.sl, 3] ty #[.slice none 0 0, .int .i64 (n : Int)]).run Tryz.prog w =
    .ok (.slice (some ⟨w.heap.size, 0, Option.none⟩) n (grownCap w n 0 E.ty)) (w.drew.alloc (.cells (#[] ++ Builtin.zeroCells E.zero.cells n ++ Builtin.zeroCells E.zero.cells (grownCap w n 0 E.ty - n)) E.ty)) := fun ty => by
  obtain ⟨i0, hi, hz0, hz1, hz2⟩ := info_of E.info
  have hfew := E.few
  have hb : n * i0.bytes ≤ 1000000 * 64 := by rw [hz2]; exact Nat.mul_le_mul hn hfew
  have hpos : 0 < i0.size := by rw [hz1]; exact E.pos
  have h := Lib.run_append_grow_zeros w E.sl 3 ty E.ty i0 E.zero .i64 .i64 E.under Tryz.underlying3 hi hz0 none 0 0 [] (run_firstCells_none w.drew i0.size 0 0 0) n h0 hpos (by omega) (by omega) (by omega) (by rw [Nat.zero_add, nextslicecap_zero h0]; omega)
  simpa using h
theorem grow_own {α : Type} (E : El α) (n : Nat) (hn : n ≤ 1000000) (w : World) : OwnE E (w.drew.alloc (.cells (#[] ++ Builtin.zeroCells E.zero.cells n ++ Builtin.zeroCells E.zero.cells (grownCap w n 0 E.ty - n)) E.ty)) w.heap.size (.slice (some ⟨w.heap.size, 0, Option.none⟩) 0 (grownCap w n 0 E.ty)) [] := by
  have hge := grownCap_ge w n 0 E.ty
  have hcm : grownCap w n 0 E.ty ≤ maxLen := grownCap_le_maxLen w n 0 E.ty (by unfold maxLen; omega)
  refine ⟨by simp [elCells], .inr ⟨w.heap.size, grownCap w n 0 E.ty, _, rfl, Nat.le_refl _, heap_alloc_new w.drew _, Nat.zero_le _, hcm, ?_, by simp [elCells]⟩⟩
  simp only [Array.size_append, size_zeroCells, E.zlen, Array.size_empty, Nat.zero_add, ← Nat.add_mul]
  congr 1
  omega

set_option maxRecDepth 20000 in
theorem growP_nil (n : Nat) (hn : n ≤ 1000000) (w : World) : Calls Tryz.prog 123 #[.slice none 0 0, .int .i64 (n : Int)] w fun e w' => ∃ v, e = .returned v ∧ OwnE elP w' w.heap.size v [] ∧ Below w.heap.size w w' := by
  by_cases h0 : n = 0
  · subst h0
    go_enter Tryz.func123, Tryz.ntmps123
    go_wp2
    go_ret
    exact ⟨_, rfl, OwnE.nil _ _ _, Below.refl _ _⟩
  · have hrz := grow_run elP n (by omega) hn w
    have HO : Veil _ := ⟨grow_own elP n hn w⟩
    have hGn := grownCap_ge w n 0 elP.ty
    have HB : Veil (Below w.heap.size w (w.drew.alloc (.cells (#[] ++ Builtin.zeroCells elP.zero.cells n ++ Builtin.zeroCells elP.zero.cells (grownCap w n 0 elP.ty - n)) elP.ty))) := ⟨below_al (Below.refl _ _).drew _⟩
    have hG63 : grownCap w n 0 elP.ty ≤ 9223372036854775807 := by
      have := grownCap_le_maxLen w n 0 elP.ty (by unfold maxLen; omega)
      unfold maxLen at this
      omega
    revert hrz HO HB hGn hG63
    generalize w.drew.alloc (.cells (#[] ++ Builtin.zeroCells elP.zero.cells n ++ Builtin.zeroCells elP.zero.cells (grownCap w n 0 elP.ty - n)) elP.ty) = W1
    generalize grownCap w n 0 elP.ty = G
    intro hrz HO hGn HB hG63
    have hpos : 0 < n := by omega
    clear h0
    go_enter Tryz.func123, Tryz.ntmps123
    go_wp2_with (at_builtin; refine Lib.wpList_append_run _ rfl _ _ _ _ rfl _ _ rfl rfl _ _ (hrz _) ?_)
    go_ret
    exact ⟨_, rfl, HO.out, HB.out⟩

set_option maxRecDepth 20000 in
set_option maxHeartbeats 2000000 in
theorem concatP_of {w : World} {g : Nat} {P : List (Pt Pr)} {t : TypeId} (hg : w.heap[g]? = some (.cells (P.map Pt.v).toArray t (0, 0))) (cap : Nat) (hE : ∀ x ∈ P, Els elP w x.p x.l) (hl : sumL P ≤ 1000000) (hP : P.length ≤ 100) :
    Calls Tryz.prog 87 #[.slice (some ⟨g, 0, none⟩) P.length cap] w fun e w' => ∃ v, e = .returned v ∧ OwnE elP w' w.heap.size v (allL P) ∧ Below w.heap.size w w' := by
  have HG : Veil _ := ⟨hg⟩
  have HE : Veil _ := ⟨hE⟩
  have HGr : Veil (∀ w, Calls Tryz.prog 123 #[.slice none 0 0, .int .i64 (sumL P : Int)] w fun e w' => ∃ v, e = .returned v ∧ OwnE elP w' w.heap.size v [] ∧ Below w.heap.size w w') := ⟨growP_nil (sumL P) hl⟩
  clear hg hE
  go_enter Tryz.func87, Tryz.ntmps87
  go_wp2
  go_loopw [3, 11] (fun s i wr => ∃ k : Nat, k ≤ P.length ∧ i = .int .i64 k ∧ s = .int .i64 (sumL (P.take k)) ∧ w = wr) (fun _ i _ => P.length - (intOf i).toNat)
  case atStart => exact ⟨0, Nat.zero_le _, rfl, by simp [sumL], rfl⟩
  case round =>
    obtain ⟨k, hk, rfl, rfl, rfl⟩ := hrel
    by_cases hlt : k < P.length
    · have c1 := pt_cell HG.out k hlt
      have HSK : Veil _ := ⟨sumL_take P k hlt⟩
      have hs1 := sumL_le P (k + 1)
      rw [HSK.out] at hs1
      revert c1 HSK hs1
      generalize P.getD k Pt.none = x
      obtain ⟨p, c, l⟩ := x
      dsimp only
      generalize sumL (P.take k) = m
      generalize l.length = n
      intro c1 HSK hs1
      go_wp2
      refine ⟨⟨k + 1, by omega, by go_num, by rw [HSK.out]; first | rfl | go_num, by first | rfl | trivial⟩, ?_⟩
      simp only [intOf]; omega
    · obtain rfl : k = P.length := by omega
      have e : sumL (P.take P.length) = sumL P := by rw [List.take_length]
      rw [e]
      clear e
      go_wp2_with (go_at_call 123; refine (HGr.out _).mono ?_; rintro e w2 ⟨v, rfl, hown, hb⟩)
      have HI : Veil (OwnE elP w2 w.heap.size v (allL (P.take 0)) ∧ Below w.heap.size w w2) := ⟨by simpa [allL] using hown, hb⟩
      clear hown hb hlt hk
      go_loopw [6, 27] (fun b i wr => ∃ (k : Nat) (v : Value), k ≤ P.length ∧ i = .int .i64 k ∧ v = b ∧ Veil (OwnE elP wr w.heap.size v (allL (P.take k)) ∧ Below w.heap.size w wr)) (fun _ i _ => P.length - (intOf i).toNat)
      case atStart => exact ⟨0, v, Nat.zero_le _, rfl, rfl, HI⟩
      case round =>
        obtain ⟨k, v, hk, rfl, rfl, HI⟩ := hrel
        by_cases hlt : k < P.length
        · have c1 := (HI.out.2.cell (lt_of_heap HG.out)).trans (pt_cell HG.out k hlt)
          have HAK : Veil _ := ⟨allL_take P k hlt⟩
          have hs1 := sumL_le P (k + 1)
          rw [sumL_take P k hlt, ← allL_len (P.take k)] at hs1
          have HEx : Veil (Els elP wr (P.getD k Pt.none).p (P.getD k Pt.none).l) := ⟨(HE.out _ (getD_mem hlt Pt.none)).below HI.out.2⟩
          revert c1 HAK hs1 HEx
          generalize P.getD k Pt.none = x
          obtain ⟨p, c, l⟩ := x
          dsimp only
          generalize allL (P.take k) = M at HI ⊢
          intro c1 HAK hs1 HEx
          have HML : Veil (M.length + l.length ≤ 1000000) := ⟨by omega⟩
          clear hs1
          go_wp2_with (at_builtin; refine wpList_append_els elP rfl (.tmp 31) (.tmp 32) rfl w.heap.size v M l rfl HI.out.1 p c rfl HEx.out HML.out HI.out.2.size ?_; intro v' w5 hown5 hgrow5 hv5)
          refine ⟨⟨k + 1, v', by omega, by go_num, rfl, ⟨by rw [HAK.out]; exact hown5, ownE_grown HI.out.2 (Nat.le_refl _) HI.out.1 hgrow5⟩⟩, ?_⟩
          simp only [intOf]; omega
        · obtain rfl : k = P.length := by omega
          have HI2 : Veil (OwnE elP wr w.heap.size v (allL P) ∧ Below w.heap.size w wr) := ⟨by have := HI.out; rwa [List.take_length] at this⟩
          clear HI
          go_wp2
          go_ret
          exact ⟨v, rfl, HI2.out⟩

set_option maxRecDepth 20000 in
theorem growK_nil (n : Nat) (hn : n ≤ 1000000) (w : World) : Calls Tryz.prog 142 #[.slice none 0 0, .int .i64 (n : Int)] w fun e w' => ∃ v, e = .returned v ∧ OwnE elK w' w.heap.size v [] ∧ Below w.heap.size w w' := by
  by_cases h0 : n = 0
  · subst h0
    go_enter Tryz.func142, Tryz.ntmps142
    go_wp2
    go_ret
    exact ⟨_, rfl, OwnE.nil _ _ _, Below.refl _ _⟩
  · have hrz := grow_run elK n (by omega) hn w
    have HO : Veil _ := ⟨grow_own elK n hn w⟩
    have hGn := grownCap_ge w n 0 elK.ty
    have HB : Veil (Below w.heap.size w (w.drew.alloc (.cells (#[] ++ Builtin.zeroCells elK.zero.cells n ++ Builtin.zeroCells elK.zero.cells (grownCap w n 0 elK.ty - n)) elK.ty))) := ⟨below_al (Below.refl _ _).drew _⟩
    have hG63 : grownCap w n 0 elK.ty ≤ 9223372036854775807 := by
      have := grownCap_le_maxLen w n 0 elK.ty (by unfold maxLen; omega)
      unfold maxLen at this
      omega
    revert hrz HO HB hGn hG63
    generalize w.drew.alloc (.cells (#[] ++ Builtin.zeroCells elK.zero.cells n ++ Builtin.zeroCells elK.zero.cells (grownCap w n 0 elK.ty - n)) elK.ty) = W1
    generalize grownCap w n 0 elK.ty = G
    intro hrz HO hGn HB hG63
    have hpos : 0 < n := by omega
    clear h0
    go_enter Tryz.func142, Tryz.ntmps142
    go_wp2_with (at_builtin; refine Lib.wpList_append_run _ rfl _ _ _ _ rfl _ _ rfl rfl _ _ (hrz _) ?_)
    go_ret
    exact ⟨_, rfl, HO.out, HB.out⟩

set_option maxRecDepth 20000 in
set_option maxHeartbeats 2000000 in
theorem concatK_of {w : World} {g : Nat} {P : List (Pt (List UInt8))} {t : TypeId} (hg : w.heap[g]? = some (.cells (P.map Pt.v).toArray t (0, 0))) (cap : Nat) (hE : ∀ x ∈ P, Els elK w x.p x.l) (hl : sumL P ≤ 1000000) (hP : P.length ≤ 100) :
    Calls Tryz.prog 111 #[.slice (some ⟨g, 0, none⟩) P.length cap] w fun e w' => ∃ v, e = .returned v ∧ OwnE elK w' w.heap.size v (allL P) ∧ Below w.heap.size w w' := by
  have HG : Veil _ := ⟨hg⟩
  have HE : Veil _ := ⟨hE⟩
  have HGr : Veil (∀ w, Calls Tryz.prog 142 #[.slice none 0 0, .int .i64 (sumL P : Int)] w fun e w' => ∃ v, e = .returned v ∧ OwnE elK w' w.heap.size v [] ∧ Below w.heap.size w w') := ⟨growK_nil (sumL P) hl⟩
  clear hg hE
  go_enter Tryz.func111, Tryz.ntmps111
  go_wp2
  go_loopw [3, 11] (fun s i wr => ∃ k : Nat, k ≤ P.length ∧ i = .int .i64 k ∧ s = .int .i64 (sumL (P.take k)) ∧ w = wr) (fun _ i _ => P.length - (intOf i).toNat)
  case atStart => exact ⟨0, Nat.zero_le _, rfl, by simp [sumL], rfl⟩
  case round =>
    obtain ⟨k, hk, rfl, rfl, rfl⟩ := hrel
    by_cases hlt : k < P.length
    · have c1 := pt_cell HG.out k hlt
      have HSK : Veil _ := ⟨sumL_take P k hlt⟩
      have hs1 := sumL_le P (k + 1)
      rw [HSK.out] at hs1
      revert c1 HSK hs1
      generalize P.getD k Pt.none = x
      obtain ⟨p, c, l⟩ := x
      dsimp only
      generalize sumL (P.take k) = m
      generalize l.length = n
      intro c1 HSK hs1
      go_wp2
      refine ⟨⟨k + 1, by omega, by go_num, by rw [HSK.out]; first | rfl | go_num, by first | rfl | trivial⟩, ?_⟩
      simp only [intOf]; omega
    · obtain rfl : k = P.length := by omega
      have e : sumL (P.take P.length) = sumL P := by rw [List.take_length]
      rw [e]
      clear e
      go_wp2_with (go_at_call 142; refine (HGr.out _).mono ?_; rintro e w2 ⟨v, rfl, hown, hb⟩)
      have HI : Veil (OwnE elK w2 w.heap.size v (allL (P.take 0)) ∧ Below w.heap.size w w2) := ⟨by simpa [allL] using hown, hb⟩
      clear hown hb hlt hk
      go_loopw [6, 27] (fun b i wr => ∃ (k : Nat) (v : Value), k ≤ P.length ∧ i = .int .i64 k ∧ v = b ∧ Veil (OwnE elK wr w.heap.size v (allL (P.take k)) ∧ Below w.heap.size w wr)) (fun _ i _ => P.length - (intOf i).toNat)
      case atStart => exact ⟨0, v, Nat.zero_le _, rfl, rfl, HI⟩
      case round =>
        obtain ⟨k, v, hk, rfl, rfl, HI⟩ := hrel
        by_cases hlt : k < P.length
        · have c1 := (HI.out.2.cell (lt_of_heap HG.out)).trans (pt_cell HG.out k hlt)
          have HAK : Veil _ := ⟨allL_take P k hlt⟩
          have hs1 := sumL_le P (k + 1)
          rw [sumL_take P k hlt, ← allL_len (P.take k)] at hs1
          have HEx : Veil (Els elK wr (P.getD k Pt.none).p (P.getD k Pt.none).l) := ⟨(HE.out _ (getD_mem hlt Pt.none)).below HI.out.2⟩
          revert c1 HAK hs1 HEx
          generalize P.getD k Pt.none = x
          obtain ⟨p, c, l⟩ := x
          dsimp only
          generalize allL (P.take k) = M at HI ⊢
          intro c1 HAK hs1 HEx
          have HML : Veil (M.length + l.length ≤ 1000000) := ⟨by omega⟩
          clear hs1
          go_wp2_with (at_builtin; refine wpList_append_els elK rfl (.tmp 31) (.tmp 32) rfl w.heap.size v M l rfl HI.out.1 p c rfl HEx.out HML.out HI.out.2.size ?_; intro v' w5 hown5 hgrow5 hv5)
          refine ⟨⟨k + 1, v', by omega, by go_num, rfl, ⟨by rw [HAK.out]; exact hown5, ownE_grown HI.out.2 (Nat.le_refl _) HI.out.1 hgrow5⟩⟩, ?_⟩
          simp only [intOf]; omega
        · obtain rfl : k = P.length := by omega
          have HI2 : Veil (OwnE elK wr w.heap.size v (allL P) ∧ Below w.heap.size w wr) := ⟨by have := HI.out; rwa [List.take_length] at this⟩
          clear HI
          go_wp2
          go_ret
          exact ⟨v, rfl, HI2.out⟩

set_option maxRecDepth 20000 in
theorem growD_nil (n : Nat) (hn : n ≤ 1000000) (w : World) : Calls Tryz.prog 141 #[.slice none 0 0, .int .i64 (n : Int)] w fun e w' => ∃ v, e = .returned v ∧ OwnE elD w' w.heap.size v [] ∧ Below w.heap.size w w' := by
  by_cases h0 : n = 0
  · subst h0
    go_enter Tryz.func141, Tryz.ntmps141
    go_wp2
    go_ret
    exact ⟨_, rfl, OwnE.nil _ _ _, Below.refl _ _⟩
  · have hrz := grow_run elD n (by omega) hn w
    have HO : Veil _ := ⟨grow_own elD n hn w⟩
    have hGn := grownCap_ge w n 0 elD.ty
    have HB : Veil (Below w.heap.size w (w.drew.alloc (.cells (#[] ++ Builtin.zeroCells elD.zero.cells n ++ Builtin.zeroCells elD.zero.cells (grownCap w n 0 elD.ty - n)) elD.ty))) := ⟨below_al (Below.refl _ _).drew _⟩
    have hG63 : grownCap w n 0 elD.ty ≤ 9223372036854775807 := by
      have := grownCap_le_maxLen w n 0 elD.ty (by unfold maxLen; omega)
      unfold maxLen at this
      omega
    revert hrz HO HB hGn hG63
    generalize w.drew.alloc (.cells (#[] ++ Builtin.zeroCells elD.zero.cells n ++ Builtin.zeroCells elD.zero.cells (grownCap w n 0 elD.ty - n)) elD.ty) = W1
    generalize grownCap w n 0 elD.ty = G
    intro hrz HO hGn HB hG63
    have hpos : 0 < n := by omega
    clear h0
    go_enter Tryz.func141, Tryz.ntmps141
    go_wp2_with (at_builtin; refine Lib.wpList_append_run _ rfl _ _ _ _ rfl _ _ rfl rfl _ _ (hrz _) ?_)
    go_ret
    exact ⟨_, rfl, HO.out, HB.out⟩

set_option maxRecDepth 20000 in
set_option maxHeartbeats 2000000 in
theorem concatD_of {w : World} {g : Nat} {P : List (Pt Nat)} {t : TypeId} (hg : w.heap[g]? = some (.cells (P.map Pt.v).toArray t (0, 0))) (cap : Nat) (hE : ∀ x ∈ P, Els elD w x.p x.l) (hl : sumL P ≤ 1000000) (hP : P.length ≤ 100) :
    Calls Tryz.prog 110 #[.slice (some ⟨g, 0, none⟩) P.length cap] w fun e w' => ∃ v, e = .returned v ∧ OwnE elD w' w.heap.size v (allL P) ∧ Below w.heap.size w w' := by
  have HG : Veil _ := ⟨hg⟩
  have HE : Veil _ := ⟨hE⟩
  have HGr : Veil (∀ w, Calls Tryz.prog 141 #[.slice none 0 0, .int .i64 (sumL P : Int)] w fun e w' => ∃ v, e = .returned v ∧ OwnE elD w' w.heap.size v [] ∧ Below w.heap.size w w') := ⟨growD_nil (sumL P) hl⟩
  clear hg hE
  go_enter Tryz.func110, Tryz.ntmps110
  go_wp2
  go_loopw [3, 11] (fun s i wr => ∃ k : Nat, k ≤ P.length ∧ i = .int .i64 k ∧ s = .int .i64 (sumL (P.take k)) ∧ w = wr) (fun _ i _ => P.length - (intOf i).toNat)
  case atStart => exact ⟨0, Nat.zero_le _, rfl, by simp [sumL], rfl⟩
  case round =>
    obtain ⟨k, hk, rfl, rfl, rfl⟩ := hrel
    by_cases hlt : k < P.length
    · have c1 := pt_cell HG.out k hlt
      have HSK : Veil _ := ⟨sumL_take P k hlt⟩
      have hs1 := sumL_le P (k + 1)
      rw [HSK.out] at hs1
      revert c1 HSK hs1
      generalize P.getD k Pt.none = x
      obtain ⟨p, c, l⟩ := x
      dsimp only
      generalize sumL (P.take k) = m
      generalize l.length = n
      intro c1 HSK hs1
      go_wp2
      refine ⟨⟨k + 1, by omega, by go_num, by rw [HSK.out]; first | rfl | go_num, by first | rfl | trivial⟩, ?_⟩
      simp only [intOf]; omega
    · obtain rfl : k = P.length := by omega
      have e : sumL (P.take P.length) = sumL P := by rw [List.take_length]
      rw [e]
      clear e
      go_wp2_with (go_at_call 141; refine (HGr.out _).mono ?_; rintro e w2 ⟨v, rfl, hown, hb⟩)
      have HI : Veil (OwnE elD w2 w.heap.size v (allL (P.take 0)) ∧ Below w.heap.size w w2) := ⟨by simpa [allL] using hown, hb⟩
      clear hown hb hlt hk
      go_loopw [6, 27] (fun b i wr => ∃ (k : Nat) (v : Value), k ≤ P.length ∧ i = .int .i64 k ∧ v = b ∧ Veil (OwnE elD wr w.heap.size v (allL (P.take k)) ∧ Below w.heap.size w wr)) (fun _ i _ => P.length - (intOf i).toNat)
      case atStart => exact ⟨0, v, Nat.zero_le _, rfl, rfl, HI⟩
      case round =>
        obtain ⟨k, v, hk, rfl, rfl, HI⟩ := hrel
        by_cases hlt : k < P.length
        · have c1 := (HI.out.2.cell (lt_of_heap HG.out)).trans (pt_cell HG.out k hlt)
          have HAK : Veil _ := ⟨allL_take P k hlt⟩
          have hs1 := sumL_le P (k + 1)
          rw [sumL_take P k hlt, ← allL_len (P.take k)] at hs1
          have HEx : Veil (Els elD wr (P.getD k Pt.none).p (P.getD k Pt.none).l) := ⟨(HE.out _ (getD_mem hlt Pt.none)).below HI.out.2⟩
          revert c1 HAK hs1 HEx
          generalize P.getD k Pt.none = x
          obtain ⟨p, c, l⟩ := x
          dsimp only
          generalize allL (P.take k) = M at HI ⊢
          intro c1 HAK hs1 HEx
          have HML : Veil (M.length + l.length ≤ 1000000) := ⟨by omega⟩
          clear hs1
          go_wp2_with (at_builtin; refine wpList_append_els elD rfl (.tmp 31) (.tmp 32) rfl w.heap.size v M l rfl HI.out.1 p c rfl HEx.out HML.out HI.out.2.size ?_; intro v' w5 hown5 hgrow5 hv5)
          refine ⟨⟨k + 1, v', by omega, by go_num, rfl, ⟨by rw [HAK.out]; exact hown5, ownE_grown HI.out.2 (Nat.le_refl _) HI.out.1 hgrow5⟩⟩, ?_⟩
          simp only [intOf]; omega
        · obtain rfl : k = P.length := by omega
          have HI2 : Veil (OwnE elD wr w.heap.size v (allL P) ∧ Below w.heap.size w wr) := ⟨by have := HI.out; rwa [List.take_length] at this⟩
          clear HI
          go_wp2
          go_ret
          exact ⟨v, rfl, HI2.out⟩
end Go.Proofs.YtokbmimbbeedcaaGreatDoor

/- The walks of span and replaced. -/
namespace Go.Proofs.YtokbmimbbeedcaaGreatDoor
open Go Go.RowKit Sm
attribute [local go_sem] Oper.semAt_some

/-- Is there a pair of that key? -/
def Nd.hit (n : Nd) (key : List UInt8) : Bool := decide (n.place key < n.ps.length) && ((n.ps.getD (n.place key) Pr.zero).k == key)
def Nd.past (n : Nd) (key : List UInt8) : Nat := if n.hit key then n.place key + 1 else n.place key

set_option maxRecDepth 20000 in
set_option maxHeartbeats 2000000 in
theorem span_of {w : World} {n : Nd} {a : NdP} (h : NdAt w n a) (hok : Veil n.Ok) (key : List UInt8) (hkey : key.length ≤ 1000000) :
    Calls Tryz.prog 62 #[n.v a, .string ⟨key.toArray⟩] w fun e w' => e = .returned (.tuple #[.int .i64 (n.place key), .int .i64 (n.past key)]) ∧ Below w.heap.size w w' := by
  have HPl : Veil (∀ w, NdAt w n a → Calls Tryz.prog 49 #[n.v a, .string ⟨key.toArray⟩] w fun e w' => e = .returned (.int .i64 (n.place key)) ∧ Below w.heap.size w w') := ⟨fun w h => nplace_of h hok key hkey⟩
  have HPA : Veil (n.past key = if n.hit key = true then n.place key + 1 else n.place key) := ⟨rfl⟩
  have HHI : Veil (n.hit key = (decide (n.place key < n.ps.length) && ((n.ps.getD (n.place key) Pr.zero).k == key))) := ⟨rfl⟩
  have hpl : n.place key ≤ 200000 := by
    unfold Nd.place
    split
    · have h1 := cnt_le (lessP n key) n.ps.length
      have h2 := cnt_le (mostK n key) n.ks.length
      have := hok.out.p; have := hok.out.k
      omega
    · omega
  have hP : n.ps.length ≤ 100000 := hok.out.p
  clear hok
  revert HPl HPA HHI hpl
  generalize n.past key = pa
  generalize n.hit key = hi
  generalize n.place key = pl
  intro HPl HPA HHI hpl
  have HB : Veil _ := ⟨NdBox.new h⟩
  obtain ⟨W1, hW1⟩ : ∃ W1, w.alloc (.cells #[.slice a.pp n.ps.length a.cp, .slice a.pk n.ks.length a.ck, .slice a.pd n.ds.length a.cd] 92) = W1 := ⟨_, rfl⟩
  rw [hW1] at HB
  obtain ⟨a0, a1, a2⟩ := HB.out.cells
  clear h
  unfold Nd.v at *
  by_cases hlt : pl < n.ps.length
  · obtain ⟨b, o, hpe, hc⟩ := HB.out.s.pair (by rintro he; simp [he] at hlt)
    have c1 := (hc pl hlt).1
    have HC1 : Veil (∀ w', Below W1.heap.size W1 w' → w'.cell? ⟨b, o + pl * 2, none⟩ = some (.string ⟨(n.ps.getD pl Pr.zero).k.toArray⟩)) := ⟨fun w' hb => (hb.cell (World.block_lt_of_cell? W1 _ c1)).trans c1⟩
    rw [hpe] at a0 HPl hW1
    rw [hpe]
    have HE : Veil _ := ⟨hpe⟩
    clear hc c1 hpe
    revert HC1 HHI
    generalize (n.ps.getD pl Pr.zero).k = sk
    intro HHI HC1
    by_cases hk : sk = key
    · obtain rfl : pa = pl + 1 := by rw [HPA.out, HHI.out]; simp [hlt, hk]
      subst hk
      have e : ((pl + 1 : Nat) : Int) = (pl : Int) + 1 := by omega
      rw [e]
      clear HHI HPA e
      go_enter Tryz.func62, Tryz.ntmps62
      go_wp2_with (go_at_call 49; refine (HPl.out _ HB.out.s).mono ?_; rintro e w2 ⟨rfl, hb⟩; have d1 := HC1.out _ hb; replace HB : Veil _ := ⟨HB.out.below hb⟩; clear hb a0 a1 a2; obtain ⟨a0, a1, a2⟩ := HB.out.cells; rw [HE.out] at a0)
      refine bodyPost_ret (results_two rfl rfl rfl) rfl ?_
      exact ⟨rfl, HB.out.x⟩
    · obtain rfl : pl = pa := by rw [HPA.out, HHI.out]; simp [hlt, hk]
      have hkb : (sk == key) = false := by rw [beq_eq_false_iff_ne]; exact hk
      clear hk HHI HPA
      go_enter Tryz.func62, Tryz.ntmps62
      go_wp2_with (go_at_call 49; refine (HPl.out _ HB.out.s).mono ?_; rintro e w2 ⟨rfl, hb⟩; have d1 := HC1.out _ hb; replace HB : Veil _ := ⟨HB.out.below hb⟩; clear hb a0 a1 a2; obtain ⟨a0, a1, a2⟩ := HB.out.cells; rw [HE.out] at a0)
      refine bodyPost_ret (results_two rfl rfl rfl) rfl ?_
      exact ⟨rfl, HB.out.x⟩
  · obtain rfl : pl = pa := by rw [HPA.out, HHI.out]; simp [hlt]
    clear HHI HPA
    go_enter Tryz.func62, Tryz.ntmps62
    go_wp2_with (go_at_call 49; refine (HPl.out _ HB.out.s).mono ?_; rintro e w2 ⟨rfl, hb⟩; replace HB : Veil _ := ⟨HB.out.below hb⟩; clear hb a0 a1 a2; obtain ⟨a0, a1, a2⟩ := HB.out.cells)
    refine bodyPost_ret (results_two rfl rfl rfl) rfl ?_
    exact ⟨rfl, HB.out.x⟩

set_option maxRecDepth 20000 in
set_option maxHeartbeats 2000000 in
theorem replaced_of {w : World} {n : Nd} {a : NdP} (h : NdAt w n a) (hf : SlOk a.pp n.ps.length a.cp) (f t : Nat) (hft : f ≤ n.ps.length) (ht : t ≤ n.ps.length) {pb : Option Addr} {B : List Pr} (hB : Els elP w pb B) (cb : Nat) (hP : n.ps.length ≤ 100000) (hBl : B.length ≤ 100000) :
    Calls Tryz.prog 63 #[n.v a, .int .i64 f, .int .i64 t, .slice pb B.length cb] w fun e w' => ∃ v, e = .returned (.agg #[v, .slice none 0 0, .slice none 0 0]) ∧ NdOwn w' w.heap.size v (.slice none 0 0) (.slice none 0 0) ⟨n.ps.take f ++ B ++ n.ps.drop t, [], []⟩ ∧ Below w.heap.size w w' := by
  obtain ⟨r, hr⟩ : ∃ r, n.ps.length - t = r := ⟨_, rfl⟩
  have HC1 : Veil (∀ W, Calls Tryz.prog 88 #[.slice a.pp n.ps.length a.cp, .int .i64 0, .int .i64 f] W fun e w' => e = .returned (.slice (cutE elP a.pp 0 f) f f) ∧ W = w') := ⟨fun W => by
    have := ncutP_any hf 0 f (by omega) W
    rwa [Nat.zero_add] at this⟩
  have HC2 : Veil (∀ W, Calls Tryz.prog 88 #[.slice a.pp n.ps.length a.cp, .int .i64 t, .int .i64 n.ps.length] W fun e w' => e = .returned (.slice (cutE elP a.pp t r) r r) ∧ W = w') := ⟨fun W => by
    have := ncutP_any hf t r (by omega) W
    rwa [show t + r = n.ps.length by omega] at this⟩
  have hz1 : (w.alloc (.cells #[.slice a.pp n.ps.length a.cp, .slice a.pk n.ks.length a.ck, .slice a.pd n.ds.length a.cd] 92)).heap.size = w.heap.size + 1 := by simp
  obtain ⟨W1, hW1⟩ : ∃ W1, w.alloc (.cells #[.slice a.pp n.ps.length a.cp, .slice a.pk n.ks.length a.ck, .slice a.pd n.ds.length a.cd] 92) = W1 := ⟨_, rfl⟩
  obtain ⟨W2, hW2⟩ : ∃ W2, W1.alloc (.cells #[.slice none 0 0, .slice none 0 0, .slice none 0 0] 92) = W2 := ⟨_, rfl⟩
  rw [hW1] at hz1
  have hb2 : Below W1.heap.size W1 W2 := by rw [← hW2]; exact below_al (Below.refl _ _) _
  have HB : Veil (NdBox w n a W2) := ⟨by have := NdBox.new h; rw [hW1] at this; exact this.below hb2⟩
  have HR2 : Veil (W2.heap[w.heap.size + 1]? = some (.cells #[.slice none 0 0, .slice none 0 0, .slice none 0 0] 92 (0, 0))) := ⟨by rw [← hz1, ← hW2]; exact heap_alloc_new _ _⟩
  have HCC : Veil (∀ W g, Below W2.heap.size W2 W → W.heap[g]? = some (.cells #[.slice (cutE elP a.pp 0 f) f f, .slice pb B.length cb, .slice (cutE elP a.pp t r) r r] 22 (0, 0)) → Calls Tryz.prog 87 #[.slice (some ⟨g, 0, none⟩) (3 : Nat) (3 : Nat)] W fun e w' => ∃ v, e = .returned v ∧ OwnE elP w' W2.heap.size v (n.ps.take f ++ B ++ n.ps.drop t) ∧ Below W.heap.size W w') := ⟨fun W g hb hg => by
    have e1 : (n.ps.take f).length = f := by rw [List.length_take]; omega
    have e3 : (n.ps.drop t).length = r := by rw [List.length_drop]; exact hr
    have hs := (HB.out.below hb).s
    have x1 : Els elP W (cutE elP a.pp 0 f) (n.ps.take f) := by have := hs.p.cut 0 f; simpa using this
    have x3 : Els elP W (cutE elP a.pp t r) (n.ps.drop t) := by have := hs.p.cut t r; rwa [List.take_of_length_le (by omega)] at this
    have x2 : Els elP W pb B := (hB.below HB.out.x).below (hb : Below W2.heap.size W2 W)
    refine (concatP_of (P := [⟨cutE elP a.pp 0 f, f, n.ps.take f⟩, ⟨pb, cb, B⟩, ⟨cutE elP a.pp t r, r, n.ps.drop t⟩]) (g := g) (t := 22) (by simpa [Pt.v, e1, e3] using hg) 3 ?_ ?_ (by simp)).mono ?_
    · intro x hx
      simp only [List.mem_cons, List.not_mem_nil, or_false] at hx
      rcases hx with rfl | rfl | rfl <;> assumption
    · simp only [sumL, List.map_cons, List.map_nil, List.sum_cons, List.sum_nil, e1, e3]; omega
    · rintro e w' ⟨v, rfl, ho, hb'⟩
      have ho' : OwnE elP w' W.heap.size v (n.ps.take f ++ B ++ n.ps.drop t) := by simpa [allL] using ho
      exact ⟨v, rfl, ho'.less hb.size, hb'⟩⟩
  have hLL : (n.ps.take f ++ B ++ n.ps.drop t).length ≤ 300000 := by simp only [List.length_append, List.length_take, List.length_drop]; omega
  clear h hb2 hf hB hr
  unfold Nd.v
  go_enter Tryz.func63, Tryz.ntmps63
  go_wp2
  refine region_new [.is (.pointer (some ⟨w.heap.size, 0, none⟩)), .is (.slice a.pp n.ps.length a.cp), .is (.int .i64 f), .is (.slice (cutE elP a.pp 0 f) f f), .is (.slice pb B.length cb), .is (.pointer (some ⟨w.heap.size, 0, none⟩)), .is (.slice a.pp n.ps.length a.cp), .is (.int .i64 t), .is (.pointer (some ⟨w.heap.size, 0, none⟩)), .is (.slice a.pp n.ps.length a.cp), .is (.int .i64 n.ps.length), .is (.slice (cutE elP a.pp t r) r r), .row 0 (fun g => .slice (some ⟨g, 0, none⟩) 3 3) #[.slice (cutE elP a.pp 0 f) f f, .slice pb B.length cb, .slice (cutE elP a.pp t r) r r] 22, .gen (fun v W => OwnE elP W W2.heap.size v (n.ps.take f ++ B ++ n.ps.drop t)) (fun v W W' hb h => h.below hb)]
    [[], [(0, 9)], [], [(1, 10), (2, 11)], [], [], [(5, 14)], [], [], [(8, 17)], [(9, 18)], [(6, 15), (7, 16), (10, 19)], [(3, 12), (4, 13), (11, 20)], [(12, 21)]]
    [[], [0], [], [1, 2], [], [], [5], [], [], [8], [9], [3, 6, 7, 10], [3, 4, 11], [11, 12]]
    [(0, 9), (1, 10), (2, 11), (3, 12), (4, 13), (5, 14), (6, 15), (7, 16), (8, 17), (9, 18), (10, 19), (11, 20), (12, 21), (13, 22)] rfl (by kernel_rfl) ⟨?_, ?_, ?_, ?_, ?_, ?_, ?_, ?_, ?_, ?_, ?_, ?_, ?_, ?_, trivial⟩ ?_
  · intro vals W hB _
    dsimp only [putsL, slotOf]
    go_wp2
    exact ⟨rfl, Below.refl _ _, rfl⟩
  · intro vals W hB ⟨h0, _⟩
    have h0 : vals 0 = _ := h0
    obtain ⟨a0, a1, a2⟩ := (HB.out.below hB).cells
    dsimp only [putsL, slotOf]
    rw [h0]
    go_wp2
    exact ⟨rfl, Below.refl _ _, rfl⟩
  · intro vals W hB _
    dsimp only [putsL, slotOf]
    go_wp2
    exact ⟨rfl, Below.refl _ _, rfl⟩
  · intro vals W hB ⟨h1, h2, _⟩
    have h1 : vals 1 = _ := h1
    have h2 : vals 2 = _ := h2
    dsimp only [putsL, slotOf]
    rw [h1, h2]
    go_wp2_with ((go_at_call 88; refine (HC1.out _).mono ?_; rintro e w4 ⟨rfl, rfl⟩; have hb4 := Below.refl W.heap.size W))
    exact ⟨rfl, hb4, rfl⟩
  · intro vals W hB _
    dsimp only [putsL, slotOf]
    go_wp2
    exact ⟨rfl, Below.refl _ _, rfl⟩
  · intro vals W hB _
    dsimp only [putsL, slotOf]
    go_wp2
    exact ⟨rfl, Below.refl _ _, rfl⟩
  · intro vals W hB ⟨h5, _⟩
    have h5 : vals 5 = _ := h5
    obtain ⟨a0, a1, a2⟩ := (HB.out.below hB).cells
    dsimp only [putsL, slotOf]
    rw [h5]
    go_wp2
    exact ⟨rfl, Below.refl _ _, rfl⟩
  · intro vals W hB _
    dsimp only [putsL, slotOf]
    go_wp2
    exact ⟨rfl, Below.refl _ _, rfl⟩
  · intro vals W hB _
    dsimp only [putsL, slotOf]
    go_wp2
    exact ⟨rfl, Below.refl _ _, rfl⟩
  · intro vals W hB ⟨h8, _⟩
    have h8 : vals 8 = _ := h8
    obtain ⟨a0, a1, a2⟩ := (HB.out.below hB).cells
    dsimp only [putsL, slotOf]
    rw [h8]
    go_wp2
    exact ⟨rfl, Below.refl _ _, rfl⟩
  · intro vals W hB ⟨h9, _⟩
    have h9 : vals 9 = _ := h9
    dsimp only [putsL, slotOf]
    rw [h9]
    go_wp2
    exact ⟨rfl, Below.refl _ _, rfl⟩
  · intro vals W hB ⟨h3, h6, h7, h10, _⟩
    have h6 : vals 6 = _ := h6
    have h7 : vals 7 = _ := h7
    have h10 : vals 10 = _ := h10
    dsimp only [putsL, slotOf]
    rw [h6, h7, h10]
    go_wp2_with ((go_at_call 88; refine (HC2.out _).mono ?_; rintro e w4 ⟨rfl, rfl⟩; have hb4 := Below.refl W.heap.size W))
    exact ⟨rfl, hb4, rfl⟩
  · intro vals W hB ⟨h3, h4, h11, _⟩
    have h3 : vals 3 = _ := h3
    have h4 : vals 4 = _ := h4
    have h11 : vals 11 = _ := h11
    dsimp only [putsL, slotOf]
    rw [h3, h4, h11]
    go_wp2
    exact ⟨rfl, below_al (Below.refl _ _) _, _, Nat.zero_le _, rfl, heap_alloc_new _ _⟩
  · intro vals W hB ⟨h11, ⟨g12, _, h12, hg12⟩, _⟩
    have h12 : vals 12 = _ := h12
    dsimp only [putsL, slotOf]
    rw [h12]
    go_wp2_with ((go_at_call 87; refine (HCC.out _ _ hB hg12).mono ?_; rintro e w4 ⟨v4, rfl, hown4, hb4⟩))
    exact ⟨rfl, hb4, hown4⟩
  rintro vals W hB ⟨q0, q1, q2, q3, q4, q5, q6, q7, q8, q9, q10, q11, ⟨g12, hw12, q12, hg12⟩, q13, -⟩
  have h0 : vals 0 = _ := q0
  have h1 : vals 1 = _ := q1
  have h2 : vals 2 = _ := q2
  have h3 : vals 3 = _ := q3
  have h4 : vals 4 = _ := q4
  have h5 : vals 5 = _ := q5
  have h6 : vals 6 = _ := q6
  have h7 : vals 7 = _ := q7
  have h8 : vals 8 = _ := q8
  have h9 : vals 9 = _ := q9
  have h10 : vals 10 = _ := q10
  have h11 : vals 11 = _ := q11
  have h12 : vals 12 = _ := q12
  have HO13 : OwnE elP W W2.heap.size (vals 13) (n.ps.take f ++ B ++ n.ps.drop t) := q13
  dsimp only [putsL]
  rw [h0, h1, h2, h3, h4, h5, h6, h7, h8, h9, h10, h11, h12]
  clear h0 q0 h1 q1 h2 q2 h3 q3 h4 q4 h5 q5 h6 q6 h7 q7 h8 q8 h9 q9 h10 q10 h11 q11 h12 q12 q13
  generalize vals 13 = v13 at HO13 ⊢
  simp only [List.length_cons, List.length_nil, Nat.reduceAdd, List.drop_succ_cons, List.drop_zero, List.setIfInBounds_toArray, List.set_cons_succ, List.set_cons_zero]
  obtain ⟨p5, c5, e5, -, -, -⟩ := HO13.fit
  have HO : Veil _ := ⟨HO13⟩
  have hr3 : W.heap[w.heap.size + 1]? = some (.cells #[.slice none 0 0, .slice none 0 0, .slice none 0 0] 92 (0, 0)) := (hB.block _ (lt_of_heap HR2.out)).trans HR2.out
  have HR3 : Veil _ := ⟨hr3⟩
  have HX : Veil _ := ⟨(HB.out.below hB).x⟩
  obtain ⟨⟨y0, y1, y2⟩, k0, k1, k2⟩ := box3 hr3
  have HZ : Veil (w.heap.size + 1 < W2.heap.size) := ⟨lt_of_heap HR2.out⟩
  generalize hl5 : List.length _ = l5 at e5
  subst e5
  have HL5 : Veil _ := ⟨hl5⟩
  clear hl5 HO13 hr3 hB hz1 hW1 hW2 hLL
  go_wp2
  have hT := ((((Turned.refl (· = w.heap.size + 1) W).setCell (p := ⟨w.heap.size + 1, 0, none⟩) rfl (.slice p5 l5 c5)).setCell (p := ⟨w.heap.size + 1, 1, none⟩) rfl (.slice none 0 0)).setCell (p := ⟨w.heap.size + 1, 2, none⟩) rfl (.slice none 0 0))
  refine bodyPost_ret (results_node1 (g := w.heap.size + 1) rfl rfl (heap_setCell_at (heap_setCell_at (heap_setCell_at HR3.out 0 _) 1 _) 2 _)) rfl ⟨_, rfl, ?_, HX.out.trans (hT.toBelow HX.out.size (fun j _ h => by omega))⟩
  have ho := (HO.out.kept hT (fun j hj e => by have := (HO.out.lt hj).1; have := HZ.out; omega)).less (Nat.le_of_lt (Nat.lt_trans (Nat.lt_succ_self _) HZ.out))
  exact ⟨ho, OwnE.nil _ _ _, OwnE.nil _ _ _, fun _ _ h => (by cases h), fun _ _ h => (by cases h), fun _ h => (by cases h)⟩
end Go.Proofs.YtokbmimbbeedcaaGreatDoor

/- The walk of Put. -/
namespace Go.Proofs.YtokbmimbbeedcaaGreatDoor
open Go Go.RowKit Sm
attribute [local go_sem] Oper.semAt_some

def Nd.putM (n : Nd) (p : Pr) : Nd := ⟨n.ps.take (n.place p.k) ++ [p] ++ n.ps.drop (n.past p.k), [], []⟩
def Nd.putR (n : Nd) (p : Pr) : Nd × Int := if n.leaf && (n.putM p).right then (n.putM p, 0) else (Nd.zero, 60)
def PutPost (w : World) (t : Nd × Int) (e : Ending) (w' : World) : Prop := ∃ v1 v2 v3, e = .returned (.tuple #[.agg #[v1, v2, v3], .int .i64 t.2]) ∧ NdOwn w' w.heap.size v1 v2 v3 t.1 ∧ Below w.heap.size w w'
theorem kind_leaf (n : Nd) : n.leaf = true → (if n.right = true then n.kind else 0) = 1 := fun h => by
  have hr : n.right = true := by rw [Nd.right, h]; rfl
  rw [if_pos hr, Nd.kind, if_pos (n.leaf_iff.1 h).1.2.1]
theorem kind_notleaf (n : Nd) : n.leaf = false → (if n.right = true then n.kind else 0) ≠ 1 := fun h => by
  cases hr : n.right with
  | false => simp
  | true =>
    rw [Nd.right, h, Bool.false_or] at hr
    have := (n.branch_iff.1 hr).1.2.1
    rw [if_pos rfl, Nd.kind, if_neg (by omega)]
    omega
theorem leaf_place {n : Nd} (h : n.leaf = true) (key : List UInt8) : n.place key ≤ n.ps.length ∧ n.past key ≤ n.ps.length ∧ n.place key ≤ n.past key := by
  have hr : n.right = true := by rw [Nd.right, h]; rfl
  have hs := (n.leaf_iff.1 h).1
  have h1 : n.place key ≤ n.ps.length := by
    rw [Nd.place, if_pos hr, hs.1, cnt, Nat.add_zero]; exact cnt_le _ _
  refine ⟨h1, ?_⟩
  unfold Nd.past
  cases hh : n.hit key with
  | false => simp [h1]
  | true =>
    simp only [Nd.hit, Bool.and_eq_true, decide_eq_true_eq] at hh
    simp only [if_true]
    omega
theorem putM_ok {n : Nd} (hok : n.Ok) (h : n.leaf = true) {p : Pr} (hp : p.k.length ≤ 1000000 ∧ p.v.length ≤ 1000000) : (n.putM p).Ok := by
  have hs := (n.leaf_iff.1 h).1
  refine ⟨?_, Nat.zero_le _, Nat.zero_le _, fun q hq => ?_, fun _ hs => (by cases hs), fun _ hd => (by cases hd)⟩
  · simp only [Nd.putM, List.length_append, List.length_take, List.length_drop, List.length_cons, List.length_nil]; omega
  · simp only [Nd.putM, List.mem_append, List.mem_singleton] at hq
    rcases hq with (hq | hq) | hq
    · exact hok.pt q (List.mem_of_mem_take hq)
    · rw [hq]; exact hp
    · exact hok.pt q (List.mem_of_mem_drop hq)

set_option maxRecDepth 20000 in
set_option maxHeartbeats 4000000 in
theorem nput_of {w : World} {n : Nd} {a : NdP} (h : NdAt w n a) (hf : SlOk a.pp n.ps.length a.cp) (hok : Veil n.Ok) (p : Pr) (hp : p.k.length ≤ 1000000 ∧ p.v.length ≤ 1000000) :
    Calls Tryz.prog 44 #[n.v a, p.vv] w (PutPost w (n.putR p)) := by
  have HKd : Veil (∀ w, NdAt w n a → Calls Tryz.prog 61 #[n.v a] w fun e w' => e = .returned (.int .i64 ((if n.right then n.kind else 0 : Nat) : Int)) ∧ Below w.heap.size w w') := ⟨fun w h => kindOf_of h hok⟩
  have HSp : Veil (∀ w, NdAt w n a → Calls Tryz.prog 62 #[n.v a, .string ⟨p.k.toArray⟩] w fun e w' => e = .returned (.tuple #[.int .i64 (n.place p.k), .int .i64 (n.past p.k)]) ∧ Below w.heap.size w w') := ⟨fun w h => span_of h hok p.k hp.1⟩
  have HRp : Veil (n.leaf = true → ∀ w pb, NdAt w n a → Els elP w pb [p] → Calls Tryz.prog 63 #[n.v a, .int .i64 (n.place p.k), .int .i64 (n.past p.k), .slice pb (1 : Nat) (1 : Nat)] w fun e w' => ∃ v, e = .returned (.agg #[v, .slice none 0 0, .slice none 0 0]) ∧ NdOwn w' w.heap.size v (.slice none 0 0) (.slice none 0 0) (n.putM p) ∧ Below w.heap.size w w') := ⟨fun hl w pb h hB => replaced_of h hf (n.place p.k) (n.past p.k) (leaf_place hl p.k).1 (leaf_place hl p.k).2.1 hB 1 hok.out.p (by simp)⟩
  have HRt : Veil (n.leaf = true → ∀ w a', NdAt w (n.putM p) a' → Calls Tryz.prog 64 #[(n.putM p).v a'] w fun e w' => e = .returned (.bool (n.putM p).right) ∧ Below w.heap.size w w') := ⟨fun hl w a' h => nright_of h ⟨putM_ok hok.out hl hp⟩⟩
  have HK1 : Veil _ := ⟨kind_leaf n⟩
  have HK0 : Veil _ := ⟨kind_notleaf n⟩
  have HM0 : Veil ((n.putM p).ks = [] ∧ (n.putM p).ds = []) := ⟨rfl, rfl⟩
  have HPR : Veil (n.putR p = if (n.leaf && (n.putM p).right) = true then (n.putM p, 0) else (Nd.zero, 60)) := ⟨rfl⟩
  clear hok hf
  revert HKd HSp HRp HRt HK1 HK0 HM0 HPR
  generalize n.putR p = R
  generalize n.putM p = m
  generalize (if n.right = true then n.kind else 0) = kd
  generalize n.place p.k = f
  generalize n.past p.k = t
  generalize n.leaf = l
  intro HKd HSp HRp HRt HK1 HK0 HM0 HPR
  obtain ⟨pk, pv⟩ := p
  unfold Pr.vv at *
  dsimp only at *
  obtain ⟨W1, hW1⟩ : ∃ W1, w.alloc (.cells #[.slice a.pp n.ps.length a.cp, .slice a.pk n.ks.length a.ck, .slice a.pd n.ds.length a.cd] 92) = W1 := ⟨_, rfl⟩
  obtain ⟨W2, hW2⟩ : ∃ W2, W1.alloc (.cells #[.string ⟨pk.toArray⟩, .string ⟨pv.toArray⟩] 37) = W2 := ⟨_, rfl⟩
  obtain ⟨W3, hW3⟩ : ∃ W3, W2.alloc (.cells #[.slice none 0 0, .slice none 0 0, .slice none 0 0] 92) = W3 := ⟨_, rfl⟩
  have hb2 : Below W1.heap.size W1 W2 := by rw [← hW2]; exact below_al (Below.refl _ _) _
  have hb3 : Below W2.heap.size W2 W3 := by rw [← hW3]; exact below_al (Below.refl _ _) _
  have HB : Veil (NdBox w n a W3) := ⟨by have := NdBox.new h; rw [hW1] at this; exact this.below (bn_then hb2 hb3)⟩
  have HP2 : W2.heap[W1.heap.size]? = some (.cells #[.string ⟨pk.toArray⟩, .string ⟨pv.toArray⟩] 37 (0, 0)) := by rw [← hW2]; exact heap_alloc_new _ _
  have HPB : Veil (W3.heap[W1.heap.size]? = some (.cells [.string ⟨pk.toArray⟩, .string ⟨pv.toArray⟩].toArray 37 (0, 0))) := ⟨(hb3.block _ (lt_of_heap HP2)).trans HP2⟩
  have HR3 : Veil (W3.heap[W2.heap.size]? = some (.cells #[.slice none 0 0, .slice none 0 0, .slice none 0 0] 92 (0, 0))) := ⟨by rw [← hW3]; exact heap_alloc_new _ _⟩
  have HZ : Veil (w.heap.size < W1.heap.size ∧ W1.heap.size < W2.heap.size) := ⟨by have h1 := lt_of_heap HP2; have : W1.heap.size = w.heap.size + 1 := (by rw [← hW1]; simp); omega⟩
  obtain ⟨a0, a1, a2⟩ := HB.out.cells
  clear h hb2 hb3 HP2
  unfold Nd.v at *
  go_enter Tryz.func44, Tryz.ntmps44
  cases l
  · have hk1 : ((kd : Int) != 1) = true := by rw [bne_iff_ne]; have := HK0.out rfl; omega
    obtain rfl : R = (Nd.zero, 60) := by rw [HPR.out]; simp
    clear HRp HRt HK1 HK0 HPR HSp
    go_wp2_with (go_at_call 61; refine (HKd.out _ HB.out.s).mono ?_; rintro e w4 ⟨rfl, hb⟩; have HR4 : Veil _ := ⟨(hb.block _ (lt_of_heap HR3.out)).trans HR3.out⟩; replace HB : Veil _ := ⟨HB.out.below hb⟩; clear hb a0 a1 a2; obtain ⟨⟨y0, y1, y2⟩, k0, k1, k2⟩ := box3 HR4.out)
    have hT := ((((Turned.refl (· = W2.heap.size) w4).setCell (p := ⟨W2.heap.size, 0, none⟩) rfl (.slice none 0 0)).setCell (p := ⟨W2.heap.size, 1, none⟩) rfl (.slice none 0 0)).setCell (p := ⟨W2.heap.size, 2, none⟩) rfl (.slice none 0 0))
    exact bodyPost_ret (results_node2 (g := W2.heap.size) (y := .int .i64 60) rfl rfl rfl (heap_setCell_at (heap_setCell_at (heap_setCell_at HR4.out 0 _) 1 _) 2 _)) rfl ⟨_, _, _, rfl, NdOwn.zero _ _, HB.out.x.trans (hT.toBelow HB.out.x.size (fun j _ h => by have := HZ.out; omega))⟩
  · obtain rfl : kd = 1 := HK1.out rfl
    have HRp1 : Veil _ := ⟨HRp.out rfl⟩
    have HRt1 : Veil _ := ⟨HRt.out rfl⟩
    clear HRp HRt HK1 HK0
    simp only [Bool.true_and] at HPR
    obtain ⟨mp, mk, md⟩ := m
    obtain ⟨rfl, rfl⟩ : mk = [] ∧ md = [] := HM0.out
    have HRt2 : Veil (∀ w p5 c5, Els elP w p5 mp → Calls Tryz.prog 64 #[.agg #[.slice p5 mp.length c5, .slice none 0 0, .slice none 0 0]] w fun e w' => e = .returned (.bool (Nd.right ⟨mp, [], []⟩)) ∧ Below w.heap.size w w') := ⟨fun w p5 c5 h => HRt1.out w ⟨p5, c5, none, 0, none, 0⟩ ⟨h, Els.nil _ _, Els.nil _ _⟩⟩
    clear HRt1 HM0
    have hTT : ∀ (W : World) (u : Value), Turned (· = W2.heap.size) W (((W.setCell ⟨W2.heap.size, 0, none⟩ u).setCell ⟨W2.heap.size, 1, none⟩ (.slice none 0 0)).setCell ⟨W2.heap.size, 2, none⟩ (.slice none 0 0)) := fun W u => ((((Turned.refl (· = W2.heap.size) W).setCell (p := ⟨W2.heap.size, 0, none⟩) rfl u).setCell (p := ⟨W2.heap.size, 1, none⟩) rfl (.slice none 0 0)).setCell (p := ⟨W2.heap.size, 2, none⟩) rfl (.slice none 0 0))
    have HTT : Veil _ := ⟨hTT⟩
    clear hTT
    cases hr : Nd.right ⟨mp, [], []⟩
    · rw [hr] at HRt2 HPR
      obtain rfl : R = (Nd.zero, 60) := by rw [HPR.out]; simp
      clear hr HPR
      go_wp2_with (first
      | (go_at_call 64; refine (HRt2.out _ _ _ HO8.out.2).mono ?_; rintro e w9 ⟨rfl, hb9⟩; have HO9 : Veil _ := ⟨HO8.out.1.below hb9⟩; have HR9 : Veil _ := ⟨(hb9.block _ (lt_of_heap HR8.out)).trans HR8.out⟩; have HV9 : Veil _ := ⟨(hb9.block _ (lt_of_heap HV8.out)).trans HV8.out⟩; replace HB : Veil _ := ⟨HB.out.below hb9⟩; clear hb9; obtain ⟨⟨y0, y1, y2⟩, k0, k1, k2⟩ := box3 HR9.out; obtain ⟨⟨z0, z1, z2⟩, -⟩ := box3 HV9.out)
      | (go_at_call 63; refine (HRp1.out _ _ HB6.out.s HE6.out).mono ?_; rintro e w7 ⟨v, rfl, hown, hb7⟩; obtain ⟨p5, c5, e5, hels, -, -⟩ := hown.p.fit; dsimp only at e5; subst e5; obtain ⟨W8, hW8⟩ : ∃ W8, w7.alloc (.cells #[.slice p5 mp.length c5, .slice none 0 0, .slice none 0 0] 92) = W8 := ⟨_, rfl⟩; have hb8 : Below w7.heap.size w7 W8 := (by rw [← hW8]; exact below_al (Below.refl _ _) _); have HO8 : Veil (NdOwn W8 W6.heap.size (.slice p5 mp.length c5) (.slice none 0 0) (.slice none 0 0) ⟨mp, [], []⟩ ∧ Els elP W8 p5 mp) := ⟨hown.below hb8, hels.below hb8⟩; have HV8 : Veil (W8.heap[w7.heap.size]? = some (.cells #[.slice p5 mp.length c5, .slice none 0 0, .slice none 0 0] 92 (0, 0))) := ⟨(by rw [← hW8]; exact heap_alloc_new _ _)⟩; have HR8 : Veil _ := ⟨(bn_then hb7 hb8 : Below W6.heap.size W6 W8).block _ (lt_of_heap HR6.out) |>.trans HR6.out⟩; replace HB : Veil _ := ⟨HB6.out.below (bn_then hb7 hb8)⟩; clear hown hels hb7 hb8 a0 a1 a2 p0 p1; subst hW8)
      | (go_at_call 62; refine (HSp.out _ HB.out.s).mono ?_; rintro e w5 ⟨rfl, hb⟩; have HPB5 : Veil _ := ⟨(hb.block _ (lt_of_heap HPB4.out)).trans HPB4.out⟩; have HR5 : Veil _ := ⟨(hb.block _ (lt_of_heap HR4.out)).trans HR4.out⟩; replace HB : Veil _ := ⟨HB.out.below hb⟩; obtain ⟨W6, hW6⟩ : ∃ W6, w5.alloc (.cells #[.string ⟨pk.toArray⟩, .string ⟨pv.toArray⟩] 37) = W6 := ⟨_, rfl⟩; have hb6 : Below w5.heap.size w5 W6 := (by rw [← hW6]; exact below_al (Below.refl _ _) _); have HB6 : Veil _ := ⟨HB.out.below hb6⟩; have HR6 : Veil _ := ⟨(hb6.block _ (lt_of_heap HR5.out)).trans HR5.out⟩; have HE6 : Veil (Els elP W6 (some ⟨w5.heap.size, 0, none⟩) [⟨pk, pv⟩]) := ⟨els_of_block (cur := #[.string ⟨pk.toArray⟩, .string ⟨pv.toArray⟩]) (t := 37) (fr := (0, 0)) (by rw [← hW6]; exact heap_alloc_new _ _) (by rfl)⟩; clear hb hb6 a0 a1 a2 p0; obtain ⟨a0, a1, a2⟩ := HB.out.cells; have p0 := cell_whole HPB5.out 0; have p1 := cell_whole HPB5.out 1; simp only [List.getElem?_cons_zero, List.getElem?_cons_succ] at p0 p1)
      | (go_at_call 61; refine (HKd.out _ HB.out.s).mono ?_; rintro e w4 ⟨rfl, hb⟩; have HPB4 : Veil _ := ⟨(hb.block _ (lt_of_heap HPB.out)).trans HPB.out⟩; have HR4 : Veil _ := ⟨(hb.block _ (lt_of_heap HR3.out)).trans HR3.out⟩; replace HB : Veil _ := ⟨HB.out.below hb⟩; clear hb a0 a1 a2; obtain ⟨a0, a1, a2⟩ := HB.out.cells; have p0 := cell_whole HPB4.out 0; simp only [List.getElem?_cons_zero] at p0))
      have hT := HTT.out w9 (.slice none 0 0)
      exact bodyPost_ret (results_node2 (g := W2.heap.size) (y := .int .i64 60) rfl rfl rfl (heap_setCell_at (heap_setCell_at (heap_setCell_at HR9.out 0 _) 1 _) 2 _)) rfl ⟨_, _, _, rfl, NdOwn.zero _ _, HB.out.x.trans (hT.toBelow HB.out.x.size (fun j _ h => by have := HZ.out; omega))⟩
    · rw [hr] at HRt2 HPR
      obtain rfl : R = (⟨mp, [], []⟩, 0) := by rw [HPR.out]; simp
      clear hr HPR
      go_wp2_with (first
      | (go_at_call 64; refine (HRt2.out _ _ _ HO8.out.2).mono ?_; rintro e w9 ⟨rfl, hb9⟩; have HO9 : Veil _ := ⟨HO8.out.1.below hb9⟩; have HR9 : Veil _ := ⟨(hb9.block _ (lt_of_heap HR8.out)).trans HR8.out⟩; have HV9 : Veil _ := ⟨(hb9.block _ (lt_of_heap HV8.out)).trans HV8.out⟩; replace HB : Veil _ := ⟨HB.out.below hb9⟩; clear hb9; obtain ⟨⟨y0, y1, y2⟩, k0, k1, k2⟩ := box3 HR9.out; obtain ⟨⟨z0, z1, z2⟩, -⟩ := box3 HV9.out)
      | (go_at_call 63; refine (HRp1.out _ _ HB6.out.s HE6.out).mono ?_; rintro e w7 ⟨v, rfl, hown, hb7⟩; obtain ⟨p5, c5, e5, hels, -, -⟩ := hown.p.fit; dsimp only at e5; subst e5; obtain ⟨W8, hW8⟩ : ∃ W8, w7.alloc (.cells #[.slice p5 mp.length c5, .slice none 0 0, .slice none 0 0] 92) = W8 := ⟨_, rfl⟩; have hb8 : Below w7.heap.size w7 W8 := (by rw [← hW8]; exact below_al (Below.refl _ _) _); have HO8 : Veil (NdOwn W8 W6.heap.size (.slice p5 mp.length c5) (.slice none 0 0) (.slice none 0 0) ⟨mp, [], []⟩ ∧ Els elP W8 p5 mp) := ⟨hown.below hb8, hels.below hb8⟩; have HV8 : Veil (W8.heap[w7.heap.size]? = some (.cells #[.slice p5 mp.length c5, .slice none 0 0, .slice none 0 0] 92 (0, 0))) := ⟨(by rw [← hW8]; exact heap_alloc_new _ _)⟩; have HR8 : Veil _ := ⟨(bn_then hb7 hb8 : Below W6.heap.size W6 W8).block _ (lt_of_heap HR6.out) |>.trans HR6.out⟩; replace HB : Veil _ := ⟨HB6.out.below (bn_then hb7 hb8)⟩; clear hown hels hb7 hb8 a0 a1 a2 p0 p1; subst hW8)
      | (go_at_call 62; refine (HSp.out _ HB.out.s).mono ?_; rintro e w5 ⟨rfl, hb⟩; have HPB5 : Veil _ := ⟨(hb.block _ (lt_of_heap HPB4.out)).trans HPB4.out⟩; have HR5 : Veil _ := ⟨(hb.block _ (lt_of_heap HR4.out)).trans HR4.out⟩; replace HB : Veil _ := ⟨HB.out.below hb⟩; obtain ⟨W6, hW6⟩ : ∃ W6, w5.alloc (.cells #[.string ⟨pk.toArray⟩, .string ⟨pv.toArray⟩] 37) = W6 := ⟨_, rfl⟩; have hb6 : Below w5.heap.size w5 W6 := (by rw [← hW6]; exact below_al (Below.refl _ _) _); have HB6 : Veil _ := ⟨HB.out.below hb6⟩; have HR6 : Veil _ := ⟨(hb6.block _ (lt_of_heap HR5.out)).trans HR5.out⟩; have HE6 : Veil (Els elP W6 (some ⟨w5.heap.size, 0, none⟩) [⟨pk, pv⟩]) := ⟨els_of_block (cur := #[.string ⟨pk.toArray⟩, .string ⟨pv.toArray⟩]) (t := 37) (fr := (0, 0)) (by rw [← hW6]; exact heap_alloc_new _ _) (by rfl)⟩; clear hb hb6 a0 a1 a2 p0; obtain ⟨a0, a1, a2⟩ := HB.out.cells; have p0 := cell_whole HPB5.out 0; have p1 := cell_whole HPB5.out 1; simp only [List.getElem?_cons_zero, List.getElem?_cons_succ] at p0 p1)
      | (go_at_call 61; refine (HKd.out _ HB.out.s).mono ?_; rintro e w4 ⟨rfl, hb⟩; have HPB4 : Veil _ := ⟨(hb.block _ (lt_of_heap HPB.out)).trans HPB.out⟩; have HR4 : Veil _ := ⟨(hb.block _ (lt_of_heap HR3.out)).trans HR3.out⟩; replace HB : Veil _ := ⟨HB.out.below hb⟩; clear hb a0 a1 a2; obtain ⟨a0, a1, a2⟩ := HB.out.cells; have p0 := cell_whole HPB4.out 0; simp only [List.getElem?_cons_zero] at p0))
      have hT := HTT.out w9 (.slice p5 mp.length c5)
      have hz6 : W2.heap.size < W6.heap.size := lt_of_heap HR6.out
      refine bodyPost_ret (results_node2 (g := W2.heap.size) (y := .int .i64 0) rfl rfl rfl (heap_setCell_at (heap_setCell_at (heap_setCell_at HR9.out 0 _) 1 _) 2 _)) rfl ⟨_, _, _, rfl, (HO9.out.kept hT (fun k hk e => by omega)).less (by have := HZ.out; omega), HB.out.x.trans (hT.toBelow HB.out.x.size (fun j _ h => by have := HZ.out; omega))⟩
end Go.Proofs.YtokbmimbbeedcaaGreatDoor

/- The walk of Put of a pair (the document's own). -/
namespace Go.Proofs.YtokbmimbbeedcaaGreatDoor
open Go Go.RowKit Sm
attribute [local go_sem] Oper.semAt_some

def putL (L : List Pr) (p : Pr) (k : Nat) : List Pr := L.take k ++ [p] ++ L.drop (if k < L.length ∧ (L.getD k Pr.zero).k = p.k then k + 1 else k)
/-- What Put answers. -/
def Nd.put (n : Nd) (p : Pr) : Nd × Int := if rightP p && n.leaf then (if (putL n.ps p (n.place p.k)).length ≤ 255 then (⟨putL n.ps p (n.place p.k), [], []⟩, 0) else (Nd.zero, 60)) else (Nd.zero, 60)
end Go.Proofs.YtokbmimbbeedcaaGreatDoor

/- The walk of Delete. -/
namespace Go.Proofs.YtokbmimbbeedcaaGreatDoor
open Go Go.RowKit Sm
attribute [local go_sem] Oper.semAt_some

def Nd.delP (n : Nd) (key : List UInt8) : Nd × Bool × Int := if n.leaf then (⟨n.ps.take (n.place key) ++ [] ++ n.ps.drop (n.past key), [], []⟩, decide (n.place key < n.past key), 0) else (Nd.zero, false, 60)

set_option maxRecDepth 20000 in
set_option maxHeartbeats 4000000 in
theorem ndelete_of {w : World} {n : Nd} {a : NdP} (h : NdAt w n a) (hf : SlOk a.pp n.ps.length a.cp) (hok : Veil n.Ok) (key : List UInt8) (hkey : key.length ≤ 1000000) :
    Calls Tryz.prog 51 #[n.v a, .string ⟨key.toArray⟩] w (DelPost w (n.delP key)) := by
  have HKd : Veil (∀ w, NdAt w n a → Calls Tryz.prog 61 #[n.v a] w fun e w' => e = .returned (.int .i64 ((if n.right then n.kind else 0 : Nat) : Int)) ∧ Below w.heap.size w w') := ⟨fun w h => kindOf_of h hok⟩
  have HSp : Veil (∀ w, NdAt w n a → Calls Tryz.prog 62 #[n.v a, .string ⟨key.toArray⟩] w fun e w' => e = .returned (.tuple #[.int .i64 (n.place key), .int .i64 (n.past key)]) ∧ Below w.heap.size w w') := ⟨fun w h => span_of h hok key hkey⟩
  have HRp : Veil (n.leaf = true → ∀ w, NdAt w n a → Calls Tryz.prog 63 #[n.v a, .int .i64 (n.place key), .int .i64 (n.past key), .slice none 0 0] w fun e w' => ∃ v, e = .returned (.agg #[v, .slice none 0 0, .slice none 0 0]) ∧ NdOwn w' w.heap.size v (.slice none 0 0) (.slice none 0 0) ⟨n.ps.take (n.place key) ++ [] ++ n.ps.drop (n.past key), [], []⟩ ∧ Below w.heap.size w w') := ⟨fun hl w h => replaced_of h hf (n.place key) (n.past key) (leaf_place hl key).1 (leaf_place hl key).2.1 (pb := none) (B := []) (Els.nil _ _) 0 hok.out.p (by simp)⟩
  have HK1 : Veil _ := ⟨kind_leaf n⟩
  have HK0 : Veil _ := ⟨kind_notleaf n⟩
  have HPR : Veil (n.delP key = if n.leaf = true then (⟨n.ps.take (n.place key) ++ [] ++ n.ps.drop (n.past key), [], []⟩, decide (n.place key < n.past key), 0) else (Nd.zero, false, 60)) := ⟨rfl⟩
  have hbd : n.leaf = true → n.past key ≤ 100000 ∧ n.place key ≤ 100000 := fun hl => ⟨Nat.le_trans (leaf_place hl key).2.1 hok.out.p, Nat.le_trans (leaf_place hl key).1 hok.out.p⟩
  clear hok hf
  revert HKd HSp HRp HK1 HK0 HPR hbd
  generalize n.delP key = R
  generalize n.ps.take (n.place key) ++ [] ++ n.ps.drop (n.past key) = mp
  generalize (if n.right = true then n.kind else 0) = kd
  generalize n.place key = f
  generalize n.past key = t
  generalize n.leaf = l
  intro HKd HSp HRp HK1 HK0 HPR hbd
  have hz1 : (w.alloc (.cells #[.slice a.pp n.ps.length a.cp, .slice a.pk n.ks.length a.ck, .slice a.pd n.ds.length a.cd] 92)).heap.size = w.heap.size + 1 := by simp
  obtain ⟨W1, hW1⟩ : ∃ W1, w.alloc (.cells #[.slice a.pp n.ps.length a.cp, .slice a.pk n.ks.length a.ck, .slice a.pd n.ds.length a.cd] 92) = W1 := ⟨_, rfl⟩
  obtain ⟨W3, hW3⟩ : ∃ W3, W1.alloc (.cells #[.slice none 0 0, .slice none 0 0, .slice none 0 0] 92) = W3 := ⟨_, rfl⟩
  rw [hW1] at hz1
  have hb3 : Below W1.heap.size W1 W3 := by rw [← hW3]; exact below_al (Below.refl _ _) _
  have HB : Veil (NdBox w n a W3) := ⟨by have := NdBox.new h; rw [hW1] at this; exact this.below hb3⟩
  have HR3 : Veil (W3.heap[W1.heap.size]? = some (.cells #[.slice none 0 0, .slice none 0 0, .slice none 0 0] 92 (0, 0))) := ⟨by rw [← hW3]; exact heap_alloc_new _ _⟩
  have HZ : Veil (W1.heap.size = w.heap.size + 1) := ⟨hz1⟩
  obtain ⟨a0, a1, a2⟩ := HB.out.cells
  clear h hb3 hz1
  unfold Nd.v at *
  have HTT : Veil (∀ (W : World) (u : Value), Turned (· = W1.heap.size) W (((W.setCell ⟨W1.heap.size, 0, none⟩ u).setCell ⟨W1.heap.size, 1, none⟩ (.slice none 0 0)).setCell ⟨W1.heap.size, 2, none⟩ (.slice none 0 0))) := ⟨fun W u => ((((Turned.refl (· = W1.heap.size) W).setCell (p := ⟨W1.heap.size, 0, none⟩) rfl u).setCell (p := ⟨W1.heap.size, 1, none⟩) rfl (.slice none 0 0)).setCell (p := ⟨W1.heap.size, 2, none⟩) rfl (.slice none 0 0))⟩
  go_enter Tryz.func51, Tryz.ntmps51
  cases l
  · have hk1 : ((kd : Int) != 1) = true := by rw [bne_iff_ne]; have := HK0.out rfl; omega
    obtain rfl : R = (Nd.zero, false, 60) := by rw [HPR.out]; simp
    clear HRp HK1 HK0 HPR HSp
    go_wp2_with (go_at_call 61; refine (HKd.out _ HB.out.s).mono ?_; rintro e w4 ⟨rfl, hb⟩; have HR4 : Veil _ := ⟨(hb.block _ (lt_of_heap HR3.out)).trans HR3.out⟩; replace HB : Veil _ := ⟨HB.out.below hb⟩; clear hb a0 a1 a2; obtain ⟨⟨y0, y1, y2⟩, k0, k1, k2⟩ := box3 HR4.out)
    have hT := HTT.out w4 (.slice none 0 0)
    exact bodyPost_ret (results_node3 (g := W1.heap.size) (y := .bool false) (z := .int .i64 60) rfl rfl rfl rfl (heap_setCell_at (heap_setCell_at (heap_setCell_at HR4.out 0 _) 1 _) 2 _)) rfl ⟨_, _, _, rfl, NdOwn.zero _ _, HB.out.x.trans (hT.toBelow HB.out.x.size (fun j _ h => by have := HZ.out; omega))⟩
  · obtain rfl : kd = 1 := HK1.out rfl
    have HRp1 : Veil _ := ⟨HRp.out rfl⟩
    obtain ⟨ht, hf⟩ := hbd rfl
    obtain rfl : R = (⟨mp, [], []⟩, decide (f < t), 0) := by rw [HPR.out]; simp
    clear HRp HK1 HK0 HPR hbd
    go_wp2_with (first
      | (go_at_call 63; refine (HRp1.out _ HB.out.s).mono ?_; rintro e w7 ⟨v, rfl, hown, hb7⟩; obtain ⟨p5, c5, e5, -, -, -⟩ := hown.p.fit; dsimp only at e5; subst e5; have HO7 : Veil _ := ⟨hown⟩; have HR7 : Veil _ := ⟨(hb7.block _ (lt_of_heap HR5.out)).trans HR5.out⟩; replace HB : Veil _ := ⟨HB.out.below hb7⟩; clear hown hb7 a0 a1 a2; obtain ⟨⟨y0, y1, y2⟩, k0, k1, k2⟩ := box3 HR7.out)
      | (go_at_call 62; refine (HSp.out _ HB.out.s).mono ?_; rintro e w5 ⟨rfl, hb⟩; have HR5 : Veil _ := ⟨(hb.block _ (lt_of_heap HR4.out)).trans HR4.out⟩; replace HB : Veil _ := ⟨HB.out.below hb⟩; clear hb a0 a1 a2; obtain ⟨a0, a1, a2⟩ := HB.out.cells)
      | (go_at_call 61; refine (HKd.out _ HB.out.s).mono ?_; rintro e w4 ⟨rfl, hb⟩; have HR4 : Veil _ := ⟨(hb.block _ (lt_of_heap HR3.out)).trans HR3.out⟩; replace HB : Veil _ := ⟨HB.out.below hb⟩; clear hb a0 a1 a2; obtain ⟨a0, a1, a2⟩ := HB.out.cells))
    have hT := HTT.out w7 (.slice p5 mp.length c5)
    have hz6 : W1.heap.size < w5.heap.size := lt_of_heap HR5.out
    refine bodyPost_ret (results_node3 (g := W1.heap.size) (y := .bool (decide (f < t))) (z := .int .i64 0) rfl rfl ?_ rfl (heap_setCell_at (heap_setCell_at (heap_setCell_at HR7.out 0 _) 1 _) 2 _)) rfl ⟨_, _, _, rfl, (HO7.out.kept hT (fun k hk e => by omega)).less (by have := HZ.out; omega), HB.out.x.trans (hT.toBelow HB.out.x.size (fun j _ h => by have := HZ.out; omega))⟩
    simp
end Go.Proofs.YtokbmimbbeedcaaGreatDoor
