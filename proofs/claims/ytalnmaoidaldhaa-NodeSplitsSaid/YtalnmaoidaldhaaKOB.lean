/- The walks of slices.Grow (of nothing), slices.Concat, for each kind of elements. -/
import Derived.Lib.AppendZerosOnto
import Derived.Lib.SliceRun
import Derived.Test.YtalnmaoidaldhaaKO1
namespace Go.Proofs.Ytalnmaoidaldhaa
open Go Go.RowKit Sm
attribute [local go_sem] Oper.semAt_some

/-- A part of what is put together: where it lies, its room, what it is. -/
structure Pt (α : Type) where
  p : Option Addr
  c : Nat
  l : List α
def Pt.v {α : Type} (x : Pt α) : Value := .slice x.p x.l.length x.c
def Pt.none {α : Type} : Pt α := ⟨Option.none, 0, []⟩
def sumL {α : Type} (P : List (Pt α)) : Nat := (P.map fun x => x.l.length).sum
def allL {α : Type} (P : List (Pt α)) : List α := P.flatMap (·.l)
theorem pt_take {α : Type} (P : List (Pt α)) (k : Nat) (h : k < P.length) : P.take (k + 1) = P.take k ++ [P.getD k Pt.none] := by
  rw [List.take_add_one]; simp [List.getD, h]
theorem sumL_take {α : Type} (P : List (Pt α)) (k : Nat) (h : k < P.length) : sumL (P.take (k + 1)) = sumL (P.take k) + (P.getD k Pt.none).l.length := by
  rw [pt_take P k h]; simp [sumL]
theorem allL_take {α : Type} (P : List (Pt α)) (k : Nat) (h : k < P.length) : allL (P.take (k + 1)) = allL (P.take k) ++ (P.getD k Pt.none).l := by
  rw [pt_take P k h]; simp [allL]
theorem allL_len {α : Type} (P : List (Pt α)) : (allL P).length = sumL P := by
  induction P with
  | nil => rfl
  | cons x r ih => simp only [allL, sumL, List.flatMap_cons, List.length_append, List.map_cons, List.sum_cons] at ih ⊢; omega
theorem sumL_le {α : Type} (P : List (Pt α)) (k : Nat) : sumL (P.take k) ≤ sumL P := by
  have e : sumL P = sumL (P.take k) + sumL (P.drop k) := by
    unfold sumL
    rw [← List.sum_append, ← List.map_append, List.take_append_drop]
  omega
theorem pt_cell {α : Type} {w : World} {g : Nat} {P : List (Pt α)} {t : TypeId} (h : w.heap[g]? = some (.cells (P.map Pt.v).toArray t (0, 0))) (k : Nat) (hk : k < P.length) : w.cell? ⟨g, k, Option.none⟩ = some (.slice (P.getD k Pt.none).p (P.getD k Pt.none).l.length (P.getD k Pt.none).c) := by
  rw [cell_whole h k, List.getElem?_map, List.getElem?_eq_getElem hk]
  simp [List.getD, hk, Pt.v]
theorem info_of {t : TypeId} {z : Value} {s b : Nat} (h : (Try.prog.info? t).map (fun i => (i.zero, i.size, i.bytes)) = some (some z, s, b)) : ∃ i, Try.prog.info? t = some i ∧ i.zero = some z ∧ i.size = s ∧ i.bytes = b := by
  cases hq : Try.prog.info? t with
  | none => rw [hq] at h; cases h
  | some i => rw [hq] at h; simp at h; exact ⟨i, rfl, h.1, h.2.1, h.2.2⟩
theorem grow_run {α : Type} (E : El α) (n : Nat) (h0 : 0 < n) (hn : n ≤ 1000000) (w : World) : ∀ ty, (Builtin.append_ #[E.sl, 3] ty #[.slice none 0 0, .int .i64 (n : Int)]).run Try.prog w =
    .ok (.slice (some ⟨w.heap.size, 0, Option.none⟩) n (grownCap w n 0 E.ty)) (w.drew.alloc (.cells (#[] ++ Builtin.zeroCells E.zero.cells n ++ Builtin.zeroCells E.zero.cells (grownCap w n 0 E.ty - n)) E.ty)) := fun ty => by
  obtain ⟨i0, hi, hz0, hz1, hz2⟩ := info_of E.info
  have hfew := E.few
  have hb : n * i0.bytes ≤ 1000000 * 64 := by rw [hz2]; exact Nat.mul_le_mul hn hfew
  have hpos : 0 < i0.size := by rw [hz1]; exact E.pos
  have h := Lib.run_append_grow_zeros w E.sl 3 ty E.ty i0 E.zero .i64 .i64 E.under Try.underlying3 hi hz0 none 0 0 [] (run_firstCells_none w.drew i0.size 0 0 0) n h0 hpos (by omega) (by omega) (by omega) (by rw [Nat.zero_add, nextslicecap_zero h0]; omega)
  simpa using h
theorem grow_own {α : Type} (E : El α) (n : Nat) (hn : n ≤ 1000000) (w : World) : OwnE E (w.drew.alloc (.cells (#[] ++ Builtin.zeroCells E.zero.cells n ++ Builtin.zeroCells E.zero.cells (grownCap w n 0 E.ty - n)) E.ty)) w.heap.size (.slice (some ⟨w.heap.size, 0, Option.none⟩) 0 (grownCap w n 0 E.ty)) [] := by
  have hge := grownCap_ge w n 0 E.ty
  have hcm : grownCap w n 0 E.ty ≤ maxLen := grownCap_le_maxLen w n 0 E.ty (by unfold maxLen; omega)
  refine ⟨by simp [elCells], .inr ⟨w.heap.size, grownCap w n 0 E.ty, _, rfl, Nat.le_refl _, heap_alloc_new w.drew _, Nat.zero_le _, hcm, ?_, by simp [elCells]⟩⟩
  simp only [Array.size_append, size_zeroCells, E.zlen, Array.size_empty, Nat.zero_add, ← Nat.add_mul]
  congr 1
  omega

set_option maxRecDepth 20000 in
theorem growP_nil (n : Nat) (hn : n ≤ 1000000) (w : World) : Calls Try.prog 36 #[.slice none 0 0, .int .i64 (n : Int)] w fun e w' => ∃ v, e = .returned v ∧ OwnE elP w' w.heap.size v [] ∧ Below w.heap.size w w' := by
  by_cases h0 : n = 0
  · subst h0
    go_enter Try.func36, Try.ntmps36
    go_wp2
    go_ret
    exact ⟨_, rfl, OwnE.nil _ _ _, Below.refl _ _⟩
  · have hrz := grow_run elP n (by omega) hn w
    have HO : Veil _ := ⟨grow_own elP n hn w⟩
    have hGn := grownCap_ge w n 0 elP.ty
    have HB : Veil (Below w.heap.size w (w.drew.alloc (.cells (#[] ++ Builtin.zeroCells elP.zero.cells n ++ Builtin.zeroCells elP.zero.cells (grownCap w n 0 elP.ty - n)) elP.ty))) := ⟨below_al (Below.refl _ _).drew _⟩
    have hG63 : grownCap w n 0 elP.ty ≤ 9223372036854775807 := by
      have := grownCap_le_maxLen w n 0 elP.ty (by unfold maxLen; omega)
      unfold maxLen at this
      omega
    revert hrz HO HB hGn hG63
    generalize w.drew.alloc (.cells (#[] ++ Builtin.zeroCells elP.zero.cells n ++ Builtin.zeroCells elP.zero.cells (grownCap w n 0 elP.ty - n)) elP.ty) = W1
    generalize grownCap w n 0 elP.ty = G
    intro hrz HO hGn HB hG63
    have hpos : 0 < n := by omega
    clear h0
    go_enter Try.func36, Try.ntmps36
    go_wp2_with (at_builtin; refine Lib.wpList_append_run _ rfl _ _ _ _ rfl _ _ rfl rfl _ _ (hrz _) ?_)
    go_ret
    exact ⟨_, rfl, HO.out, HB.out⟩

set_option maxRecDepth 20000 in
set_option maxHeartbeats 2000000 in
theorem concatP_of {w : World} {g : Nat} {P : List (Pt Pr)} {t : TypeId} (hg : w.heap[g]? = some (.cells (P.map Pt.v).toArray t (0, 0))) (cap : Nat) (hE : ∀ x ∈ P, Els elP w x.p x.l) (hl : sumL P ≤ 1000000) (hP : P.length ≤ 100) :
    Calls Try.prog 16 #[.slice (some ⟨g, 0, none⟩) P.length cap] w fun e w' => ∃ v, e = .returned v ∧ OwnE elP w' w.heap.size v (allL P) ∧ Below w.heap.size w w' := by
  have HG : Veil _ := ⟨hg⟩
  have HE : Veil _ := ⟨hE⟩
  have HGr : Veil (∀ w, Calls Try.prog 36 #[.slice none 0 0, .int .i64 (sumL P : Int)] w fun e w' => ∃ v, e = .returned v ∧ OwnE elP w' w.heap.size v [] ∧ Below w.heap.size w w') := ⟨growP_nil (sumL P) hl⟩
  clear hg hE
  go_enter Try.func16, Try.ntmps16
  go_wp2
  go_loopw [3, 11] (fun s i wr => ∃ k : Nat, k ≤ P.length ∧ i = .int .i64 k ∧ s = .int .i64 (sumL (P.take k)) ∧ w = wr) (fun _ i _ => P.length - (intOf i).toNat)
  case atStart => exact ⟨0, Nat.zero_le _, rfl, by simp [sumL], rfl⟩
  case round =>
    obtain ⟨k, hk, rfl, rfl, rfl⟩ := hrel
    by_cases hlt : k < P.length
    · have c1 := pt_cell HG.out k hlt
      have HSK : Veil _ := ⟨sumL_take P k hlt⟩
      have hs1 := sumL_le P (k + 1)
      rw [HSK.out] at hs1
      revert c1 HSK hs1
      generalize P.getD k Pt.none = x
      obtain ⟨p, c, l⟩ := x
      dsimp only
      generalize sumL (P.take k) = m
      generalize l.length = n
      intro c1 HSK hs1
      go_wp2
      refine ⟨⟨k + 1, by omega, by go_num, by rw [HSK.out]; first | rfl | go_num, by first | rfl | trivial⟩, ?_⟩
      simp only [intOf]; omega
    · obtain rfl : k = P.length := by omega
      have e : sumL (P.take P.length) = sumL P := by rw [List.take_length]
      rw [e]
      clear e
      go_wp2_with (go_at_call 36; refine (HGr.out _).mono ?_; rintro e w2 ⟨v, rfl, hown, hb⟩)
      have HI : Veil (OwnE elP w2 w.heap.size v (allL (P.take 0)) ∧ Below w.heap.size w w2) := ⟨by simpa [allL] using hown, hb⟩
      clear hown hb hlt hk
      go_loopw [6, 27] (fun b i wr => ∃ (k : Nat) (v : Value), k ≤ P.length ∧ i = .int .i64 k ∧ v = b ∧ Veil (OwnE elP wr w.heap.size v (allL (P.take k)) ∧ Below w.heap.size w wr)) (fun _ i _ => P.length - (intOf i).toNat)
      case atStart => exact ⟨0, v, Nat.zero_le _, rfl, rfl, HI⟩
      case round =>
        obtain ⟨k, v, hk, rfl, rfl, HI⟩ := hrel
        by_cases hlt : k < P.length
        · have c1 := (HI.out.2.cell (lt_of_heap HG.out)).trans (pt_cell HG.out k hlt)
          have HAK : Veil _ := ⟨allL_take P k hlt⟩
          have hs1 := sumL_le P (k + 1)
          rw [sumL_take P k hlt, ← allL_len (P.take k)] at hs1
          have HEx : Veil (Els elP wr (P.getD k Pt.none).p (P.getD k Pt.none).l) := ⟨(HE.out _ (getD_mem hlt Pt.none)).below HI.out.2⟩
          revert c1 HAK hs1 HEx
          generalize P.getD k Pt.none = x
          obtain ⟨p, c, l⟩ := x
          dsimp only
          generalize allL (P.take k) = M at HI ⊢
          intro c1 HAK hs1 HEx
          have HML : Veil (M.length + l.length ≤ 1000000) := ⟨by omega⟩
          clear hs1
          go_wp2_with (at_builtin; refine wpList_append_els elP rfl (.tmp 31) (.tmp 32) rfl w.heap.size v M l rfl HI.out.1 p c rfl HEx.out HML.out HI.out.2.size ?_; intro v' w5 hown5 hgrow5 hv5)
          refine ⟨⟨k + 1, v', by omega, by go_num, rfl, ⟨by rw [HAK.out]; exact hown5, ownE_grown HI.out.2 (Nat.le_refl _) HI.out.1 hgrow5⟩⟩, ?_⟩
          simp only [intOf]; omega
        · obtain rfl : k = P.length := by omega
          have HI2 : Veil (OwnE elP wr w.heap.size v (allL P) ∧ Below w.heap.size w wr) := ⟨by have := HI.out; rwa [List.take_length] at this⟩
          clear HI
          go_wp2
          go_ret
          exact ⟨v, rfl, HI2.out⟩

set_option maxRecDepth 20000 in
theorem growK_nil (n : Nat) (hn : n ≤ 1000000) (w : World) : Calls Try.prog 37 #[.slice none 0 0, .int .i64 (n : Int)] w fun e w' => ∃ v, e = .returned v ∧ OwnE elK w' w.heap.size v [] ∧ Below w.heap.size w w' := by
  by_cases h0 : n = 0
  · subst h0
    go_enter Try.func37, Try.ntmps37
    go_wp2
    go_ret
    exact ⟨_, rfl, OwnE.nil _ _ _, Below.refl _ _⟩
  · have hrz := grow_run elK n (by omega) hn w
    have HO : Veil _ := ⟨grow_own elK n hn w⟩
    have hGn := grownCap_ge w n 0 elK.ty
    have HB : Veil (Below w.heap.size w (w.drew.alloc (.cells (#[] ++ Builtin.zeroCells elK.zero.cells n ++ Builtin.zeroCells elK.zero.cells (grownCap w n 0 elK.ty - n)) elK.ty))) := ⟨below_al (Below.refl _ _).drew _⟩
    have hG63 : grownCap w n 0 elK.ty ≤ 9223372036854775807 := by
      have := grownCap_le_maxLen w n 0 elK.ty (by unfold maxLen; omega)
      unfold maxLen at this
      omega
    revert hrz HO HB hGn hG63
    generalize w.drew.alloc (.cells (#[] ++ Builtin.zeroCells elK.zero.cells n ++ Builtin.zeroCells elK.zero.cells (grownCap w n 0 elK.ty - n)) elK.ty) = W1
    generalize grownCap w n 0 elK.ty = G
    intro hrz HO hGn HB hG63
    have hpos : 0 < n := by omega
    clear h0
    go_enter Try.func37, Try.ntmps37
    go_wp2_with (at_builtin; refine Lib.wpList_append_run _ rfl _ _ _ _ rfl _ _ rfl rfl _ _ (hrz _) ?_)
    go_ret
    exact ⟨_, rfl, HO.out, HB.out⟩

set_option maxRecDepth 20000 in
set_option maxHeartbeats 2000000 in
theorem concatK_of {w : World} {g : Nat} {P : List (Pt (List UInt8))} {t : TypeId} (hg : w.heap[g]? = some (.cells (P.map Pt.v).toArray t (0, 0))) (cap : Nat) (hE : ∀ x ∈ P, Els elK w x.p x.l) (hl : sumL P ≤ 1000000) (hP : P.length ≤ 100) :
    Calls Try.prog 18 #[.slice (some ⟨g, 0, none⟩) P.length cap] w fun e w' => ∃ v, e = .returned v ∧ OwnE elK w' w.heap.size v (allL P) ∧ Below w.heap.size w w' := by
  have HG : Veil _ := ⟨hg⟩
  have HE : Veil _ := ⟨hE⟩
  have HGr : Veil (∀ w, Calls Try.prog 37 #[.slice none 0 0, .int .i64 (sumL P : Int)] w fun e w' => ∃ v, e = .returned v ∧ OwnE elK w' w.heap.size v [] ∧ Below w.heap.size w w') := ⟨growK_nil (sumL P) hl⟩
  clear hg hE
  go_enter Try.func18, Try.ntmps18
  go_wp2
  go_loopw [3, 11] (fun s i wr => ∃ k : Nat, k ≤ P.length ∧ i = .int .i64 k ∧ s = .int .i64 (sumL (P.take k)) ∧ w = wr) (fun _ i _ => P.length - (intOf i).toNat)
  case atStart => exact ⟨0, Nat.zero_le _, rfl, by simp [sumL], rfl⟩
  case round =>
    obtain ⟨k, hk, rfl, rfl, rfl⟩ := hrel
    by_cases hlt : k < P.length
    · have c1 := pt_cell HG.out k hlt
      have HSK : Veil _ := ⟨sumL_take P k hlt⟩
      have hs1 := sumL_le P (k + 1)
      rw [HSK.out] at hs1
      revert c1 HSK hs1
      generalize P.getD k Pt.none = x
      obtain ⟨p, c, l⟩ := x
      dsimp only
      generalize sumL (P.take k) = m
      generalize l.length = n
      intro c1 HSK hs1
      go_wp2
      refine ⟨⟨k + 1, by omega, by go_num, by rw [HSK.out]; first | rfl | go_num, by first | rfl | trivial⟩, ?_⟩
      simp only [intOf]; omega
    · obtain rfl : k = P.length := by omega
      have e : sumL (P.take P.length) = sumL P := by rw [List.take_length]
      rw [e]
      clear e
      go_wp2_with (go_at_call 37; refine (HGr.out _).mono ?_; rintro e w2 ⟨v, rfl, hown, hb⟩)
      have HI : Veil (OwnE elK w2 w.heap.size v (allL (P.take 0)) ∧ Below w.heap.size w w2) := ⟨by simpa [allL] using hown, hb⟩
      clear hown hb hlt hk
      go_loopw [6, 27] (fun b i wr => ∃ (k : Nat) (v : Value), k ≤ P.length ∧ i = .int .i64 k ∧ v = b ∧ Veil (OwnE elK wr w.heap.size v (allL (P.take k)) ∧ Below w.heap.size w wr)) (fun _ i _ => P.length - (intOf i).toNat)
      case atStart => exact ⟨0, v, Nat.zero_le _, rfl, rfl, HI⟩
      case round =>
        obtain ⟨k, v, hk, rfl, rfl, HI⟩ := hrel
        by_cases hlt : k < P.length
        · have c1 := (HI.out.2.cell (lt_of_heap HG.out)).trans (pt_cell HG.out k hlt)
          have HAK : Veil _ := ⟨allL_take P k hlt⟩
          have hs1 := sumL_le P (k + 1)
          rw [sumL_take P k hlt, ← allL_len (P.take k)] at hs1
          have HEx : Veil (Els elK wr (P.getD k Pt.none).p (P.getD k Pt.none).l) := ⟨(HE.out _ (getD_mem hlt Pt.none)).below HI.out.2⟩
          revert c1 HAK hs1 HEx
          generalize P.getD k Pt.none = x
          obtain ⟨p, c, l⟩ := x
          dsimp only
          generalize allL (P.take k) = M at HI ⊢
          intro c1 HAK hs1 HEx
          have HML : Veil (M.length + l.length ≤ 1000000) := ⟨by omega⟩
          clear hs1
          go_wp2_with (at_builtin; refine wpList_append_els elK rfl (.tmp 31) (.tmp 32) rfl w.heap.size v M l rfl HI.out.1 p c rfl HEx.out HML.out HI.out.2.size ?_; intro v' w5 hown5 hgrow5 hv5)
          refine ⟨⟨k + 1, v', by omega, by go_num, rfl, ⟨by rw [HAK.out]; exact hown5, ownE_grown HI.out.2 (Nat.le_refl _) HI.out.1 hgrow5⟩⟩, ?_⟩
          simp only [intOf]; omega
        · obtain rfl : k = P.length := by omega
          have HI2 : Veil (OwnE elK wr w.heap.size v (allL P) ∧ Below w.heap.size w wr) := ⟨by have := HI.out; rwa [List.take_length] at this⟩
          clear HI
          go_wp2
          go_ret
          exact ⟨v, rfl, HI2.out⟩

set_option maxRecDepth 20000 in
theorem growD_nil (n : Nat) (hn : n ≤ 1000000) (w : World) : Calls Try.prog 38 #[.slice none 0 0, .int .i64 (n : Int)] w fun e w' => ∃ v, e = .returned v ∧ OwnE elD w' w.heap.size v [] ∧ Below w.heap.size w w' := by
  by_cases h0 : n = 0
  · subst h0
    go_enter Try.func38, Try.ntmps38
    go_wp2
    go_ret
    exact ⟨_, rfl, OwnE.nil _ _ _, Below.refl _ _⟩
  · have hrz := grow_run elD n (by omega) hn w
    have HO : Veil _ := ⟨grow_own elD n hn w⟩
    have hGn := grownCap_ge w n 0 elD.ty
    have HB : Veil (Below w.heap.size w (w.drew.alloc (.cells (#[] ++ Builtin.zeroCells elD.zero.cells n ++ Builtin.zeroCells elD.zero.cells (grownCap w n 0 elD.ty - n)) elD.ty))) := ⟨below_al (Below.refl _ _).drew _⟩
    have hG63 : grownCap w n 0 elD.ty ≤ 9223372036854775807 := by
      have := grownCap_le_maxLen w n 0 elD.ty (by unfold maxLen; omega)
      unfold maxLen at this
      omega
    revert hrz HO HB hGn hG63
    generalize w.drew.alloc (.cells (#[] ++ Builtin.zeroCells elD.zero.cells n ++ Builtin.zeroCells elD.zero.cells (grownCap w n 0 elD.ty - n)) elD.ty) = W1
    generalize grownCap w n 0 elD.ty = G
    intro hrz HO hGn HB hG63
    have hpos : 0 < n := by omega
    clear h0
    go_enter Try.func38, Try.ntmps38
    go_wp2_with (at_builtin; refine Lib.wpList_append_run _ rfl _ _ _ _ rfl _ _ rfl rfl _ _ (hrz _) ?_)
    go_ret
    exact ⟨_, rfl, HO.out, HB.out⟩

set_option maxRecDepth 20000 in
set_option maxHeartbeats 2000000 in
theorem concatD_of {w : World} {g : Nat} {P : List (Pt Nat)} {t : TypeId} (hg : w.heap[g]? = some (.cells (P.map Pt.v).toArray t (0, 0))) (cap : Nat) (hE : ∀ x ∈ P, Els elD w x.p x.l) (hl : sumL P ≤ 1000000) (hP : P.length ≤ 100) :
    Calls Try.prog 20 #[.slice (some ⟨g, 0, none⟩) P.length cap] w fun e w' => ∃ v, e = .returned v ∧ OwnE elD w' w.heap.size v (allL P) ∧ Below w.heap.size w w' := by
  have HG : Veil _ := ⟨hg⟩
  have HE : Veil _ := ⟨hE⟩
  have HGr : Veil (∀ w, Calls Try.prog 38 #[.slice none 0 0, .int .i64 (sumL P : Int)] w fun e w' => ∃ v, e = .returned v ∧ OwnE elD w' w.heap.size v [] ∧ Below w.heap.size w w') := ⟨growD_nil (sumL P) hl⟩
  clear hg hE
  go_enter Try.func20, Try.ntmps20
  go_wp2
  go_loopw [3, 11] (fun s i wr => ∃ k : Nat, k ≤ P.length ∧ i = .int .i64 k ∧ s = .int .i64 (sumL (P.take k)) ∧ w = wr) (fun _ i _ => P.length - (intOf i).toNat)
  case atStart => exact ⟨0, Nat.zero_le _, rfl, by simp [sumL], rfl⟩
  case round =>
    obtain ⟨k, hk, rfl, rfl, rfl⟩ := hrel
    by_cases hlt : k < P.length
    · have c1 := pt_cell HG.out k hlt
      have HSK : Veil _ := ⟨sumL_take P k hlt⟩
      have hs1 := sumL_le P (k + 1)
      rw [HSK.out] at hs1
      revert c1 HSK hs1
      generalize P.getD k Pt.none = x
      obtain ⟨p, c, l⟩ := x
      dsimp only
      generalize sumL (P.take k) = m
      generalize l.length = n
      intro c1 HSK hs1
      go_wp2
      refine ⟨⟨k + 1, by omega, by go_num, by rw [HSK.out]; first | rfl | go_num, by first | rfl | trivial⟩, ?_⟩
      simp only [intOf]; omega
    · obtain rfl : k = P.length := by omega
      have e : sumL (P.take P.length) = sumL P := by rw [List.take_length]
      rw [e]
      clear e
      go_wp2_with (go_at_call 38; refine (HGr.out _).mono ?_; rintro e w2 ⟨v, rfl, hown, hb⟩)
      have HI : Veil (OwnE elD w2 w.heap.size v (allL (P.take 0)) ∧ Below w.heap.size w w2) := ⟨by simpa [allL] using hown, hb⟩
      clear hown hb hlt hk
      go_loopw [6, 27] (fun b i wr => ∃ (k : Nat) (v : Value), k ≤ P.length ∧ i = .int .i64 k ∧ v = b ∧ Veil (OwnE elD wr w.heap.size v (allL (P.take k)) ∧ Below w.heap.size w wr)) (fun _ i _ => P.length - (intOf i).toNat)
      case atStart => exact ⟨0, v, Nat.zero_le _, rfl, rfl, HI⟩
      case round =>
        obtain ⟨k, v, hk, rfl, rfl, HI⟩ := hrel
        by_cases hlt : k < P.length
        · have c1 := (HI.out.2.cell (lt_of_heap HG.out)).trans (pt_cell HG.out k hlt)
          have HAK : Veil _ := ⟨allL_take P k hlt⟩
          have hs1 := sumL_le P (k + 1)
          rw [sumL_take P k hlt, ← allL_len (P.take k)] at hs1
          have HEx : Veil (Els elD wr (P.getD k Pt.none).p (P.getD k Pt.none).l) := ⟨(HE.out _ (getD_mem hlt Pt.none)).below HI.out.2⟩
          revert c1 HAK hs1 HEx
          generalize P.getD k Pt.none = x
          obtain ⟨p, c, l⟩ := x
          dsimp only
          generalize allL (P.take k) = M at HI ⊢
          intro c1 HAK hs1 HEx
          have HML : Veil (M.length + l.length ≤ 1000000) := ⟨by omega⟩
          clear hs1
          go_wp2_with (at_builtin; refine wpList_append_els elD rfl (.tmp 31) (.tmp 32) rfl w.heap.size v M l rfl HI.out.1 p c rfl HEx.out HML.out HI.out.2.size ?_; intro v' w5 hown5 hgrow5 hv5)
          refine ⟨⟨k + 1, v', by omega, by go_num, rfl, ⟨by rw [HAK.out]; exact hown5, ownE_grown HI.out.2 (Nat.le_refl _) HI.out.1 hgrow5⟩⟩, ?_⟩
          simp only [intOf]; omega
        · obtain rfl : k = P.length := by omega
          have HI2 : Veil (OwnE elD wr w.heap.size v (allL P) ∧ Below w.heap.size w wr) := ⟨by have := HI.out; rwa [List.take_length] at this⟩
          clear HI
          go_wp2
          go_ret
          exact ⟨v, rfl, HI2.out⟩
end Go.Proofs.Ytalnmaoidaldhaa
