/- Goods: the document's own with. -/
import Derived.Test.YtckkiilbabbeaaaDoorKI1
import Derived.Test.YtckkiilbabbeaaaDoorKN6
import Derived.Test.YtckkiilbabbeaaaDoorKCZ
namespace Go.Proofs.YtckkiilbabbeaaaDoor
open Go Go.RowKit Sm
attribute [local go_sem] Oper.semAt_some

theorem slOk_nil {α : Type} : SlOk none ([] : List α).length 0 := ⟨Nat.le_refl _, by decide, fun _ => rfl, fun _ h => (by cases h)⟩
/-- A list that a call has made: new, and to be written into, if there is anything in it. -/
def FreshE {α : Type} (E : El α) (B : Nat) (w : World) (v : Value) (L : List α) : Prop := ∃ p c, v = .slice p L.length c ∧ Els E w p L ∧ SlOk p L.length c ∧ (L ≠ [] → ∀ a, p = some a → B ≤ a.block ∧ a.block < w.heap.size ∧ a.spot = none) ∧ (∀ b o, p = some ⟨b, o, none⟩ → ∀ j, j < L.length * E.z → w.frozen? ⟨b, o + j, none⟩ = false)
theorem OwnE.fresh {α : Type} {E : El α} {w : World} {B B' : Nat} {v : Value} {L : List α} (h : OwnE E w B v L) (hB : B' ≤ B) : FreshE E B' w v L := by
  obtain ⟨h1, h2⟩ := h
  rcases h2 with ⟨rfl, h0⟩ | ⟨g, cap, cur, rfl, hg, hh, hn, hc, hs, ht⟩
  · obtain rfl : L = [] := List.eq_nil_of_length_eq_zero h0
    exact ⟨none, 0, rfl, Els.nil _ _, slOk_nil, fun _ a ha => (by cases ha), fun b o h => (by cases h)⟩
  · exact ⟨_, _, rfl, els_of_block hh ht, ⟨by omega, Nat.le_trans hc (by decide +kernel), fun h => (by cases h), fun a h => (by cases h; rfl)⟩, fun _ a ha => by cases ha; exact ⟨Nat.le_trans hB hg, lt_of_heap hh, rfl⟩, fun b o h j hj => by cases h; exact frozen_whole hh _⟩
theorem FreshE.nil {α : Type} (E : El α) (B : Nat) (w : World) : FreshE E B w (.slice none 0 0) [] := ⟨none, 0, rfl, Els.nil _ _, slOk_nil, fun _ a ha => (by cases ha), fun b o h => (by cases h)⟩
theorem FreshE.below {α : Type} {E : El α} {B : Nat} {w w' : World} {v : Value} {L : List α} (h : FreshE E B w v L) (hb : Below w.heap.size w w') : FreshE E B w' v L := by
  obtain ⟨p, c, h1, h2, h3, h4, h5⟩ := h
  refine ⟨p, c, h1, h2.below hb, h3, fun hne a ha => ⟨(h4 hne a ha).1, Nat.lt_of_lt_of_le (h4 hne a ha).2.1 hb.size, (h4 hne a ha).2.2⟩, fun b o hp j hj => ?_⟩
  have hne : L ≠ [] := by rintro rfl; simp at hj
  rw [hb.frozen (p := ⟨b, o + j, none⟩) (h4 hne _ hp).2.1]
  exact h5 b o hp j hj
theorem FreshE.base {α : Type} {E : El α} {B B' : Nat} {w : World} {v : Value} {L : List α} (h : FreshE E B w v L) (hB : B' ≤ B) : FreshE E B' w v L := by
  obtain ⟨p, c, h1, h2, h3, h4, h5⟩ := h
  exact ⟨p, c, h1, h2, h3, fun hne a ha => ⟨Nat.le_trans hB (h4 hne a ha).1, (h4 hne a ha).2⟩, h5⟩
def FreshPost {α : Type} (E : El α) (w : World) (L : List α) (e : Ending) (w' : World) : Prop := ∃ v, e = .returned v ∧ FreshE E w.heap.size w' v L ∧ Below w.heap.size w w'

theorem withX_cons (s x : St) (r : List St) (d : Bool) : withX s (x :: r) d = if d = false ∧ s.item ≤ x.item then s :: (if x.item = s.item then withX s r true else x :: withX s r true) else if x.item = s.item then withX s r d else x :: withX s r d := rfl

set_option maxRecDepth 20000 in
set_option maxHeartbeats 2000000 in
theorem refwithG_any {w : World} {p : Option Addr} (l : List St) (c : Nat) (s : St) (h : Els elS w p l) (hl : l.length ≤ 1000) :
    Calls Tryd.prog 51 #[.slice p l.length c, s.v] w (FreshPost elS w (withG l s)) := by
  obtain ⟨R, hR⟩ : ∃ R, withG l s = R := ⟨_, rfl⟩
  have HR : Veil (withX s l (decide (s.n = 0)) = R) := ⟨hR⟩
  rw [hR]
  clear hR
  obtain ⟨si, sn⟩ := s
  unfold St.v
  dsimp only at *
  have HE : Veil (∀ W, Below (w.alloc (.cells #[.int .u16 si, .int .i64 sn] 25)).heap.size (w.alloc (.cells #[.int .u16 si, .int .i64 sn] 25)) W → Els elS W p l ∧ W.cell? ⟨w.heap.size, 0, none⟩ = some (.int .u16 si) ∧ W.cell? ⟨w.heap.size, 1, none⟩ = some (.int .i64 sn)) := ⟨fun W hW => by
    have hc : ∀ o, (w.alloc (.cells #[.int .u16 si, .int .i64 sn] 25)).cell? ⟨w.heap.size, o, none⟩ = [Value.int .u16 si, Value.int .i64 sn][o]? := fun o => cell_whole (heap_alloc_new _ _) o
    refine ⟨(h.below (below_al (Below.refl _ _) _)).below hW, ?_, ?_⟩
    · exact (hW.cell (World.block_lt_of_cell? _ _ (hc 0))).trans (hc 0)
    · exact (hW.cell (World.block_lt_of_cell? _ _ (hc 1))).trans (hc 1)⟩
  have HW : Veil (Below w.heap.size w (w.alloc (.cells #[.int .u16 si, .int .i64 sn] 25)) ∧ w.heap.size ≤ (w.alloc (.cells #[.int .u16 si, .int .i64 sn] 25)).heap.size) := ⟨below_al (Below.refl _ _) _, by simp⟩
  clear h
  obtain ⟨d0, hd0⟩ : ∃ d, decide (sn = 0) = d := ⟨_, rfl⟩
  rw [hd0] at HR
  have hd0' : (sn == 0) = d0 := by rw [← hd0]; by_cases h : sn = 0 <;> simp [h]
  go_enter Tryd.func51, Tryd.ntmps51
  go_wp2
  obtain ⟨W1, hW1⟩ : ∃ W1, w.alloc (.cells #[.int .u16 si, .int .i64 sn] 25) = W1 := ⟨_, rfl⟩
  rw [hW1] at HE HW
  rw [hW1]
  clear hW1 hd0 hd0'
  go_loopw [5, 6, 7] (fun v d i wr => ∃ (k : Nat) (d' : Bool), k ≤ l.length ∧ i = .int .i64 k ∧ d = .bool d' ∧ Veil (∃ L : List St, L.length ≤ 2 * k ∧ OwnE elS wr W1.heap.size v L ∧ Below W1.heap.size W1 wr ∧ L ++ withX ⟨si, sn⟩ (l.drop k) d' = R)) (fun _ _ i _ => l.length - (intOf i).toNat)
  case atStart => exact ⟨0, d0, Nat.zero_le _, rfl, rfl, ⟨[], Nat.zero_le _, OwnE.nil _ _ _, Below.refl _ _, HR.out⟩⟩
  case round =>
    obtain ⟨k, d, hk, rfl, rfl, hJ⟩ := hrel
    obtain ⟨L, hLl, hown, hbel, hL⟩ := hJ.out
    have HO : Veil _ := ⟨hown⟩
    have HB : Veil _ := ⟨hbel⟩
    have HL : Veil _ := ⟨hL⟩
    clear hown hbel hL hJ
    by_cases hlt : k < l.length
    · obtain ⟨hEl, b0, b1⟩ := HE.out _ HB.out
      obtain ⟨b, o, rfl, hc1, hc2⟩ := elS_at hEl hlt
      have HC : Veil (∀ W, Below W1.heap.size W1 W → W.cell? ⟨b, o + k * 2, none⟩ = some (.int .u16 (l.getD k St.zero).item) ∧ W.cell? ⟨b, o + k * 2 + 1, none⟩ = some (.int .i64 (l.getD k St.zero).n) ∧ W.cell? ⟨w.heap.size, 0, none⟩ = some (.int .u16 si) ∧ W.cell? ⟨w.heap.size, 1, none⟩ = some (.int .i64 sn)) := ⟨fun W hW => by
        obtain ⟨e1, e2, e3⟩ := HE.out W hW
        obtain ⟨b', o', hbo, g1, g2⟩ := elS_at e1 hlt
        simp only [Option.some.injEq, Addr.mk.injEq, and_true] at hbo
        obtain ⟨rfl, rfl⟩ := hbo
        exact ⟨g1, g2, e2, e3⟩⟩
      have HD := drop_getD l k hlt
      rw [HD, withX_cons] at HL
      clear hEl HD
      revert HL; revert HC; revert hc2; revert hc1
      generalize l.getD k St.zero = x
      obtain ⟨xi, xn⟩ := x
      dsimp only
      intro hc1 hc2 HC HL
      by_cases hA : d = false ∧ si ≤ xi
      · obtain ⟨rfl, hsx⟩ := hA
        rw [if_pos ⟨rfl, hsx⟩] at HL
        by_cases hx : xi = si
        · subst hx
          rw [if_pos rfl] at HL
          clear hsx
          go_wp2
          go_quiet (fail)
          go_wp2_with (at_builtin; refine wpList_append_el elS rfl _ _ rfl W1.heap.size _ L ⟨xi, sn⟩ rfl ((HO.out.below (bg_drewN _ (Below.refl _ _))).below (below_al (Below.refl _ _) _)) _ rfl (heap_alloc_new _ _) (by omega) (Nat.le_trans HB.out.size (by simp)) ?_; intro v' w9 hown hgrow hfrom; have HB9 : Veil (Below W1.heap.size W1 w9) := ⟨ownE_grown (below_al (bg_drewN _ HB.out) _) (Nat.le_refl _) ((HO.out.below (bg_drewN _ (Below.refl _ _))).below (below_al (Below.refl _ _) _)) hgrow⟩; obtain ⟨g1, g2, g3, g4⟩ := HC.out _ HB9.out; have HO9 : Veil _ := ⟨hown⟩; clear hown hgrow hfrom)
          go_quiet (fail)
          go_wp2
          refine ⟨⟨k + 1, true, by omega, by go_num, rfl, ⟨L ++ [⟨xi, sn⟩], by simp; omega, HO9.out.below (bg_drewN _ (Below.refl _ _)), bg_drewN _ HB9.out, ?_⟩⟩, ?_⟩
          · rw [← HL.out]; simp
          · simp only [intOf]; omega
        · rw [if_neg hx] at HL
          have hxi : ¬ (xi : Int) = si := by omega
          clear hx
          go_wp2
          go_quiet (fail)
          go_wp2_with (at_builtin; refine wpList_append_el elS rfl _ _ rfl W1.heap.size _ L ⟨si, sn⟩ rfl ((HO.out.below (bg_drewN _ (Below.refl _ _))).below (below_al (Below.refl _ _) _)) _ rfl (heap_alloc_new _ _) (by (try simp); omega) (Nat.le_trans HB.out.size (by simp)) ?_; intro v9 w9 hown hgrow hfrom; have HB9 : Veil (Below W1.heap.size W1 w9) := ⟨ownE_grown (below_al (bg_drewN _ HB.out) _) (Nat.le_refl _) ((HO.out.below (bg_drewN _ (Below.refl _ _))).below (below_al (Below.refl _ _) _)) hgrow⟩; obtain ⟨g1, g2, g3, g4⟩ := HC.out _ HB9.out; have HO9 : Veil _ := ⟨hown⟩; clear hown hgrow hfrom)
          go_quiet (fail)
          go_wp2_with (at_builtin; refine wpList_append_el elS rfl _ _ rfl W1.heap.size _ (L ++ [⟨si, sn⟩]) ⟨xi, xn⟩ rfl ((HO9.out.below (bg_drewN _ (Below.refl _ _))).below (below_al (Below.refl _ _) _)) _ rfl (heap_alloc_new _ _) (by (try simp); omega) (Nat.le_trans HB9.out.size (by simp)) ?_; intro v10 w10 hown hgrow hfrom; have HB10 : Veil (Below W1.heap.size W1 w10) := ⟨ownE_grown (below_al (bg_drewN _ HB9.out) _) (Nat.le_refl _) ((HO9.out.below (bg_drewN _ (Below.refl _ _))).below (below_al (Below.refl _ _) _)) hgrow⟩; have HO10 : Veil _ := ⟨hown⟩; clear hown hgrow hfrom)
          refine ⟨⟨k + 1, true, by omega, by go_num, rfl, ⟨L ++ [⟨si, sn⟩] ++ [⟨xi, xn⟩], by simp; omega, HO10.out, HB10.out, ?_⟩⟩, ?_⟩
          · rw [← HL.out]; simp
          · simp only [intOf]; omega
      · rw [if_neg hA] at HL
        by_cases hx : xi = si
        · subst hx
          obtain rfl : d = true := by
            cases d with
            | true => rfl
            | false => exact absurd ⟨rfl, Nat.le_refl _⟩ hA
          rw [if_pos rfl] at HL
          clear hA
          go_wp2
          go_quiet (fail)
          go_wp2
          go_quiet (fail)
          go_wp2
          refine ⟨⟨k + 1, true, by omega, by go_num, rfl, ⟨L, by omega, HO.out.below (bg_drewN _ (Below.refl _ _)), bg_drewN _ HB.out, HL.out⟩⟩, ?_⟩
          simp only [intOf]; omega
        · rw [if_neg hx] at HL
          have hxi : ¬ (xi : Int) = si := by omega
          cases d with
          | true =>
            clear hA hx
            go_wp2
            go_quiet (fail)
            go_wp2
            go_quiet (fail)
            go_wp2_with (at_builtin; refine wpList_append_el elS rfl _ _ rfl W1.heap.size _ L ⟨xi, xn⟩ rfl ((HO.out.below (bg_drewN _ (Below.refl _ _))).below (below_al (Below.refl _ _) _)) _ rfl (heap_alloc_new _ _) (by omega) (Nat.le_trans HB.out.size (by simp)) ?_; intro v9 w9 hown hgrow hfrom; have HB9 : Veil (Below W1.heap.size W1 w9) := ⟨ownE_grown (below_al (bg_drewN _ HB.out) _) (Nat.le_refl _) ((HO.out.below (bg_drewN _ (Below.refl _ _))).below (below_al (Below.refl _ _) _)) hgrow⟩; have HO9 : Veil _ := ⟨hown⟩; clear hown hgrow hfrom)
            refine ⟨⟨k + 1, true, by omega, by go_num, rfl, ⟨L ++ [⟨xi, xn⟩], by simp; omega, HO9.out, HB9.out, ?_⟩⟩, ?_⟩
            · rw [← HL.out]; simp
            · simp only [intOf]; omega
          | false =>
            have hlt2 : (xi : Int) < si := by have : ¬ si ≤ xi := fun h => hA ⟨rfl, h⟩; omega
            clear hA hx
            go_wp2
            go_quiet (fail)
            go_wp2
            go_quiet (fail)
            go_wp2_with (at_builtin; refine wpList_append_el elS rfl _ _ rfl W1.heap.size _ L ⟨xi, xn⟩ rfl ((HO.out.below (bg_drewN _ (Below.refl _ _))).below (below_al (Below.refl _ _) _)) _ rfl (heap_alloc_new _ _) (by omega) (Nat.le_trans HB.out.size (by simp)) ?_; intro v9 w9 hown hgrow hfrom; have HB9 : Veil (Below W1.heap.size W1 w9) := ⟨ownE_grown (below_al (bg_drewN _ HB.out) _) (Nat.le_refl _) ((HO.out.below (bg_drewN _ (Below.refl _ _))).below (below_al (Below.refl _ _) _)) hgrow⟩; have HO9 : Veil _ := ⟨hown⟩; clear hown hgrow hfrom)
            refine ⟨⟨k + 1, false, by omega, by go_num, rfl, ⟨L ++ [⟨xi, xn⟩], by simp; omega, HO9.out, HB9.out, ?_⟩⟩, ?_⟩
            · rw [← HL.out]; simp
            · simp only [intOf]; omega
    · obtain rfl : k = l.length := by omega
      rw [List.drop_length] at HL
      obtain ⟨-, b0, b1⟩ := HE.out _ HB.out
      cases d with
      | true =>
        have e : L = R := by have := HL.out; unfold withX at this; simpa using this
        subst e
        obtain ⟨q, cq, rfl, -⟩ := HO.out.form
        go_wp2
        go_ret
        exact ⟨_, rfl, HO.out.fresh HW.out.2, bc_then HW.out.1 (by exact HB.out)⟩
      | false =>
        have HRR : Veil (L ++ [⟨si, sn⟩] = R) := ⟨by have := HL.out; unfold withX at this; simpa using this⟩
        go_wp2_with (at_builtin; refine wpList_append_el elS rfl _ _ rfl W1.heap.size _ L ⟨si, sn⟩ rfl (HO.out.below (below_al (Below.refl _ _) _)) _ rfl (heap_alloc_new _ _) (by omega) (Nat.le_trans HB.out.size (by simp)) ?_; intro v9 w9 hown hgrow hfrom; have HB9 : Veil (Below W1.heap.size W1 w9) := ⟨ownE_grown (below_al HB.out _) (Nat.le_refl _) (HO.out.below (below_al (Below.refl _ _) _)) hgrow⟩; have HO9 : Veil _ := ⟨hown⟩; clear hown hgrow hfrom)
        go_ret
        exact ⟨_, rfl, by rw [← HRR.out]; exact HO9.out.fresh HW.out.2, bc_then HW.out.1 (by exact HB9.out)⟩
end Go.Proofs.YtckkiilbabbeaaaDoor
