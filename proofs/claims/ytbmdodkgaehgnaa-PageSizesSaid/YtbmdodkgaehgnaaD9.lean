/- The walk of Unsynced. -/
import Derived.Test.YtbmdodkgaehgnaaD8
namespace Go.Proofs.Ytbmdodkgaehgnaa
open Go.RowKit
attribute [local go_sem] Oper.semAt_some

def atv (x : Nat × List UInt8) : Value := .int .i64 x.1

theorem info3 : (Try.prog.info? 3).map (fun i => (i.zero, i.size, i.bytes)) = some (some (.int .i64 0), 1, 8) := by kernel_rfl

/-- Between two rounds. -/
def UnsI (w : World) (d kb sb : Nat) (v : Value) (D : Dk) (Bs Bx : Nat) (k : Nat) (A : World) : Prop :=
  DiskAt A d kb sb v D ∧ (∃ s, A.heap[Bs]? = some (.cells #[s] 48 (0, 0)) ∧ A.ownsRow w.heap.size 3 1 s k ((D.uns.take k).map atv) ∧ s.ownBlock ≠ some Bs ∧ s.ownBlock ≠ some Bx) ∧ A.heap[Bx]? = some (.cells #[.pointer (some ⟨d, 0, none⟩)] 38 (0, 0)) ∧ Turned (fun _ => False) w A

/-- What Unsynced leaves: the sectors' numbers, in new memory. -/
def UnsPost (w : World) (D : Dk) (e : Ending) (w' : World) : Prop :=
  ∃ s, e = .returned s ∧ w'.ownsRow w.heap.size 3 1 s D.uns.length (D.uns.map atv) ∧ Below w.heap.size w w'

set_option maxRecDepth 10000 in
set_option maxHeartbeats 1000000 in
theorem unsynced_any {w : World} {d kb sb : Nat} {v : Value} {D : Dk} (h : DiskAt w d kb sb v D) :
    Calls Try.prog 29 #[.pointer (some ⟨d, 0, none⟩)] w (UnsPost w D) := by
  refine calls_of_wp_marks Try.func29 rfl ?_
  simp only [Try.ntmps29, List.size_toArray, List.length_cons, List.length_nil, Nat.reduceAdd, Nat.reduceSub, Array.replicate_succ, Array.replicate_zero, List.push_toArray, List.append_toArray, List.nil_append, List.cons_append]
  have HH := Lib.hid h
  clear h
  go_wp2_with (go_at_call 53; refine (writes_any d _).mono ?_; rintro e w1 ⟨rfl, hw1⟩)
  have hD1 : DiskAt w1 d kb sb v D := by rw [← hw1]; exact HH.out.kept' (((Turned.refl (fun _ => False) w).alloc _).alloc _) (fun _ => False.elim)
  have hT1 : Turned (fun _ => False) w w1 := by rw [← hw1]; exact ((Turned.refl _ w).alloc _).alloc _
  have hp1 : w1.heap[w.heap.size]? = some (.cells #[.slice none 0 0] 48 (0, 0)) := by rw [← hw1]; exact heap_alloc2_old _ _ _
  have hx1 : w1.heap[w.heap.size + 1]? = some (.cells #[.pointer (some ⟨d, 0, none⟩)] 38 (0, 0)) := by rw [← hw1]; exact heap_alloc2_new _ _ _
  have hs1 : w.heap.size + 2 ≤ w1.heap.size := by rw [← hw1]; simp
  have hfoot : ∀ k, Foot d kb sb v k → k < w.heap.size := fun k hk => HH.out.flt hk
  clear hw1
  refine wp_range_seq (gf := 69) (lb := #[.pointer (some ⟨w.heap.size + 1, 0, none⟩)]) rfl (enters_of Try.func69 (by kernel_rfl) rfl)
    (writes_seq (w.heap.size + 1) d v D.uns (fun x hx => (HH.out.ok.u64 x hx).2) HH.out.ok.few) (fun k => rfl)
    (UnsI w d kb sb v D w.heap.size (w.heap.size + 1)) (fun _ _ _ => False) ?hI (fun _ _ _ _ h _ => h) ?hF ?h0 ?hround ?hdone (fun _ _ _ _ _ _ h => h.elim)
  case hI =>
    rintro k A A' ⟨h1, ⟨s, h2, h2', h2''⟩, h3, h4⟩ hb
    exact ⟨h1.booked hb, ⟨s, hb.heap h2, hb.ownsRow h2', h2''⟩, hb.heap h3, hb.turned h4 (by omega)⟩
  case hF =>
    rintro k A ⟨h1, _, h3, h4⟩
    exact ⟨by simp [World.cell?, h3], h1.c2, h1.uns⟩
  case h0 => exact ⟨hD1, ⟨_, hp1, World.ownsRow_nil _ _ _ _, by simp [Value.ownBlock], by simp [Value.ownBlock]⟩, hx1, hT1⟩
  case hround =>
    rintro l n k A hl hlt ⟨h1, ⟨s, h2, h2', h2'', h2x⟩, h3, h4⟩
    obtain ⟨x, hx⟩ : ∃ x, D.uns[k]? = some x := ⟨_, List.getElem?_eq_getElem hlt⟩
    have hx64 := h1.ok.u64 x (List.mem_of_getElem? hx)
    have hmany := h1.ok.few
    have hgd : D.uns.getD k (0, zero64) = x := by simp [List.getD, hx]
    simp only [hands, hgd, List.zip_cons_cons, List.zip_nil_right, List.foldl_cons, List.foldl_nil, List.setIfInBounds_toArray, List.set_cons_succ, List.set_cons_zero]
    have hl65 : (wcells x).length = 65 := by rw [wcells, List.length_cons, length_u8s, hx64.2]
    have hi65 : (Try.prog.info? 99).map (·.size) = some (wcells x).length := by rw [hl65]; exact siz71
    have hf65 : 0 + (wcells x).length ≤ (Value.int .i64 0 :: u8s zero64).length := by rw [hl65]; simp [length_u8s, zero64]
    have hsp : splice (Value.int .i64 0 :: u8s zero64) 0 (wcells x) = wcells x := splice_all _ _ (by rw [hl65]; simp [length_u8s, zero64])
    have HI := Lib.hid hi65
    have HF := Lib.hid hf65
    have HSP := Lib.hid hsp
    have HX := Lib.hid hx
    have H1 := Lib.hid h1
    have H2 := Lib.hid h2
    have H2' := Lib.hid h2'
    have H2'' := Lib.hid h2''
    have H2x := Lib.hid h2x
    have H3 := Lib.hid h3
    have H4 := Lib.hid h4
    clear hgd hl65 hi65 hf65 hsp hx hx64 h1 h2 h2' h2'' h2x h3 h4 hp1 hx1 hD1 hT1
    gi_wp2_with (first | (refine listIn_op rfl (fun K hK => ?_); refine wpList_alloc_at rfl 99 rfl _ (zero71 A) ?_; intro w2 hw2 hT2; refine wpList_nil (one_normal (hK _ _ ?_)); clear hK K) | (refine listIn_op rfl (fun K hK => ?_); refine wpList_store_at rfl 99 (.tmp 5) (.tmp 11) rfl A.heap.size 0 (wcells x) rfl rfl (.int .i64 0 :: u8s zero64) 99 hw2.out HF.out HI.out (oneCell_wcells x) ?_; intro w3 hw3 hT3; refine wpList_nil (one_normal (hK _ _ ?_)); clear hK K))
    have hA3 : Turned (fun _ => False) A w3 := hT2.then hT3 (fun j hj e => by omega)
    have hBA : w.heap.size ≤ A.heap.size := H4.out.size
    refine ⟨keepsFrom_new hA3, fun A2 hbk hsz2 => ?_⟩
    clear hsz2
    have hb4 : A2.heap[A.heap.size]? = some (.cells (wcells x).toArray 99 (0, 0)) := by
      have := hbk.heap hw3.out
      rwa [HSP.out] at this
    have hD2 : DiskAt A2 d kb sb v _ := (H1.out.kept' hA3 (fun _ => False.elim)).booked hbk
    have hp2 := hbk.heap (hA3.heap H2.out (fun h => h))
    have ho2 := hbk.ownsRow (hA3.ownsRow H2'.out (fun _ _ h => h))
    have hx2 := hbk.heap (hA3.heap H3.out (fun h => h))
    have hT02 : Turned (fun _ => False) w A2 := hbk.turned (H4.out.trans hA3) (by omega)
    have hsA : A.heap.size < A2.heap.size := lt_of_heap hb4
    have hs4 : w.heap.size + 2 ≤ A.heap.size := by have := lt_of_heap H3.out; omega
    generalize A.heap.size = B4 at *
    have e0 : A2.cell? ⟨B4, 0, none⟩ = some (.int .i64 x.1) := by rw [cell_whole hb4]; rfl
    have e1 : A2.cell? ⟨w.heap.size, 0, none⟩ = some s := by simp [World.cell?, hp2]
    have e2 : A2.frozen? ⟨w.heap.size, 0, none⟩ = false := frozen_whole hp2 _
    have HD2 := Lib.hid hD2
    have HP2 := Lib.hid hp2
    have HO2 := Lib.hid ho2
    have HX2 := Lib.hid hx2
    have HT := Lib.hid hT02
    have hbA : w.heap.size ≤ A2.heap.size := hT02.size
    have hbs : w.heap.size < A2.heap.size := by omega
    clear hw2 hw3 hT2 hT3 hA3 hbk H1 H2 H3 H4 HF HSP H2' hD2 hp2 ho2 hx2 hT02 hb4 hsA
    obtain ⟨i0, hi0, hz0, hz1, hz2⟩ := info_parts info3
    have hl1 : ([Value.int .i64 x.1] : List Value).length = 1 * 1 := rfl
    have h1c : ∀ u ∈ [Value.int .i64 (x.1 : Int)], u.oneCell' = true := fun u hu => by obtain rfl := List.mem_singleton.1 hu; rfl
    have hm1 : k + 1 ≤ maxLen := by unfold maxLen; omega
    have HI0 := Lib.hid hi0
    have HZ0 := Lib.hid hz0
    have HZ1 := Lib.hid hz1
    have HZ2 := Lib.hid hz2
    clear hi0 hz0 hz1 hz2
    gi_wp2_with (refine listIn_op rfl (fun K hK => ?_); refine wpList_append_lies _ rfl (.tmp 12) (.tmp 15) 48 rfl w.heap.size 3 i0 _ 1 8 Try.underlying48 HI0.out HZ0.out HZ1.out HZ2.out rfl (Nat.le_refl _) s k ((D.uns.take k).map atv) rfl (HO2.out.alloc _) ⟨A2.heap.size, 0, none⟩ 1 1 [.int .i64 x.1] rfl hl1 (cell_one_new _ _ _) h1c (Nat.le_refl _) hm1 (by omega) (Nat.le_trans hbA (Nat.le_of_lt (by rw [World.size_alloc]; exact Nat.lt_succ_self _))) _ rfl ?_; intro g cap w9 hown hgrow hlies hglt; refine wpList_nil (one_normal (hK _ _ ?_)); clear hK K; have hTg : Turned (fun j => s.ownBlock = some j) (A2.alloc (.cells #[.int .i64 x.1] 3)) w9 := Turned.grown hgrow (fun j hj _ => hj); have hc9 := hTg.heap ((Below.heap_alloc A2 (.cells #[.int .i64 x.1] 3) w.heap.size hbs).trans HP2.out) H2''.out; have c1 : w9.cell? ⟨w.heap.size, 0, none⟩ = some s := (cell_of_row w9 _ 0 _ _ _ hc9); have c2 : w9.frozen? ⟨w.heap.size, 0, none⟩ = false := frozen_whole hc9 _; have HC9 := Lib.hid hc9; clear hc9)
    have hbx := lt_of_heap HX2.out
    have hso : ∀ j, s.ownBlock = some j → w.heap.size ≤ j ∧ j < A2.heap.size := fun j hj => HO2.out.lt j hj
    have hgs : g ≠ w.heap.size := by
      rcases hlies with hg | hg
      · exact fun e => H2''.out (by rw [hg, e])
      · rw [World.size_alloc] at hg; omega
    have hgx : g ≠ w.heap.size + 1 := by
      rcases hlies with hg | hg
      · exact fun e => H2x.out (by rw [hg, e])
      · rw [World.size_alloc] at hg; omega
    have hT9 : Turned (fun j => s.ownBlock = some j) A2 w9 := ((Turned.refl _ A2).alloc _).trans hTg
    have hTe : Turned (fun j => j = w.heap.size ∨ s.ownBlock = some j) A2 (w9.setCell ⟨w.heap.size, 0, none⟩ (.slice (some ⟨g, 0, none⟩) (k + 1) cap)) := (hT9.wider fun _ _ h => .inr h).setCell (p := ⟨w.heap.size, 0, none⟩) (.inl rfl) _
    have hTs : Turned (· = w.heap.size) w9 (w9.setCell ⟨w.heap.size, 0, none⟩ (.slice (some ⟨g, 0, none⟩) (k + 1) cap)) := (Turned.refl (· = w.heap.size) w9).setCell (p := ⟨w.heap.size, 0, none⟩) rfl _
    show KeepsFrom w1.heap.size A2 _ ∧ UnsI w d kb sb v D w.heap.size (w.heap.size + 1) (k + 1) _
    refine ⟨keepsFrom_turned hTe ?_, HD2.out.kept' hTe ?_, ⟨.slice (some ⟨g, 0, none⟩) (k + 1) cap, ?_, ?_, ?_, ?_⟩, hTe.heap HX2.out ?_, HT.out.then hTe ?_⟩
    · rintro j (rfl | hj)
      · exact .inl (by omega)
      · exact .inr (ownsRow_cells HO2.out hj)
    · rintro j (rfl | hj) hf
      · have := hfoot _ hf; omega
      · have := hfoot _ hf; have := hso j hj; omega
    · rw [heap_setCell_at HC9.out 0]; rfl
    · have := hTs.ownsRow hown (fun j hj e => hgs (by simp [Value.ownBlock] at hj; omega))
      rw [List.take_add_one, HX.out]
      simpa [atv] using this
    · simp [Value.ownBlock]; exact hgs
    · simp [Value.ownBlock]; exact hgx
    · rintro (e | hj)
      · omega
      · exact H2x.out hj
    · rintro j hj (e | hs)
      · omega
      · have := hso j hs; omega
  case hdone =>
    rintro Dd A hDd ⟨h1, ⟨s, h2, h2', -⟩, h3, h4⟩ hdd
    have hc0 : A.cell? ⟨w.heap.size, 0, none⟩ = some s := by simp [World.cell?, h2]
    have h2' : A.ownsRow w.heap.size 3 1 s D.uns.length ((D.uns.take D.uns.length).map atv) := h2'
    rw [List.take_length] at h2'
    have HR := Lib.hid h2'
    have HT := Lib.hid h4
    have HD := Lib.hid hdd
    clear h1 h2 h2' h3 h4 hdd hp1 hx1 hD1 hT1
    go_wp2
    refine leaves_mark (D := Dd) (B := w.heap.size + 1) HD.out (by omega) ?_
    intro w' hb _
    refine leaves_none (results_tmp rfl _ _ _) ?_
    exact ⟨s, rfl, hb.ownsRow HR.out, (hb.turned HT.out (by omega)).toBelow (Nat.le_refl _) (fun _ _ h => h.elim)⟩
end Go.Proofs.Ytbmdodkgaehgnaa
