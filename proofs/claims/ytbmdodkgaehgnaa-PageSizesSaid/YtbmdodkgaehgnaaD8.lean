/- The walk of Sync. -/
import Derived.Test.YtbmdodkgaehgnaaD7
import Derived.RangeFuncCalls
import Derived.Shelf.Abstract
namespace Go.Proofs.Ytbmdodkgaehgnaa
open Go.RowKit

theorem keepsFrom_turned {F : Nat → Prop} {B : Nat} {A A' : World} (h : Turned F A A') (hF : ∀ k, F k → k < B ∨ ∃ c t fr, A.heap[k]? = some (.cells c t fr)) : KeepsFrom B A A' :=
  ⟨h.size, fun k o hB hk ho => h.heap hk fun hf => by
    rcases hF k hf with hlt | ⟨c, t, fr, hc⟩
    · omega
    · rw [hc] at hk; cases hk; cases ho⟩
theorem keepsFrom_new {B : Nat} {A A' : World} (h : Turned (fun _ => False) A A') : KeepsFrom B A A' := keepsFrom_turned h fun _ h => h.elim

theorem DiskAt.booked {w w' : World} {d kb sb : Nat} {v : Value} {D : Dk} {B : Nat} (h : DiskAt w d kb sb v D) (hb : Booked B w w') : DiskAt w' d kb sb v D :=
  ⟨h.ok, hb.heap h.box, hb.heap h.kept, hb.heap h.seen, hb.ownsRow h.uns, h.dk, h.ds, h.ks, h.dv, h.kv, h.sv⟩
theorem DiskAt.foot_cells {w : World} {d kb sb : Nat} {v : Value} {D : Dk} (h : DiskAt w d kb sb v D) (k : Nat) (hk : Foot d kb sb v k) : ∃ c t fr, w.heap[k]? = some (.cells c t fr) := by
  rcases hk with rfl | rfl | rfl | hk
  · exact ⟨_, _, _, h.box⟩
  · exact ⟨_, _, _, h.kept⟩
  · exact ⟨_, _, _, h.seen⟩
  · rcases h.uns.2 with ⟨h1, -⟩ | ⟨g, cap, cur, hv, -, hh, -⟩
    · rw [h1] at hk; simp [Value.ownBlock] at hk
    · rw [hv] at hk; simp [Value.ownBlock] at hk; subst hk; exact ⟨_, _, _, hh⟩

/-- The kept sectors, so many bytes of each write laid over them. -/
def keepAll (kept : List (List UInt8)) (l : List ((Nat × List UInt8) × Nat)) : List (List UInt8) := l.foldl (fun K x => K.set x.1.1 (tear x.1.2 (K.getD x.1.1 []) x.2)) kept
theorem keepAll_snoc (kept : List (List UInt8)) (l : List ((Nat × List UInt8) × Nat)) (x : (Nat × List UInt8) × Nat) : keepAll kept (l ++ [x]) = (keepAll kept l).set x.1.1 (tear x.1.2 ((keepAll kept l).getD x.1.1 []) x.2) := by simp [keepAll]
theorem length_keepAll (l : List ((Nat × List UInt8) × Nat)) : ∀ kept, (keepAll kept l).length = kept.length := by
  induction l with
  | nil => exact fun _ => rfl
  | cons x l ih => intro kept; show (keepAll _ l).length = _; rw [ih]; simp
theorem keepAll_64 (l : List ((Nat × List UInt8) × Nat)) (hl : ∀ x ∈ l, x.1.2.length = 64 ∧ x.2 ≤ 64) : ∀ kept : List (List UInt8), (∀ x ∈ l, x.1.1 < kept.length) → (∀ s ∈ kept, s.length = 64) → ∀ s ∈ keepAll kept l, s.length = 64 := by
  induction l with
  | nil => exact fun kept _ hk => hk
  | cons x l ih =>
    intro kept hlt hk
    refine ih (fun y hy => hl y (List.mem_cons_of_mem _ hy)) _ (fun y hy => by simpa using hlt y (List.mem_cons_of_mem _ hy)) ?_
    intro s hs
    rcases List.mem_or_eq_of_mem_set hs with hs | rfl
    · exact hk s hs
    · have h1 := hl x List.mem_cons_self
      have h2 := hlt x List.mem_cons_self
      refine length_tear h1.1 (hk _ ?_) h1.2
      simp [List.getD, h2]
def all64 (l : List (Nat × List UInt8)) : List ((Nat × List UInt8) × Nat) := l.map fun x => (x, 64)

def Dk.sync (D : Dk) : Dk := { kept := keepAll D.kept (all64 D.uns), seen := D.seen, uns := [], ops := D.ops + 1 }

theorem Dk.Ok.keeping {D : Dk} (h : D.Ok) (l : List ((Nat × List UInt8) × Nat)) (hl : ∀ x ∈ l, x.1 ∈ D.uns ∧ x.2 ≤ 64) : ({ D with kept := keepAll D.kept l } : Dk).Ok :=
  { h with
    len := by rw [length_keepAll]; exact h.len
    most := by rw [length_keepAll]; exact h.most
    some := by rw [length_keepAll]; exact h.some
    k64 := keepAll_64 l (fun x hx => ⟨(h.u64 _ (hl x hx).1).2, (hl x hx).2⟩) _ (fun x hx => (h.u64 _ (hl x hx).1).1) h.k64
    u64 := by rw [length_keepAll]; exact h.u64 }

theorem Dk.Ok.sync {D : Dk} (h : D.Ok) (ho : D.ops < 1000000000000000) : D.sync.Ok :=
  { h.keeping (all64 D.uns) (fun x hx => by obtain ⟨y, hy, rfl⟩ := List.mem_map.1 hx; exact ⟨hy, Nat.le_refl _⟩) with
    u64 := fun x hx => by simp [Dk.sync] at hx
    few := by simp [Dk.sync]
    fewops := by simp [Dk.sync]; omega }

/-- Between two rounds. -/
def SyncI (w : World) (d kb sb : Nat) (v : Value) (D : Dk) (Bp Bx : Nat) (l : Nat → List ((Nat × List UInt8) × Nat)) (k : Nat) (A : World) : Prop :=
  DiskAt A d kb sb v { D with kept := keepAll D.kept (l k) } ∧ A.heap[Bp]? = some (.cells #[.pointer (some ⟨d, 0, none⟩)] 38 (0, 0)) ∧ A.heap[Bx]? = some (.cells #[.pointer (some ⟨d, 0, none⟩)] 38 (0, 0)) ∧ Turned (Foot d kb sb v) w A

set_option maxRecDepth 10000 in
set_option maxHeartbeats 1000000 in
theorem sync_any {w : World} {d kb sb : Nat} {v : Value} {D : Dk} (h : DiskAt w d kb sb v D) (ho : D.ops < 1000000000000000) :
    Calls Try.prog 47 #[.pointer (some ⟨d, 0, none⟩)] w (DiskPost w d kb sb v D.sync (.int .i64 0)) := by
  refine calls_of_wp_marks Try.func47 rfl ?_
  simp only [Try.ntmps47, List.size_toArray, List.length_cons, List.length_nil, Nat.reduceAdd, Nat.reduceSub, Array.replicate_succ, Array.replicate_zero, List.push_toArray, List.append_toArray, List.nil_append, List.cons_append]
  have HH := Lib.hid h
  clear h
  go_wp2_with (go_at_call 53; refine (writes_any d _).mono ?_; rintro e w1 ⟨rfl, hw1⟩)
  have hD1 : DiskAt w1 d kb sb v D := by rw [← hw1]; exact HH.out.kept' (((Turned.refl (fun _ => False) w).alloc _).alloc _) (fun _ => False.elim)
  have hT1 : Turned (Foot d kb sb v) w w1 := by rw [← hw1]; exact ((Turned.refl _ w).alloc _).alloc _
  have hp1 : w1.heap[w.heap.size]? = some (.cells #[.pointer (some ⟨d, 0, none⟩)] 38 (0, 0)) := by rw [← hw1]; exact heap_alloc2_old _ _ _
  have hx1 : w1.heap[w.heap.size + 1]? = some (.cells #[.pointer (some ⟨d, 0, none⟩)] 38 (0, 0)) := by rw [← hw1]; exact heap_alloc2_new _ _ _
  have hs1 : w.heap.size + 2 ≤ w1.heap.size := by rw [← hw1]; simp
  have hfoot : ∀ k, Foot d kb sb v k → k < w.heap.size := fun k hk => HH.out.flt hk
  clear hw1
  refine wp_range_seq (gf := 69) (lb := #[.pointer (some ⟨w.heap.size + 1, 0, none⟩)]) rfl (enters_of Try.func69 (by kernel_rfl) rfl)
    (writes_seq (w.heap.size + 1) d v D.uns (fun x hx => (HH.out.ok.u64 x hx).2) HH.out.ok.few) (fun k => rfl)
    (SyncI w d kb sb v D w.heap.size (w.heap.size + 1) (fun k => all64 (D.uns.take k))) (fun _ _ _ => False) ?hI (fun _ _ _ _ h _ => h) ?hF ?h0 ?hround ?hdone (fun _ _ _ _ _ _ h => h.elim)
  case hI =>
    rintro k A A' ⟨h1, h2, h3, h4⟩ hb
    exact ⟨h1.booked hb, hb.heap h2, hb.heap h3, hb.turned h4 (by omega)⟩
  case hF =>
    rintro k A ⟨h1, h2, h3, h4⟩
    exact ⟨by simp [World.cell?, h3], h1.c2, h1.uns⟩
  case h0 => exact ⟨hD1, hp1, hx1, hT1⟩
  case hround =>
    rintro l n k A hl hlt ⟨h1, h2, h3, h4⟩
    obtain ⟨x, hx⟩ : ∃ x, D.uns[k]? = some x := ⟨_, List.getElem?_eq_getElem hlt⟩
    have hx64 := h1.ok.u64 x (List.mem_of_getElem? hx)
    have hgd : D.uns.getD k (0, zero64) = x := by simp [List.getD, hx]
    simp only [hands, hgd, List.zip_cons_cons, List.zip_nil_right, List.foldl_cons, List.foldl_nil, List.setIfInBounds_toArray, List.set_cons_succ, List.set_cons_zero]
    have hl65 : (wcells x).length = 65 := by rw [wcells, List.length_cons, length_u8s, hx64.2]
    have hi65 : (Try.prog.info? 99).map (·.size) = some (wcells x).length := by rw [hl65]; exact siz71
    have hf65 : 0 + (wcells x).length ≤ (Value.int .i64 0 :: u8s zero64).length := by rw [hl65]; simp [length_u8s, zero64]
    have hsp : splice (Value.int .i64 0 :: u8s zero64) 0 (wcells x) = wcells x := splice_all _ _ (by rw [hl65]; simp [length_u8s, zero64])
    have HI := Lib.hid hi65
    have HF := Lib.hid hf65
    have HSP := Lib.hid hsp
    have HX := Lib.hid hx
    have HL := Lib.hid hl65
    have H64 := Lib.hid hx64
    have H1 := Lib.hid h1
    have H2 := Lib.hid h2
    have H3 := Lib.hid h3
    have H4 := Lib.hid h4
    clear hgd hl65 hi65 hf65 hsp hx hx64 h1 h2 h3 h4 hp1 hx1 hD1 hT1
    gi_wp2_with (first | (refine listIn_op rfl (fun K hK => ?_); refine wpList_alloc_at rfl 99 rfl _ (zero71 A) ?_; intro w2 hw2 hT2; refine wpList_nil (one_normal (hK _ _ ?_)); clear hK K) | (refine listIn_op rfl (fun K hK => ?_); refine wpList_store_at rfl 99 (.tmp 4) (.tmp 10) rfl A.heap.size 0 (wcells x) rfl rfl (.int .i64 0 :: u8s zero64) 99 hw2.out HF.out HI.out (oneCell_wcells x) ?_; intro w3 hw3 hT3; refine wpList_nil (one_normal (hK _ _ ?_)); clear hK K))
    have h12 : Turned (fun _ => False) A w2 := hT2
    have hA3 : Turned (fun _ => False) A w3 := hT2.then hT3 (fun j hj e => by omega)
    have hBA : w.heap.size ≤ A.heap.size := H4.out.size
    refine ⟨keepsFrom_new hA3, fun A2 hbk _ => ?_⟩
    have hb4 : A2.heap[A.heap.size]? = some (.cells (wcells x).toArray 99 (0, 0)) := by
      have := hbk.heap hw3.out
      rwa [HSP.out] at this
    have hD2 : DiskAt A2 d kb sb v _ := (H1.out.kept' hA3 (fun _ => False.elim)).booked hbk
    have hp2 : A2.heap[w.heap.size]? = some (.cells #[.pointer (some ⟨d, 0, none⟩)] 38 (0, 0)) := hbk.heap (hA3.heap H2.out (fun h => h))
    have hx2 : A2.heap[w.heap.size + 1]? = some (.cells #[.pointer (some ⟨d, 0, none⟩)] 38 (0, 0)) := hbk.heap (hA3.heap H3.out (fun h => h))
    have hT02 : Turned (Foot d kb sb v) w A2 := hbk.turned (H4.out.trans (hA3.wider fun _ _ h => h.elim)) (by omega)
    have hlt4 : w.heap.size ≤ A.heap.size := hBA
    generalize A.heap.size = B4 at *
    clear hw2 hw3 hT2 hT3 h12 hA3 hbk H1 H2 H3 H4 HF HSP
    gi_wp2_with fail
    have hD3 : DiskAt A2.drew d kb sb v _ := hD2.kept' ((Turned.refl (fun _ => False) A2).drew) (fun _ => False.elim)
    have hp3 : A2.drew.cell? ⟨w.heap.size, 0, none⟩ = some (.pointer (some ⟨d, 0, none⟩)) := by rw [World.cell?_drew]; simp [World.cell?, hp2]
    have hb3 : A2.drew.heap[B4]? = some (.cells (wcells x).toArray 99 (0, 0)) := hb4
    obtain ⟨fs, hfs⟩ := und71
    have HU := Lib.hid hfs
    clear hfs
    obtain ⟨w5, hw5⟩ : ∃ w5, A2.drew = w5 := ⟨_, rfl⟩
    have hT25 : Turned (fun _ => False) A2 w5 := by rw [← hw5]; exact (Turned.refl _ A2).drew
    refine region_tail_in 4 (by kernel_rfl) (by kernel_rfl) (by rfl) w5 hw5 ?_
    rw [hw5] at hD3 hp3 hb3
    clear hw5
    simp only [List.take_succ_cons, List.take_zero, List.drop_succ_cons, List.drop_zero]
    iterate 3 still_step
    refine wpStill_load_mid rfl 99 (.tmp 4) rfl B4 0 rfl (wcells x) _ ?e1 HU.out rfl HI.out ?_
    case e1 => have := rangeAt_whole hb3 0 (wcells x).length; rwa [List.drop_zero, List.take_length] at this
    refine wpStill_nil ?_
    have hko : (keepAll D.kept (all64 (D.uns.take k)))[x.1]? = some ((keepAll D.kept (all64 (D.uns.take k))).getD x.1 []) := by
      have : x.1 < (keepAll D.kept (all64 (D.uns.take k))).length := by rw [length_keepAll]; simpa [length_keepAll] using H64.out.1
      simp [List.getD, this]
    have HK := Lib.hid hko
    clear hko
    go_wp2_with (go_at_call 67; refine (keep_any hD3 x.1 x.2 _ 64 HK.out H64.out.2 (Nat.le_refl _)).mono ?_; rintro e w6 ⟨rfl, hD6, hT6⟩)
    refine only_normal ?_
    show KeepsFrom w1.heap.size A2 w6 ∧ SyncI w d kb sb v D w.heap.size (w.heap.size + 1) (fun k => all64 (D.uns.take k)) (k + 1) w6
    have htk : all64 (D.uns.take (k + 1)) = all64 (D.uns.take k) ++ [(x, 64)] := by
      rw [List.take_add_one, HX.out]; simp [all64]
    refine ⟨?_, ?_, ?_, ?_, ?_⟩
    · refine keepsFrom_turned ((hT25.wider (F := (· = kb)) fun _ _ h => h.elim).trans hT6) fun j hj => .inl ?_
      have := hfoot j (.inr (.inl hj))
      omega
    · show DiskAt w6 d kb sb v { D with kept := keepAll D.kept (all64 (D.uns.take (k + 1))) }
      rw [htk, keepAll_snoc]; exact hD6
    · exact hT6.heap (hT25.heap hp2 (fun h => h)) (fun e => by have := hfoot kb (.inr (.inl rfl)); omega)
    · exact hT6.heap (hT25.heap hx2 (fun h => h)) (fun e => by have := hfoot kb (.inr (.inl rfl)); omega)
    · exact (hT02.trans (hT25.wider fun _ _ h => h.elim)).trans (hT6.wider fun _ _ h => .inr (.inl h))
  case hdone =>
    rintro Dd A hDd ⟨h1, h2, h3, h4⟩ hdd
    have hc0 : A.cell? ⟨w.heap.size, 0, none⟩ = some (.pointer (some ⟨d, 0, none⟩)) := by simp [World.cell?, h2]
    have hc3 := h1.c3
    have hc2 := h1.c2
    have hf2 := h1.fz 2
    have hf3 := h1.fz 3
    have hlen : D.uns.take D.uns.length = D.uns := List.take_length
    have h1 : DiskAt A d kb sb v { D with kept := keepAll D.kept (all64 (D.uns.take D.uns.length)) } := h1
    rw [hlen] at h1
    have hdw : d < w.heap.size := hfoot d (.inl rfl)
    have H1 := Lib.hid h1
    have HT := Lib.hid h4
    have HD := Lib.hid hdd
    clear h1 h2 h3 h4 hdd hlen hp1 hx1 hD1 hT1
    go_wp2
    have hdd : ((A.setCell ⟨d, 2, none⟩ (.slice none 0 0)).setCell ⟨d, 3, none⟩ (.int .i64 (D.ops + 1))).heap[Dd]? = some (.deferred (some [])) := by
      rw [Below.heap_setCell _ _ _ _ (show Dd ≠ d by omega), Below.heap_setCell _ _ _ _ (show Dd ≠ d by omega)]; exact HD.out
    have hT2 : Turned (Foot d kb sb v) w ((A.setCell ⟨d, 2, none⟩ (.slice none 0 0)).setCell ⟨d, 3, none⟩ (.int .i64 (D.ops + 1))) := (HT.out.setCell (p := ⟨d, 2, none⟩) (.inl rfl) _).setCell (p := ⟨d, 3, none⟩) (.inl rfl) _
    have hk9 : Turned (· = d) A ((A.setCell ⟨d, 2, none⟩ (.slice none 0 0)).setCell ⟨d, 3, none⟩ (.int .i64 (D.ops + 1))) := ((Turned.refl (· = d) A).setCell (p := ⟨d, 2, none⟩) rfl _).setCell (p := ⟨d, 3, none⟩) rfl _
    have hbx := heap_setCell_at (heap_setCell_at H1.out.box 2 (.slice none 0 0)) 3 (.int .i64 (D.ops + 1))
    have hDf : DiskAt ((A.setCell ⟨d, 2, none⟩ (.slice none 0 0)).setCell ⟨d, 3, none⟩ (.int .i64 (D.ops + 1))) d kb sb (.slice none 0 0) D.sync := by
      refine ⟨?_, ?_, ?_, ?_, World.ownsRow_nil _ _ _ _, H1.out.dk, H1.out.ds, H1.out.ks, by simp [Value.ownBlock], by simp [Value.ownBlock], by simp [Value.ownBlock]⟩
      · exact HH.out.ok.sync ho
      · rw [hbx]; simp [Dk.sync]
      · exact hk9.heap H1.out.kept (fun e => H1.out.dk e.symm)
      · exact hk9.heap H1.out.seen (fun e => H1.out.ds e.symm)
    refine leaves_mark (D := Dd) (B := w.heap.size + 1) hdd (by omega) ?_
    intro w' hb _
    refine leaves_none (results_tmp rfl _ _ _) ?_
    exact ⟨rfl, _, hDf.booked hb, hb.turned hT2 (by omega), .inr (by simp [Value.ownBlock])⟩
end Go.Proofs.Ytbmdodkgaehgnaa
