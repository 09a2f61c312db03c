/- The walk of Sync. -/
import Derived.RangeFuncCalls
import Derived.Shelf.Abstract
import Derived.Test.YtapmppiiphbcpaaKD7
namespace Go.Proofs.Ytapmppiiphbcpaa
open Go.RowKit

theorem keepsFrom_turned {F : Nat → Prop} {B : Nat} {A A' : World} (h : Turned F A A') (hF : ∀ k, F k → k < B ∨ ∃ c t fr, A.heap[k]? = some (.cells c t fr)) : KeepsFrom B A A' :=
  ⟨h.size, fun k o hB hk ho => h.heap hk fun hf => by
    rcases hF k hf with hlt | ⟨c, t, fr, hc⟩
    · omega
    · rw [hc] at hk; cases hk; cases ho⟩
theorem keepsFrom_new {B : Nat} {A A' : World} (h : Turned (fun _ => False) A A') : KeepsFrom B A A' := keepsFrom_turned h fun _ h => h.elim

theorem DiskAt.booked {w w' : World} {d kb sb : Nat} {v : Value} {D : Dk} {B : Nat} (h : DiskAt w d kb sb v D) (hb : Booked B w w') : DiskAt w' d kb sb v D :=
  ⟨h.ok, hb.heap h.box, hb.heap h.kept, hb.heap h.seen, hb.ownsRow h.uns, h.dk, h.ds, h.ks, h.dv, h.kv, h.sv⟩
theorem DiskAt.foot_cells {w : World} {d kb sb : Nat} {v : Value} {D : Dk} (h : DiskAt w d kb sb v D) (k : Nat) (hk : Foot d kb sb v k) : ∃ c t fr, w.heap[k]? = some (.cells c t fr) := by
  rcases hk with rfl | rfl | rfl | hk
  · exact ⟨_, _, _, h.box⟩
  · exact ⟨_, _, _, h.kept⟩
  · exact ⟨_, _, _, h.seen⟩
  · rcases h.uns.2 with ⟨h1, -⟩ | ⟨g, cap, cur, hv, -, hh, -⟩
    · rw [h1] at hk; simp [Value.ownBlock] at hk
    · rw [hv] at hk; simp [Value.ownBlock] at hk; subst hk; exact ⟨_, _, _, hh⟩

/-- The kept sectors, so many bytes of each write laid over them. -/
def keepAll (kept : List (List UInt8)) (l : List ((Nat × List UInt8) × Nat)) : List (List UInt8) := l.foldl (fun K x => K.set x.1.1 (tear x.1.2 (K.getD x.1.1 []) x.2)) kept
theorem keepAll_snoc (kept : List (List UInt8)) (l : List ((Nat × List UInt8) × Nat)) (x : (Nat × List UInt8) × Nat) : keepAll kept (l ++ [x]) = (keepAll kept l).set x.1.1 (tear x.1.2 ((keepAll kept l).getD x.1.1 []) x.2) := by simp [keepAll]
theorem length_keepAll (l : List ((Nat × List UInt8) × Nat)) : ∀ kept, (keepAll kept l).length = kept.length := by
  induction l with
  | nil => exact fun _ => rfl
  | cons x l ih => intro kept; show (keepAll _ l).length = _; rw [ih]; simp
theorem keepAll_64 (l : List ((Nat × List UInt8) × Nat)) (hl : ∀ x ∈ l, x.1.2.length = 64 ∧ x.2 ≤ 64) : ∀ kept : List (List UInt8), (∀ x ∈ l, x.1.1 < kept.length) → (∀ s ∈ kept, s.length = 64) → ∀ s ∈ keepAll kept l, s.length = 64 := by
  induction l with
  | nil => exact fun kept _ hk => hk
  | cons x l ih =>
    intro kept hlt hk
    refine ih (fun y hy => hl y (List.mem_cons_of_mem _ hy)) _ (fun y hy => by simpa using hlt y (List.mem_cons_of_mem _ hy)) ?_
    intro s hs
    rcases List.mem_or_eq_of_mem_set hs with hs | rfl
    · exact hk s hs
    · have h1 := hl x List.mem_cons_self
      have h2 := hlt x List.mem_cons_self
      refine length_tear h1.1 (hk _ ?_) h1.2
      simp [List.getD, h2]
def all64 (l : List (Nat × List UInt8)) : List ((Nat × List UInt8) × Nat) := l.map fun x => (x, 64)

def Dk.sync (D : Dk) : Dk := { kept := keepAll D.kept (all64 D.uns), seen := D.seen, uns := [], ops := D.ops + 1 }

theorem Dk.Ok.keeping {D : Dk} (h : D.Ok) (l : List ((Nat × List UInt8) × Nat)) (hl : ∀ x ∈ l, x.1 ∈ D.uns ∧ x.2 ≤ 64) : ({ D with kept := keepAll D.kept l } : Dk).Ok :=
  { h with
    len := by rw [length_keepAll]; exact h.len
    most := by rw [length_keepAll]; exact h.most
    some := by rw [length_keepAll]; exact h.some
    k64 := keepAll_64 l (fun x hx => ⟨(h.u64 _ (hl x hx).1).2, (hl x hx).2⟩) _ (fun x hx => (h.u64 _ (hl x hx).1).1) h.k64
    u64 := by rw [length_keepAll]; exact h.u64 }

theorem Dk.Ok.sync {D : Dk} (h : D.Ok) (ho : D.ops < 1000000000000000) : D.sync.Ok :=
  { h.keeping (all64 D.uns) (fun x hx => by obtain ⟨y, hy, rfl⟩ := List.mem_map.1 hx; exact ⟨hy, Nat.le_refl _⟩) with
    u64 := fun x hx => by simp [Dk.sync] at hx
    few := by simp [Dk.sync]
    fewops := by simp [Dk.sync]; omega }

/-- Between two rounds. -/
def SyncI (w : World) (d kb sb : Nat) (v : Value) (D : Dk) (Bp Bx : Nat) (l : Nat → List ((Nat × List UInt8) × Nat)) (k : Nat) (A : World) : Prop :=
  DiskAt A d kb sb v { D with kept := keepAll D.kept (l k) } ∧ A.heap[Bp]? = some (.cells #[.pointer (some ⟨d, 0, none⟩)] 24 (0, 0)) ∧ A.heap[Bx]? = some (.cells #[.pointer (some ⟨d, 0, none⟩)] 24 (0, 0)) ∧ Turned (Foot d kb sb v) w A

set_option maxRecDepth 10000 in
set_option maxHeartbeats 1000000 in
theorem sync_any {w : World} {d kb sb : Nat} {v : Value} {D : Dk} (h : DiskAt w d kb sb v D) (ho : D.ops < 1000000000000000) :
    Calls Try.prog 44 #[.pointer (some ⟨d, 0, none⟩)] w (DiskPost w d kb sb v D.sync (.int .i64 0)) := by
  refine calls_of_wp_marks Try.func44 rfl ?_
  simp only [Try.ntmps44, List.size_toArray, List.length_cons, List.length_nil, Nat.reduceAdd, Nat.reduceSub, Array.replicate_succ, Array.replicate_zero, List.push_toArray, List.append_toArray, List.nil_append, List.cons_append]
  have HH := Lib.hid h
  clear h
  go_wp2_with (go_at_call 53; refine (writes_any d _).mono ?_; rintro e w1 ⟨rfl, hw1⟩)
  have hD1 : DiskAt w1 d kb sb v D := by rw [← hw1]; exact HH.out.kept' (((Turned.refl (fun _ => False) w).alloc _).alloc _) (fun _ => False.elim)
  have hT1 : Turned (Foot d kb sb v) w w1 := by rw [← hw1]; exact ((Turned.refl _ w).alloc _).alloc _
  have hp1 : w1.heap[w.heap.size]? = some (.cells #[.pointer (some ⟨d, 0, none⟩)] 24 (0, 0)) := by rw [← hw1]; exact heap_alloc2_old _ _ _
  have hx1 : w1.heap[w.heap.size + 1]? = some (.cells #[.pointer (some ⟨d, 0, none⟩)] 24 (0, 0)) := by rw [← hw1]; exact heap_alloc2_new _ _ _
  have hs1 : w.heap.size + 2 ≤ w1.heap.size := by rw [← hw1]; simp
  have hfoot : ∀ k, Foot d kb sb v k → k < w.heap.size := fun k hk => HH.out.flt hk
  clear hw1
  refine wp_range_seq (gf := 75) (lb := #[.pointer (some ⟨w.heap.size + 1, 0, none⟩)]) rfl (enters_of Try.func75 (by kernel_rfl) rfl)
    (writes_seq (w.heap.size + 1) d v D.uns (fun x hx => (HH.out.ok.u64 x hx).2) HH.out.ok.few) (fun k => rfl)
    (SyncI w d kb sb v D w.heap.size (w.heap.size + 1) (fun k => all64 (D.uns.take k))) (fun _ _ _ => False) ?hI (fun _ _ _ _ h _ => h) ?hF ?h0 ?hround ?hdone (fun _ _ _ _ _ _ h => h.elim)
  case hI =>
    rintro k A A' ⟨h1, h2, h3, h4⟩ hb
    exact ⟨h1.booked hb, hb.heap h2, hb.heap h3, hb.turned h4 (by omega)⟩
  case hF =>
    rintro k A ⟨h1, h2, h3, h4⟩
    exact ⟨by simp [World.cell?, h3], h1.c2, h1.uns⟩
  case h0 => exact ⟨hD1, hp1, hx1, hT1⟩
  case hround =>
    rintro l n k A hl hlt ⟨h1, h2, h3, h4⟩
    obtain ⟨x, hx⟩ : ∃ x, D.uns[k]? = some x := ⟨_, List.getElem?_eq_getElem hlt⟩
    have hx64 := h1.ok.u64 x (List.mem_of_getElem? hx)
    have hgd : D.uns.getD k (0, zero64) = x := by simp [List.getD, hx]
    simp only [hands, hgd, List.zip_cons_cons, List.zip_nil_right, List.foldl_cons, List.foldl_nil, List.setIfInBounds_toArray, List.set_cons_succ, List.set_cons_zero]
    have hl65 : (wcells x).length = 65 := by rw [wcells, List.length_cons, length_u8s, hx64.2]
    have hi65 : (Try.prog.info? 102).map (·.size) = some (wcells x).length := by rw [hl65]; exact siz71
    have hf65 : 0 + (wcells x).length ≤ (Value.int .i64 0 :: u8s zero64).length := by rw [hl65]; simp [length_u8s, zero64]
    have hsp : splice (Value.int .i64 0 :: u8s zero64) 0 (wcells x) = wcells x := splice_all _ _ (by rw [hl65]; simp [length_u8s, zero64])
    have HI := Lib.hid hi65
    have HF := Lib.hid hf65
    have HSP := Lib.hid hsp
    have HX := Lib.hid hx
    have HL := Lib.hid hl65
    have H64 := Lib.hid hx64
    have H1 := Lib.hid h1
    have H2 := Lib.hid h2
    have H3 := Lib.hid h3
    have H4 := Lib.hid h4
    clear hgd hl65 hi65 hf65 hsp hx hx64 h1 h2 h3 h4 hp1 hx1 hD1 hT1
    gi_wp2_with (first | (refine listIn_op rfl (fun K hK => ?_); refine wpList_alloc_at rfl 102 rfl _ (zero71 A) ?_; intro w2 hw2 hT2; refine wpList_nil (one_normal (hK _ _ ?_)); clear hK K) | (refine listIn_op rfl (fun K hK => ?_); refine wpList_store_at rfl 102 (.tmp 4) (.tmp 10) rfl A.heap.size 0 (wcells x) rfl rfl (.int .i64 0 :: u8s zero64) 102 hw2.out HF.out HI.out (oneCell_wcells x) ?_; intro w3 hw3 hT3; refine wpList_nil (one_normal (hK _ _ ?_)); clear hK K))
    have h12 : Turned (fun _ => False) A w2 := hT2
    have hA3 : Turned (fun _ => False) A w3 := hT2.then hT3 (fun j hj e => by omega)
    have hBA : w.heap.size ≤ A.heap.size := H4.out.size
    refine ⟨keepsFrom_new hA3, fun A2 hbk _ => ?_⟩
    have hb4 : A2.heap[A.heap.size]? = some (.cells (wcells x).toArray 102 (0, 0)) := by
      have := hbk.heap hw3.out
      rwa [HSP.out] at this
    have hD2 : DiskAt A2 d kb sb v _ := (H1.out.kept' hA3 (fun _ => False.elim)).booked hbk
    have hp2 : A2.heap[w.heap.size]? = some (.cells #[.pointer (some ⟨d, 0, none⟩)] 24 (0, 0)) := hbk.heap (hA3.heap H2.out (fun h => h))
    have hx2 : A2.heap[w.heap.size + 1]? = some (.cells #[.pointer (some ⟨d, 0, none⟩)] 24 (0, 0)) := hbk.heap (hA3.heap H3.out (fun h => h))
    have hT02 : Turned (Foot d kb sb v) w A2 := hbk.turned (H4.out.trans (hA3.wider fun _ _ h => h.elim)) (by omega)
    have hlt4 : w.heap.size ≤ A.heap.size := hBA
    generalize A.heap.size = B4 at *
    clear hw2 hw3 hT2 hT3 h12 hA3 hbk H1 H2 H3 H4 HF HSP
    gi_wp2_with fail
    have hD3 : DiskAt A2.drew d kb sb v _ := hD2.kept' ((Turned.refl (fun _ => False) A2).drew) (fun _ => False.elim)
    have hp3 : A2.drew.cell? ⟨w.heap.size, 0, none⟩ = some (.pointer (some ⟨d, 0, none⟩)) := by rw [World.cell?_drew]; simp [World.cell?, hp2]
    have hb3 : A2.drew.heap[B4]? = some (.cells (wcells x).toArray 102 (0, 0)) := hb4
    obtain ⟨fs, hfs⟩ := und71
    have HU := Lib.hid hfs
    clear hfs
    obtain ⟨w5, hw5⟩ : ∃ w5, A2.drew = w5 := ⟨_, rfl⟩
    have hT25 : Turned (fun _ => False) A2 w5 := by rw [← hw5]; exact (Turned.refl _ A2).drew
    refine region_tail_in 4 (by kernel_rfl) (by kernel_rfl) (by rfl) w5 hw5 ?_
    rw [hw5] at hD3 hp3 hb3
    clear hw5
    simp only [List.take_succ_cons, List.take_zero, List.drop_succ_cons, List.drop_zero]
    iterate 3 still_step
    refine wpStill_load_mid rfl 102 (.tmp 4) rfl B4 0 rfl (wcells x) _ ?e1 HU.out rfl HI.out ?_
    case e1 => have := rangeAt_whole hb3 0 (wcells x).length; rwa [List.drop_zero, List.take_length] at this
    refine wpStill_nil ?_
    have hko : (keepAll D.kept (all64 (D.uns.take k)))[x.1]? = some ((keepAll D.kept (all64 (D.uns.take k))).getD x.1 []) := by
      have : x.1 < (keepAll D.kept (all64 (D.uns.take k))).length := by rw [length_keepAll]; simpa [length_keepAll] using H64.out.1
      simp [List.getD, this]
    have HK := Lib.hid hko
    clear hko
    go_wp2_with (go_at_call 73; refine (keep_any hD3 x.1 x.2 _ 64 HK.out H64.out.2 (Nat.le_refl _)).mono ?_; rintro e w6 ⟨rfl, hD6, hT6⟩)
    refine only_normal ?_
    show KeepsFrom w1.heap.size A2 w6 ∧ SyncI w d kb sb v D w.heap.size (w.heap.size + 1) (fun k => all64 (D.uns.take k)) (k + 1) w6
    have htk : all64 (D.uns.take (k + 1)) = all64 (D.uns.take k) ++ [(x, 64)] := by
      rw [List.take_add_one, HX.out]; simp [all64]
    refine ⟨?_, ?_, ?_, ?_, ?_⟩
    · refine keepsFrom_turned ((hT25.wider (F := (· = kb)) fun _ _ h => h.elim).trans hT6) fun j hj => .inl ?_
      have := hfoot j (.inr (.inl hj))
      omega
    · show DiskAt w6 d kb sb v { D with kept := keepAll D.kept (all64 (D.uns.take (k + 1))) }
      rw [htk, keepAll_snoc]; exact hD6
    · exact hT6.heap (hT25.heap hp2 (fun h => h)) (fun e => by have := hfoot kb (.inr (.inl rfl)); omega)
    · exact hT6.heap (hT25.heap hx2 (fun h => h)) (fun e => by have := hfoot kb (.inr (.inl rfl)); omega)
    · exact (hT02.trans (hT25.wider fun _ _ h => h.elim)).trans (hT6.wider fun _ _ h => .inr (.inl h))
  case hdone =>
    rintro Dd A hDd ⟨h1, h2, h3, h4⟩ hdd
    have hc0 : A.cell? ⟨w.heap.size, 0, none⟩ = some (.pointer (some ⟨d, 0, none⟩)) := by simp [World.cell?, h2]
    have hc3 := h1.c3
    have hc2 := h1.c2
    have hf2 := h1.fz 2
    have hf3 := h1.fz 3
    have hlen : D.uns.take D.uns.length = D.uns := List.take_length
    have h1 : DiskAt A d kb sb v { D with kept := keepAll D.kept (all64 (D.uns.take D.uns.length)) } := h1
    rw [hlen] at h1
    have hdw : d < w.heap.size := hfoot d (.inl rfl)
    have H1 := Lib.hid h1
    have HT := Lib.hid h4
    have HD := Lib.hid hdd
    clear h1 h2 h3 h4 hdd hlen hp1 hx1 hD1 hT1
    go_wp2
    have hdd : ((A.setCell ⟨d, 2, none⟩ (.slice none 0 0)).setCell ⟨d, 3, none⟩ (.int .i64 (D.ops + 1))).heap[Dd]? = some (.deferred (some [])) := by
      rw [Below.heap_setCell _ _ _ _ (show Dd ≠ d by omega), Below.heap_setCell _ _ _ _ (show Dd ≠ d by omega)]; exact HD.out
    have hT2 : Turned (Foot d kb sb v) w ((A.setCell ⟨d, 2, none⟩ (.slice none 0 0)).setCell ⟨d, 3, none⟩ (.int .i64 (D.ops + 1))) := (HT.out.setCell (p := ⟨d, 2, none⟩) (.inl rfl) _).setCell (p := ⟨d, 3, none⟩) (.inl rfl) _
    have hk9 : Turned (· = d) A ((A.setCell ⟨d, 2, none⟩ (.slice none 0 0)).setCell ⟨d, 3, none⟩ (.int .i64 (D.ops + 1))) := ((Turned.refl (· = d) A).setCell (p := ⟨d, 2, none⟩) rfl _).setCell (p := ⟨d, 3, none⟩) rfl _
    have hbx := heap_setCell_at (heap_setCell_at H1.out.box 2 (.slice none 0 0)) 3 (.int .i64 (D.ops + 1))
    have hDf : DiskAt ((A.setCell ⟨d, 2, none⟩ (.slice none 0 0)).setCell ⟨d, 3, none⟩ (.int .i64 (D.ops + 1))) d kb sb (.slice none 0 0) D.sync := by
      refine ⟨?_, ?_, ?_, ?_, World.ownsRow_nil _ _ _ _, H1.out.dk, H1.out.ds, H1.out.ks, by simp [Value.ownBlock], by simp [Value.ownBlock], by simp [Value.ownBlock]⟩
      · exact HH.out.ok.sync ho
      · rw [hbx]; simp [Dk.sync]
      · exact hk9.heap H1.out.kept (fun e => H1.out.dk e.symm)
      · exact hk9.heap H1.out.seen (fun e => H1.out.ds e.symm)
    refine leaves_mark (D := Dd) (B := w.heap.size + 1) hdd (by omega) ?_
    intro w' hb _
    refine leaves_none (results_tmp rfl _ _ _) ?_
    exact ⟨rfl, _, hDf.booked hb, hb.turned hT2 (by omega), .inr (by simp [Value.ownBlock])⟩
end Go.Proofs.Ytapmppiiphbcpaa

/- The walk of Unsynced. -/
namespace Go.Proofs.Ytapmppiiphbcpaa
open Go.RowKit
attribute [local go_sem] Oper.semAt_some

def atv (x : Nat × List UInt8) : Value := .int .i64 x.1

theorem info3 : (Try.prog.info? 3).map (fun i => (i.zero, i.size, i.bytes)) = some (some (.int .i64 0), 1, 8) := by kernel_rfl

/-- Between two rounds. -/
def UnsI (w : World) (d kb sb : Nat) (v : Value) (D : Dk) (Bs Bx : Nat) (k : Nat) (A : World) : Prop :=
  DiskAt A d kb sb v D ∧ (∃ s, A.heap[Bs]? = some (.cells #[s] 32 (0, 0)) ∧ A.ownsRow w.heap.size 3 1 s k ((D.uns.take k).map atv) ∧ s.ownBlock ≠ some Bs ∧ s.ownBlock ≠ some Bx) ∧ A.heap[Bx]? = some (.cells #[.pointer (some ⟨d, 0, none⟩)] 24 (0, 0)) ∧ Turned (fun _ => False) w A

/-- What Unsynced leaves: the sectors' numbers, in new memory. -/
def UnsPost (w : World) (D : Dk) (e : Ending) (w' : World) : Prop :=
  ∃ s, e = .returned s ∧ w'.ownsRow w.heap.size 3 1 s D.uns.length (D.uns.map atv) ∧ Below w.heap.size w w'

set_option maxRecDepth 10000 in
set_option maxHeartbeats 1000000 in
theorem unsynced_any {w : World} {d kb sb : Nat} {v : Value} {D : Dk} (h : DiskAt w d kb sb v D) :
    Calls Try.prog 18 #[.pointer (some ⟨d, 0, none⟩)] w (UnsPost w D) := by
  refine calls_of_wp_marks Try.func18 rfl ?_
  simp only [Try.ntmps18, List.size_toArray, List.length_cons, List.length_nil, Nat.reduceAdd, Nat.reduceSub, Array.replicate_succ, Array.replicate_zero, List.push_toArray, List.append_toArray, List.nil_append, List.cons_append]
  have HH := Lib.hid h
  clear h
  go_wp2_with (go_at_call 53; refine (writes_any d _).mono ?_; rintro e w1 ⟨rfl, hw1⟩)
  have hD1 : DiskAt w1 d kb sb v D := by rw [← hw1]; exact HH.out.kept' (((Turned.refl (fun _ => False) w).alloc _).alloc _) (fun _ => False.elim)
  have hT1 : Turned (fun _ => False) w w1 := by rw [← hw1]; exact ((Turned.refl _ w).alloc _).alloc _
  have hp1 : w1.heap[w.heap.size]? = some (.cells #[.slice none 0 0] 32 (0, 0)) := by rw [← hw1]; exact heap_alloc2_old _ _ _
  have hx1 : w1.heap[w.heap.size + 1]? = some (.cells #[.pointer (some ⟨d, 0, none⟩)] 24 (0, 0)) := by rw [← hw1]; exact heap_alloc2_new _ _ _
  have hs1 : w.heap.size + 2 ≤ w1.heap.size := by rw [← hw1]; simp
  have hfoot : ∀ k, Foot d kb sb v k → k < w.heap.size := fun k hk => HH.out.flt hk
  clear hw1
  refine wp_range_seq (gf := 75) (lb := #[.pointer (some ⟨w.heap.size + 1, 0, none⟩)]) rfl (enters_of Try.func75 (by kernel_rfl) rfl)
    (writes_seq (w.heap.size + 1) d v D.uns (fun x hx => (HH.out.ok.u64 x hx).2) HH.out.ok.few) (fun k => rfl)
    (UnsI w d kb sb v D w.heap.size (w.heap.size + 1)) (fun _ _ _ => False) ?hI (fun _ _ _ _ h _ => h) ?hF ?h0 ?hround ?hdone (fun _ _ _ _ _ _ h => h.elim)
  case hI =>
    rintro k A A' ⟨h1, ⟨s, h2, h2', h2''⟩, h3, h4⟩ hb
    exact ⟨h1.booked hb, ⟨s, hb.heap h2, hb.ownsRow h2', h2''⟩, hb.heap h3, hb.turned h4 (by omega)⟩
  case hF =>
    rintro k A ⟨h1, _, h3, h4⟩
    exact ⟨by simp [World.cell?, h3], h1.c2, h1.uns⟩
  case h0 => exact ⟨hD1, ⟨_, hp1, World.ownsRow_nil _ _ _ _, by simp [Value.ownBlock], by simp [Value.ownBlock]⟩, hx1, hT1⟩
  case hround =>
    rintro l n k A hl hlt ⟨h1, ⟨s, h2, h2', h2'', h2x⟩, h3, h4⟩
    obtain ⟨x, hx⟩ : ∃ x, D.uns[k]? = some x := ⟨_, List.getElem?_eq_getElem hlt⟩
    have hx64 := h1.ok.u64 x (List.mem_of_getElem? hx)
    have hmany := h1.ok.few
    have hgd : D.uns.getD k (0, zero64) = x := by simp [List.getD, hx]
    simp only [hands, hgd, List.zip_cons_cons, List.zip_nil_right, List.foldl_cons, List.foldl_nil, List.setIfInBounds_toArray, List.set_cons_succ, List.set_cons_zero]
    have hl65 : (wcells x).length = 65 := by rw [wcells, List.length_cons, length_u8s, hx64.2]
    have hi65 : (Try.prog.info? 102).map (·.size) = some (wcells x).length := by rw [hl65]; exact siz71
    have hf65 : 0 + (wcells x).length ≤ (Value.int .i64 0 :: u8s zero64).length := by rw [hl65]; simp [length_u8s, zero64]
    have hsp : splice (Value.int .i64 0 :: u8s zero64) 0 (wcells x) = wcells x := splice_all _ _ (by rw [hl65]; simp [length_u8s, zero64])
    have HI := Lib.hid hi65
    have HF := Lib.hid hf65
    have HSP := Lib.hid hsp
    have HX := Lib.hid hx
    have H1 := Lib.hid h1
    have H2 := Lib.hid h2
    have H2' := Lib.hid h2'
    have H2'' := Lib.hid h2''
    have H2x := Lib.hid h2x
    have H3 := Lib.hid h3
    have H4 := Lib.hid h4
    clear hgd hl65 hi65 hf65 hsp hx hx64 h1 h2 h2' h2'' h2x h3 h4 hp1 hx1 hD1 hT1
    gi_wp2_with (first | (refine listIn_op rfl (fun K hK => ?_); refine wpList_alloc_at rfl 102 rfl _ (zero71 A) ?_; intro w2 hw2 hT2; refine wpList_nil (one_normal (hK _ _ ?_)); clear hK K) | (refine listIn_op rfl (fun K hK => ?_); refine wpList_store_at rfl 102 (.tmp 5) (.tmp 11) rfl A.heap.size 0 (wcells x) rfl rfl (.int .i64 0 :: u8s zero64) 102 hw2.out HF.out HI.out (oneCell_wcells x) ?_; intro w3 hw3 hT3; refine wpList_nil (one_normal (hK _ _ ?_)); clear hK K))
    have hA3 : Turned (fun _ => False) A w3 := hT2.then hT3 (fun j hj e => by omega)
    have hBA : w.heap.size ≤ A.heap.size := H4.out.size
    refine ⟨keepsFrom_new hA3, fun A2 hbk hsz2 => ?_⟩
    clear hsz2
    have hb4 : A2.heap[A.heap.size]? = some (.cells (wcells x).toArray 102 (0, 0)) := by
      have := hbk.heap hw3.out
      rwa [HSP.out] at this
    have hD2 : DiskAt A2 d kb sb v _ := (H1.out.kept' hA3 (fun _ => False.elim)).booked hbk
    have hp2 := hbk.heap (hA3.heap H2.out (fun h => h))
    have ho2 := hbk.ownsRow (hA3.ownsRow H2'.out (fun _ _ h => h))
    have hx2 := hbk.heap (hA3.heap H3.out (fun h => h))
    have hT02 : Turned (fun _ => False) w A2 := hbk.turned (H4.out.trans hA3) (by omega)
    have hsA : A.heap.size < A2.heap.size := lt_of_heap hb4
    have hs4 : w.heap.size + 2 ≤ A.heap.size := by have := lt_of_heap H3.out; omega
    generalize A.heap.size = B4 at *
    have e0 : A2.cell? ⟨B4, 0, none⟩ = some (.int .i64 x.1) := by rw [cell_whole hb4]; rfl
    have e1 : A2.cell? ⟨w.heap.size, 0, none⟩ = some s := by simp [World.cell?, hp2]
    have e2 : A2.frozen? ⟨w.heap.size, 0, none⟩ = false := frozen_whole hp2 _
    have HD2 := Lib.hid hD2
    have HP2 := Lib.hid hp2
    have HO2 := Lib.hid ho2
    have HX2 := Lib.hid hx2
    have HT := Lib.hid hT02
    have hbA : w.heap.size ≤ A2.heap.size := hT02.size
    have hbs : w.heap.size < A2.heap.size := by omega
    clear hw2 hw3 hT2 hT3 hA3 hbk H1 H2 H3 H4 HF HSP H2' hD2 hp2 ho2 hx2 hT02 hb4 hsA
    obtain ⟨i0, hi0, hz0, hz1, hz2⟩ := info_parts info3
    have hl1 : ([Value.int .i64 x.1] : List Value).length = 1 * 1 := rfl
    have h1c : ∀ u ∈ [Value.int .i64 (x.1 : Int)], u.oneCell' = true := fun u hu => by obtain rfl := List.mem_singleton.1 hu; rfl
    have hm1 : k + 1 ≤ maxLen := by unfold maxLen; omega
    have HI0 := Lib.hid hi0
    have HZ0 := Lib.hid hz0
    have HZ1 := Lib.hid hz1
    have HZ2 := Lib.hid hz2
    clear hi0 hz0 hz1 hz2
    gi_wp2_with (refine listIn_op rfl (fun K hK => ?_); refine wpList_append_lies _ rfl (.tmp 12) (.tmp 15) 32 rfl w.heap.size 3 i0 _ 1 8 Try.underlying32 HI0.out HZ0.out HZ1.out HZ2.out rfl (Nat.le_refl _) s k ((D.uns.take k).map atv) rfl (HO2.out.alloc _) ⟨A2.heap.size, 0, none⟩ 1 1 [.int .i64 x.1] rfl hl1 (cell_one_new _ _ _) h1c (Nat.le_refl _) hm1 (by omega) (Nat.le_trans hbA (Nat.le_of_lt (by rw [World.size_alloc]; exact Nat.lt_succ_self _))) _ rfl ?_; intro g cap w9 hown hgrow hlies hglt; refine wpList_nil (one_normal (hK _ _ ?_)); clear hK K; have hTg : Turned (fun j => s.ownBlock = some j) (A2.alloc (.cells #[.int .i64 x.1] 3)) w9 := Turned.grown hgrow (fun j hj _ => hj); have hc9 := hTg.heap ((Below.heap_alloc A2 (.cells #[.int .i64 x.1] 3) w.heap.size hbs).trans HP2.out) H2''.out; have c1 : w9.cell? ⟨w.heap.size, 0, none⟩ = some s := (cell_of_row w9 _ 0 _ _ _ hc9); have c2 : w9.frozen? ⟨w.heap.size, 0, none⟩ = false := frozen_whole hc9 _; have HC9 := Lib.hid hc9; clear hc9)
    have hbx := lt_of_heap HX2.out
    have hso : ∀ j, s.ownBlock = some j → w.heap.size ≤ j ∧ j < A2.heap.size := fun j hj => HO2.out.lt j hj
    have hgs : g ≠ w.heap.size := by
      rcases hlies with hg | hg
      · exact fun e => H2''.out (by rw [hg, e])
      · rw [World.size_alloc] at hg; omega
    have hgx : g ≠ w.heap.size + 1 := by
      rcases hlies with hg | hg
      · exact fun e => H2x.out (by rw [hg, e])
      · rw [World.size_alloc] at hg; omega
    have hT9 : Turned (fun j => s.ownBlock = some j) A2 w9 := ((Turned.refl _ A2).alloc _).trans hTg
    have hTe : Turned (fun j => j = w.heap.size ∨ s.ownBlock = some j) A2 (w9.setCell ⟨w.heap.size, 0, none⟩ (.slice (some ⟨g, 0, none⟩) (k + 1) cap)) := (hT9.wider fun _ _ h => .inr h).setCell (p := ⟨w.heap.size, 0, none⟩) (.inl rfl) _
    have hTs : Turned (· = w.heap.size) w9 (w9.setCell ⟨w.heap.size, 0, none⟩ (.slice (some ⟨g, 0, none⟩) (k + 1) cap)) := (Turned.refl (· = w.heap.size) w9).setCell (p := ⟨w.heap.size, 0, none⟩) rfl _
    show KeepsFrom w1.heap.size A2 _ ∧ UnsI w d kb sb v D w.heap.size (w.heap.size + 1) (k + 1) _
    refine ⟨keepsFrom_turned hTe ?_, HD2.out.kept' hTe ?_, ⟨.slice (some ⟨g, 0, none⟩) (k + 1) cap, ?_, ?_, ?_, ?_⟩, hTe.heap HX2.out ?_, HT.out.then hTe ?_⟩
    · rintro j (rfl | hj)
      · exact .inl (by omega)
      · exact .inr (ownsRow_cells HO2.out hj)
    · rintro j (rfl | hj) hf
      · have := hfoot _ hf; omega
      · have := hfoot _ hf; have := hso j hj; omega
    · rw [heap_setCell_at HC9.out 0]; rfl
    · have := hTs.ownsRow hown (fun j hj e => hgs (by simp [Value.ownBlock] at hj; omega))
      rw [List.take_add_one, HX.out]
      simpa [atv] using this
    · simp [Value.ownBlock]; exact hgs
    · simp [Value.ownBlock]; exact hgx
    · rintro (e | hj)
      · omega
      · exact H2x.out hj
    · rintro j hj (e | hs)
      · omega
      · have := hso j hs; omega
  case hdone =>
    rintro Dd A hDd ⟨h1, ⟨s, h2, h2', -⟩, h3, h4⟩ hdd
    have hc0 : A.cell? ⟨w.heap.size, 0, none⟩ = some s := by simp [World.cell?, h2]
    have h2' : A.ownsRow w.heap.size 3 1 s D.uns.length ((D.uns.take D.uns.length).map atv) := h2'
    rw [List.take_length] at h2'
    have HR := Lib.hid h2'
    have HT := Lib.hid h4
    have HD := Lib.hid hdd
    clear h1 h2 h2' h3 h4 hdd hp1 hx1 hD1 hT1
    go_wp2
    refine leaves_mark (D := Dd) (B := w.heap.size + 1) HD.out (by omega) ?_
    intro w' hb _
    refine leaves_none (results_tmp rfl _ _ _) ?_
    exact ⟨s, rfl, hb.ownsRow HR.out, (hb.turned HT.out (by omega)).toBelow (Nat.le_refl _) (fun _ _ h => h.elim)⟩
end Go.Proofs.Ytapmppiiphbcpaa

/- The walk of Crash. -/
namespace Go.Proofs.Ytapmppiiphbcpaa
open Go.RowKit
attribute [local go_sem] Oper.semAt_some

/-- The sectors that are read, those of the writes fallen back. -/
def fallAll (kept seen : List (List UInt8)) (l : List (Nat × List UInt8)) : List (List UInt8) := l.foldl (fun S x => S.set x.1 (kept.getD x.1 [])) seen
theorem fallAll_snoc (kept seen : List (List UInt8)) (l : List (Nat × List UInt8)) (x : Nat × List UInt8) : fallAll kept seen (l ++ [x]) = (fallAll kept seen l).set x.1 (kept.getD x.1 []) := by simp [fallAll]
theorem length_fallAll (kept : List (List UInt8)) (l : List (Nat × List UInt8)) : ∀ seen, (fallAll kept seen l).length = seen.length := by
  induction l with
  | nil => exact fun _ => rfl
  | cons x l ih => intro seen; show (fallAll kept _ l).length = _; rw [ih]; simp
theorem fallAll_64 (kept : List (List UInt8)) (hk : ∀ s ∈ kept, s.length = 64) (l : List (Nat × List UInt8)) (hl : ∀ x ∈ l, x.1 < kept.length) : ∀ seen : List (List UInt8), (∀ s ∈ seen, s.length = 64) → ∀ s ∈ fallAll kept seen l, s.length = 64 := by
  induction l with
  | nil => exact fun seen hs => hs
  | cons x l ih =>
    intro seen hs
    refine ih (fun y hy => hl y (List.mem_cons_of_mem _ hy)) _ ?_
    intro s hm
    rcases List.mem_or_eq_of_mem_set hm with hm | rfl
    · exact hs s hm
    · have := hl x List.mem_cons_self
      exact hk _ (by simp [List.getD, this])

def crashKept (D : Dk) (zs : List Int) : List (List UInt8) := keepAll D.kept (D.uns.zip (zs.map Int.toNat))
def Dk.crash (D : Dk) (zs : List Int) : Dk := { kept := crashKept D zs, seen := fallAll (crashKept D zs) D.seen D.uns, uns := [], ops := D.ops }

/-- The list of numbers lies apart from the disk. -/
def Apart (w : World) (d kb sb : Nat) (v : Value) (p : Option Addr) : Prop := ∀ b off, p = some ⟨b, off, none⟩ → b < w.heap.size ∧ ¬ Foot d kb sb v b

set_option maxRecDepth 10000 in
set_option maxHeartbeats 1000000 in
theorem crash_more {w : World} {d kb sb : Nat} {v : Value} {D : Dk} (h : DiskAt w d kb sb v D) (p : Option Addr) (zs : List Int) (cap : Nat) (_ : zs.length ≤ 9223372036854775807) (hm : D.uns.length < zs.length) :
    Calls Try.prog 45 #[.pointer (some ⟨d, 0, none⟩), .slice p zs.length cap] w fun e w' => e = .returned (.int .i64 2) ∧ Below w.heap.size w w' := by
  refine calls_of_wp_marks Try.func45 rfl ?_
  simp only [Try.ntmps45, List.size_toArray, List.length_cons, List.length_nil, Nat.reduceAdd, Nat.reduceSub, Array.replicate_succ, Array.replicate_zero, List.push_toArray, List.append_toArray, List.nil_append, List.cons_append]
  have hfew := h.ok.few
  have hdlt := h.dlt
  have hc2 := h.c2
  obtain ⟨q, qc, rfl⟩ : ∃ q qc, v = .slice q D.uns.length qc := by
    rcases h.uns.2 with ⟨h1, h2⟩ | ⟨g, cap, cur, h, _⟩
    · exact ⟨none, 0, by rw [h1, h2]⟩
    · exact ⟨_, _, h⟩
  clear h
  go_wp2
  go_step3
  go_wp2
  have e1 : ((w.alloc (.cells #[.pointer (some ⟨d, 0, none⟩)] 24)).alloc (.cells #[.slice p zs.length cap] 32)).drew.cell? ⟨w.heap.size, 0, none⟩ = some (.pointer (some ⟨d, 0, none⟩)) := by simp [go_sem]
  have e2 : ((w.alloc (.cells #[.pointer (some ⟨d, 0, none⟩)] 24)).alloc (.cells #[.slice p zs.length cap] 32)).drew.cell? ⟨w.heap.size + 1, 0, none⟩ = some (.slice p zs.length cap) := by simp [go_sem]
  have hb2 : Below w.heap.size w ((w.alloc (.cells #[.pointer (some ⟨d, 0, none⟩)] 24)).alloc (.cells #[.slice p zs.length cap] 32)).drew := (below_al (below_al (Below.refl _ _) _) _).drew
  have e3 := (hb2.cell (p := ⟨d, 2, none⟩) hdlt).trans hc2
  obtain ⟨W, hW⟩ : ∃ W, ((w.alloc (.cells #[.pointer (some ⟨d, 0, none⟩)] 24)).alloc (.cells #[.slice p zs.length cap] 32)).drew = W := ⟨_, rfl⟩
  refine region_tail 8 (by kernel_rfl) (by kernel_rfl) W hW ?_
  rw [hW] at e1 e2 e3 hb2
  clear hW hc2
  simp only [List.take_succ_cons, List.take_zero, List.drop_succ_cons, List.drop_zero]
  iterate 8 still_step
  refine wpStill_nil ?_
  go_wp2
  refine only_normal ?_
  go_wp2
  rw [Exit.noGoto_ret]
  exact leaves_none (results_tmp rfl _ _ _) ⟨rfl, hb2⟩

/-- A list reads as it did in a world in which its block lies as it lay. -/
theorem Ints.kept {w w' : World} {p : Option Addr} {zs : List Int} (h : Ints w p zs) (hb : ∀ b off, p = some ⟨b, off, none⟩ → w'.heap[b]? = w.heap[b]?) : Ints w' p zs := fun hz => by
  obtain ⟨b, off, hp, hc⟩ := h hz
  exact ⟨b, off, hp, fun i hi => by rw [World.cell?_of_block (w := w) (hb b off hp)]; exact hc i hi⟩

set_option maxRecDepth 10000 in
set_option maxHeartbeats 1000000 in
theorem crash_wrong' {w : World} {d kb sb : Nat} {v : Value} {D : Dk} (h : DiskAt w d kb sb v D) (p : Option Addr) (zs : List Int) (cap : Nat) (hm : zs.length ≤ D.uns.length) (hz : Ints w p zs) (hp : zs ≠ [] → Apart w d kb sb v p) (ha : allIn 0 64 zs = false) :
    Calls Try.prog 45 #[.pointer (some ⟨d, 0, none⟩), .slice p zs.length cap] w fun e w' => e = .returned (.int .i64 2) ∧ Below w.heap.size w w' := by
  refine calls_of_wp_marks Try.func45 rfl ?_
  simp only [Try.ntmps45, List.size_toArray, List.length_cons, List.length_nil, Nat.reduceAdd, Nat.reduceSub, Array.replicate_succ, Array.replicate_zero, List.push_toArray, List.append_toArray, List.nil_append, List.cons_append]
  have hfew := h.ok.few
  have hdlt := h.dlt
  have hc2 := h.c2
  obtain ⟨q, qc, rfl⟩ : ∃ q qc, v = .slice q D.uns.length qc := by
    rcases h.uns.2 with ⟨h1, h2⟩ | ⟨g, cap, cur, h, _⟩
    · exact ⟨none, 0, by rw [h1, h2]⟩
    · exact ⟨_, _, h⟩
  have HA := Lib.hid ha
  clear h ha
  go_wp2
  go_step3
  go_wp2
  have e1 : ((w.alloc (.cells #[.pointer (some ⟨d, 0, none⟩)] 24)).alloc (.cells #[.slice p zs.length cap] 32)).drew.cell? ⟨w.heap.size, 0, none⟩ = some (.pointer (some ⟨d, 0, none⟩)) := by simp [go_sem]
  have e2 : ((w.alloc (.cells #[.pointer (some ⟨d, 0, none⟩)] 24)).alloc (.cells #[.slice p zs.length cap] 32)).drew.cell? ⟨w.heap.size + 1, 0, none⟩ = some (.slice p zs.length cap) := by simp [go_sem]
  have hb2 : Below w.heap.size w ((w.alloc (.cells #[.pointer (some ⟨d, 0, none⟩)] 24)).alloc (.cells #[.slice p zs.length cap] 32)).drew := (below_al (below_al (Below.refl _ _) _) _).drew
  have e3 := (hb2.cell (p := ⟨d, 2, none⟩) hdlt).trans hc2
  have hz2 : Ints _ p zs := fun hne => hz.kept (fun b off he => hb2.block b (hp hne b off he).1) hne
  obtain ⟨W, hW⟩ : ∃ W, ((w.alloc (.cells #[.pointer (some ⟨d, 0, none⟩)] 24)).alloc (.cells #[.slice p zs.length cap] 32)).drew = W := ⟨_, rfl⟩
  refine region_tail 8 (by kernel_rfl) (by kernel_rfl) W hW ?_
  rw [hW] at e1 e2 e3 hb2 hz2
  have HZ := Lib.hid hz2
  clear hW hc2 hz2 hz
  simp only [List.take_succ_cons, List.take_zero, List.drop_succ_cons, List.drop_zero]
  iterate 8 still_step
  refine wpStill_nil ?_
  go_wp2
  refine only_normal ?_
  go_wp2_with (go_at_call 46; refine (within_any 0 64 p zs cap W HZ.out (by omega)).mono ?_; rintro e w3 ⟨rfl, rfl⟩; rw [HA.out])
  rw [Exit.noGoto_ret]
  exact leaves_none (results_tmp rfl _ _ _) ⟨rfl, hb2⟩
theorem crash_wrong {w : World} {d kb sb : Nat} {v : Value} {D : Dk} (h : DiskAt w d kb sb v D) (p : Option Addr) (zs : List Int) (cap : Nat) (hm : zs.length ≤ D.uns.length) (hz : Ints w p zs) (hp : Apart w d kb sb v p) (ha : allIn 0 64 zs = false) :
    Calls Try.prog 45 #[.pointer (some ⟨d, 0, none⟩), .slice p zs.length cap] w fun e w' => e = .returned (.int .i64 2) ∧ Below w.heap.size w w' :=
  crash_wrong' h p zs cap hm hz (fun _ => hp) ha
end Go.Proofs.Ytapmppiiphbcpaa

/- The walk of Crash, where it is one. -/
namespace Go.Proofs.Ytapmppiiphbcpaa
open Go.RowKit
attribute [local go_sem] Oper.semAt_some

/-- Between two rounds of either loop. -/
structure CrashI (w : World) (d kb sb : Nat) (v : Value) (D : Dk) (Bp Bk Bx : Nat) (s : Value) (kept seen : List (List UInt8)) (A : World) : Prop where
  disk : DiskAt A d kb sb v { D with kept := kept, seen := seen }
  bp : A.heap[Bp]? = some (.cells #[.pointer (some ⟨d, 0, none⟩)] 24 (0, 0))
  bk : A.heap[Bk]? = some (.cells #[s] 32 (0, 0))
  bx : A.heap[Bx]? = some (.cells #[.pointer (some ⟨d, 0, none⟩)] 24 (0, 0))
  turned : Turned (Foot d kb sb v) w A
theorem CrashI.booked {w : World} {d kb sb : Nat} {v : Value} {D : Dk} {Bp Bk Bx : Nat} {s : Value} {kept seen : List (List UInt8)} {A A' : World} {B : Nat} (h : CrashI w d kb sb v D Bp Bk Bx s kept seen A) (hb : Booked B A A') (hB : w.heap.size ≤ B) : CrashI w d kb sb v D Bp Bk Bx s kept seen A' :=
  ⟨h.disk.booked hb, hb.heap h.bp, hb.heap h.bk, hb.heap h.bx, hb.turned h.turned hB⟩
theorem CrashI.new {w : World} {d kb sb : Nat} {v : Value} {D : Dk} {Bp Bk Bx : Nat} {s : Value} {kept seen : List (List UInt8)} {A A' : World} (h : CrashI w d kb sb v D Bp Bk Bx s kept seen A) (hb : Turned (fun _ => False) A A') : CrashI w d kb sb v D Bp Bk Bx s kept seen A' :=
  ⟨h.disk.kept' hb (fun _ => False.elim), hb.heap h.bp (fun h => h), hb.heap h.bk (fun h => h), hb.heap h.bx (fun h => h), h.turned.trans (hb.wider fun _ _ h => h.elim)⟩

/-- The writes, each with how many of its bytes are kept. -/
def torn (D : Dk) (zs : List Int) : List ((Nat × List UInt8) × Nat) := D.uns.zip (zs.map Int.toNat)

set_option maxRecDepth 10000 in
set_option maxHeartbeats 1000000 in
theorem crash_any' {w : World} {d kb sb : Nat} {v : Value} {D : Dk} (h : DiskAt w d kb sb v D) (p : Option Addr) (zs : List Int) (cap : Nat) (hm : zs.length ≤ D.uns.length) (hz : Ints w p zs) (hp : zs ≠ [] → Apart w d kb sb v p) (ha : allIn 0 64 zs = true) :
    Calls Try.prog 45 #[.pointer (some ⟨d, 0, none⟩), .slice p zs.length cap] w (DiskPost w d kb sb v (D.crash zs) (.int .i64 0)) := by
  refine calls_of_wp_marks Try.func45 rfl ?_
  simp only [Try.ntmps45, List.size_toArray, List.length_cons, List.length_nil, Nat.reduceAdd, Nat.reduceSub, Array.replicate_succ, Array.replicate_zero, List.push_toArray, List.append_toArray, List.nil_append, List.cons_append]
  have hfew := h.ok.few
  have hdlt := h.dlt
  have hc2 := h.c2
  have HH := Lib.hid h
  obtain ⟨q, qc, rfl⟩ : ∃ q qc, v = .slice q D.uns.length qc := by
    rcases h.uns.2 with ⟨h1, h2⟩ | ⟨g, cap, cur, h, _⟩
    · exact ⟨none, 0, by rw [h1, h2]⟩
    · exact ⟨_, _, h⟩
  have HA := Lib.hid ha
  clear h ha
  go_wp2
  go_step3
  go_wp2
  have e1 : ((w.alloc (.cells #[.pointer (some ⟨d, 0, none⟩)] 24)).alloc (.cells #[.slice p zs.length cap] 32)).drew.cell? ⟨w.heap.size, 0, none⟩ = some (.pointer (some ⟨d, 0, none⟩)) := by simp [go_sem]
  have e2 : ((w.alloc (.cells #[.pointer (some ⟨d, 0, none⟩)] 24)).alloc (.cells #[.slice p zs.length cap] 32)).drew.cell? ⟨w.heap.size + 1, 0, none⟩ = some (.slice p zs.length cap) := by simp [go_sem]
  have hb2 : Below w.heap.size w ((w.alloc (.cells #[.pointer (some ⟨d, 0, none⟩)] 24)).alloc (.cells #[.slice p zs.length cap] 32)).drew := (below_al (below_al (Below.refl _ _) _) _).drew
  have e3 := (hb2.cell (p := ⟨d, 2, none⟩) hdlt).trans hc2
  have hz2 : Ints _ p zs := fun hne => hz.kept (fun b off he => hb2.block b (hp hne b off he).1) hne
  obtain ⟨W, hW⟩ : ∃ W, ((w.alloc (.cells #[.pointer (some ⟨d, 0, none⟩)] 24)).alloc (.cells #[.slice p zs.length cap] 32)).drew = W := ⟨_, rfl⟩
  refine region_tail 8 (by kernel_rfl) (by kernel_rfl) W hW ?_
  rw [hW] at e1 e2 e3 hb2 hz2
  have HZ := Lib.hid hz2
  have HW := Lib.hid hW
  clear hW hc2 hz2
  simp only [List.take_succ_cons, List.take_zero, List.drop_succ_cons, List.drop_zero]
  iterate 8 still_step
  refine wpStill_nil ?_
  go_wp2
  refine only_normal ?_
  go_wp2_with (go_at_call 46; refine (within_any 0 64 p zs cap W HZ.out (by omega)).mono ?_; rintro e w3 ⟨rfl, rfl⟩; rw [HA.out])
  have hd2 : DiskAt W d kb sb (.slice q D.uns.length qc) D := HH.out.kept' (Turned.new hb2) (fun _ => False.elim)
  have hs2 : w.heap.size + 2 ≤ W.heap.size := by rw [← HW.out]; simp
  have hp2 : W.heap[w.heap.size]? = some (.cells #[.pointer (some ⟨d, 0, none⟩)] 24 (0, 0)) := by rw [← HW.out]; exact heap_alloc2_old _ _ _
  have hk2 : W.heap[w.heap.size + 1]? = some (.cells #[.slice p zs.length cap] 32 (0, 0)) := by rw [← HW.out]; exact heap_alloc2_new _ _ _
  have hfoot : ∀ k, Foot d kb sb (.slice q D.uns.length qc) k → k < w.heap.size := fun k hk => HH.out.flt hk
  have hT2 : Turned (Foot d kb sb (.slice q D.uns.length qc)) w W := Turned.new hb2
  have H2 := Lib.hid hd2
  have HZ2 := Lib.hid hz
  have HP2 := Lib.hid hp2
  have HK2 := Lib.hid hk2
  have HT2 := Lib.hid hT2
  have HF := Lib.hid hfoot
  have HAp := Lib.hid hp
  clear hd2 hp2 hk2 hT2 hfoot hp hz HW HZ hb2
  go_step3
  go_wp2_with (go_at_call 53; refine (writes_any d _).mono ?_; rintro e w4 ⟨rfl, hw4⟩)
  have hbel : Below W.heap.size W w4 := by rw [← hw4]; exact below_al (Below.refl _ _) _
  have hx4 : w4.heap[W.heap.size]? = some (.cells #[.pointer (some ⟨d, 0, none⟩)] 24 (0, 0)) := by rw [← hw4]; exact heap_alloc_new _ _
  have hs4 : W.heap.size < w4.heap.size := lt_of_heap hx4
  have hBw : w.heap.size ≤ W.heap.size := by omega
  have hI0 : CrashI w d kb sb (.slice q D.uns.length qc) D w.heap.size (w.heap.size + 1) W.heap.size (.slice p zs.length cap) D.kept D.seen w4 :=
    ⟨H2.out.kept' (F := fun _ => False) (Turned.new hbel) (fun _ => False.elim), by rw [hbel.block _ (lt_of_heap HP2.out)]; exact HP2.out, by rw [hbel.block _ (lt_of_heap HK2.out)]; exact HK2.out, hx4, HT2.out.trans (Turned.new hbel)⟩
  generalize W.heap.size = Bx at *
  clear hw4 hbel hx4 H2 HP2 HK2 HT2 e1 e2 e3
  have hlt : (torn D zs).length = zs.length := by simp [torn]; omega
  have HL := Lib.hid hlt
  clear hlt
  refine wp_range_break (gf := 75) (lb := #[.pointer (some ⟨Bx, 0, none⟩)]) rfl (enters_of Try.func75 (by kernel_rfl) rfl)
    (writes_seq Bx d (.slice q D.uns.length qc) D.uns (fun x hx => (HH.out.ok.u64 x hx).2) HH.out.ok.few) (fun k => rfl)
    (fun k A => k ≤ zs.length ∧ CrashI w d kb sb (.slice q D.uns.length qc) D w.heap.size (w.heap.size + 1) Bx (.slice p zs.length cap) (keepAll D.kept ((torn D zs).take k)) D.seen A)
    (CrashI w d kb sb (.slice q D.uns.length qc) D w.heap.size (w.heap.size + 1) Bx (.slice p zs.length cap) (keepAll D.kept (torn D zs)) D.seen) ?hI ?hIx ?hF ?h0 ?hN ?hround ?hend
  case hI => rintro k A A' ⟨h1, h2⟩ hb; exact ⟨h1, h2.booked hb (by omega)⟩
  case hIx => intro A A' h2 hb; exact h2.booked hb (by omega)
  case hF => rintro k A ⟨_, h⟩; exact ⟨by simp [World.cell?, h.bx], h.disk.c2, h.disk.uns⟩
  case h0 => exact ⟨Nat.zero_le _, hI0⟩
  case hround =>
    rintro l n k A hl hlt ⟨hkz, hi⟩
    obtain ⟨x, hx⟩ : ∃ x, D.uns[k]? = some x := ⟨_, List.getElem?_eq_getElem hlt⟩
    have hx64 := HH.out.ok.u64 x (List.mem_of_getElem? hx)
    have hgd : D.uns.getD k (0, zero64) = x := by simp [List.getD, hx]
    simp only [hands, hgd, List.zip_cons_cons, List.zip_nil_right, List.foldl_cons, List.foldl_nil, List.setIfInBounds_toArray, List.set_cons_succ, List.set_cons_zero]
    have hl65 : (wcells x).length = 65 := by rw [wcells, List.length_cons, length_u8s, hx64.2]
    have hi65 : (Try.prog.info? 102).map (·.size) = some (wcells x).length := by rw [hl65]; exact siz71
    have hf65 : 0 + (wcells x).length ≤ (Value.int .i64 0 :: u8s zero64).length := by rw [hl65]; simp [length_u8s, zero64]
    have hsp : splice (Value.int .i64 0 :: u8s zero64) 0 (wcells x) = wcells x := splice_all _ _ (by rw [hl65]; simp [length_u8s, zero64])
    have HI := Lib.hid hi65
    have HF6 := Lib.hid hf65
    have HSP := Lib.hid hsp
    have HX := Lib.hid hx
    have H64 := Lib.hid hx64
    have H1 := Lib.hid hi
    have HI0 := Lib.hid hI0
    clear hgd hl65 hi65 hf65 hsp hx hx64 hi hI0
    gi_wp2_with (first | (refine listIn_op rfl (fun K hK => ?_); refine wpList_alloc_at rfl 102 rfl _ (zero71 A) ?_; intro w2 hw2 hT2; refine wpList_nil (one_normal (hK _ _ ?_)); clear hK K) | (refine listIn_op rfl (fun K hK => ?_); refine wpList_store_at rfl 102 (.tmp 6) (.tmp 27) rfl A.heap.size 0 (wcells x) rfl rfl (.int .i64 0 :: u8s zero64) 102 hw2.out HF6.out HI.out (oneCell_wcells x) ?_; intro w3 hw3 hT3; refine wpList_nil (one_normal (hK _ _ ?_)); clear hK K))
    have hA3 : Turned (fun _ => False) A w3 := hT2.then hT3 (fun j hj e => by omega)
    refine ⟨keepsFrom_new hA3, fun A2 hbk hsz => ?_⟩
    clear hsz
    have hb4 : A2.heap[A.heap.size]? = some (.cells (wcells x).toArray 102 (0, 0)) := by
      have := hbk.heap hw3.out
      rwa [HSP.out] at this
    have hi2 := (H1.out.new hA3).booked hbk (by omega)
    generalize A.heap.size = B4 at *
    clear hw2 hw3 hT2 hT3 hA3 hbk H1 HF6 HSP
    have e5 : A2.cell? ⟨w.heap.size + 1, 0, none⟩ = some (.slice p zs.length cap) := by simp [World.cell?, hi2.bk]
    have H2 := Lib.hid hi2
    clear hi2
    by_cases hkl : k = zs.length
    · subst hkl
      gi_wp2
      refine ⟨KeepsFrom.refl _ _, rfl, ?_⟩
      have := H2.out
      rwa [List.take_of_length_le (by rw [HL.out]; exact Nat.le_refl _)] at this
    · have hkz2 : k < zs.length := by omega
      clear hkl
      gi_wp2_with fail
      obtain ⟨pb, po, rfl, hpc⟩ := HZ2.out (by intro h; rw [h] at hkz2; simp at hkz2)
      obtain ⟨hplt, hpf⟩ := HAp.out (by intro h; rw [h] at hkz2; simp at hkz2) pb po rfl
      have hzk := List.all_eq_true.1 HA.out (zs[k]) (List.getElem_mem hkz2)
      simp only [Bool.and_eq_true, decide_eq_true_eq] at hzk
      obtain ⟨m, hm1⟩ : ∃ m : Nat, zs[k] = (m : Int) := ⟨zs[k].toNat, by omega⟩
      have hm64 : m ≤ 64 := by omega
      have e7 : A2.drew.cell? ⟨pb, po + k, none⟩ = some (.int .i64 m) := by
        have := hpc k hkz2
        rw [show zs.getD k 0 = (m : Int) by simp [List.getD, hkz2, hm1]] at this
        exact H2.out.turned.cell this hpf
      have e1 : A2.drew.cell? ⟨w.heap.size, 0, none⟩ = some (.pointer (some ⟨d, 0, none⟩)) := by rw [World.cell?_drew]; simp [World.cell?, H2.out.bp]
      have e6 : A2.drew.cell? ⟨w.heap.size + 1, 0, none⟩ = some (.slice (some ⟨pb, po, none⟩) zs.length cap) := e5
      have hD3 : DiskAt A2.drew d kb sb _ _ := H2.out.disk.kept' ((Turned.refl (fun _ => False) A2).drew) (fun _ => False.elim)
      have hb3 : A2.drew.heap[B4]? = some (.cells (wcells x).toArray 102 (0, 0)) := hb4
      obtain ⟨fs, hfs⟩ := und71
      have HU := Lib.hid hfs
      have HM := Lib.hid hm1
      clear hfs hm1 hzk hpc
      obtain ⟨w5, hw5⟩ : ∃ w5, A2.drew = w5 := ⟨_, rfl⟩
      have hT25 : Turned (fun _ => False) A2 w5 := by rw [← hw5]; exact (Turned.refl _ A2).drew
      refine region_tail_in 8 (by kernel_rfl) (by kernel_rfl) (by rfl) w5 hw5 ?_
      rw [hw5] at hD3 e1 e6 e7 hb3
      clear hw5 e5
      simp only [List.take_succ_cons, List.take_zero, List.drop_succ_cons, List.drop_zero]
      iterate 3 still_step
      refine wpStill_load_mid rfl 102 (.tmp 6) rfl B4 0 rfl (wcells x) _ ?e1 HU.out rfl HI.out ?_
      case e1 => have := rangeAt_whole hb3 0 (wcells x).length; rwa [List.drop_zero, List.take_length] at this
      iterate 4 still_step
      refine wpStill_nil ?_
      have hko : (keepAll D.kept ((torn D zs).take k))[x.1]? = some ((keepAll D.kept ((torn D zs).take k)).getD x.1 []) := by
        have : x.1 < (keepAll D.kept ((torn D zs).take k)).length := by rw [length_keepAll]; exact H64.out.1
        simp [List.getD, this]
      have HK := Lib.hid hko
      clear hko
      go_wp2_with (go_at_call 73; refine (keep_any hD3 x.1 x.2 _ m HK.out H64.out.2 hm64).mono ?_; rintro e w6 ⟨rfl, hD6, hT6⟩)
      refine only_normal ?_
      show KeepsFrom w4.heap.size A2 w6 ∧ k + 1 ≤ zs.length ∧ CrashI w d kb sb _ D w.heap.size (w.heap.size + 1) Bx (.slice (some ⟨pb, po, none⟩) zs.length cap) (keepAll D.kept ((torn D zs).take (k + 1))) D.seen w6
      have htk : (torn D zs).take (k + 1) = (torn D zs).take k ++ [(x, m)] := by
        rw [List.take_add_one]
        have : (torn D zs)[k]? = some (x, m) := by
          simp only [torn, List.getElem?_zip_eq_some, HX.out, List.getElem?_map, List.getElem?_eq_getElem hkz2, HM.out]
          simp
        rw [this]; rfl
      refine ⟨?_, hkz2, ?_⟩
      · refine keepsFrom_turned ((hT25.wider (F := (· = kb)) fun _ _ h => h.elim).trans hT6) fun j hj => .inl ?_
        have := HF.out j (.inr (.inl hj))
        omega
      · have hkl : kb < w.heap.size := HF.out kb (.inr (.inl rfl))
        rw [htk, keepAll_snoc]
        refine ⟨hD6, hT6.heap (hT25.heap H2.out.bp (fun h => h)) (fun e => by omega), hT6.heap (hT25.heap H2.out.bk (fun h => h)) (fun e => by omega), hT6.heap (hT25.heap H2.out.bx (fun h => h)) (fun e => by omega), ?_⟩
        exact (H2.out.turned.trans (hT25.wider fun _ _ h => h.elim)).trans (hT6.wider fun _ _ h => .inr (.inl h))
  case hN =>
    rintro A ⟨hle, hi0⟩
    rwa [List.take_of_length_le (by rw [HL.out]; exact hm)] at hi0
  case hend =>
    rintro D1 A hD1 hi hdd
    have hDA : D1 < A.heap.size := lt_of_heap hdd
    have e1 : A.cell? ⟨w.heap.size, 0, none⟩ = some (.pointer (some ⟨d, 0, none⟩)) := by simp [World.cell?, hi.bp]
    have HI := Lib.hid hi
    have HD := Lib.hid hdd
    clear hi hdd hI0
    go_wp2_with (go_at_call 53; refine (writes_any d _).mono ?_; rintro e w7 ⟨rfl, hw7⟩)
    have hbel : Below A.heap.size A w7 := by rw [← hw7]; exact below_al (Below.refl _ _) _
    have hx7 : w7.heap[A.heap.size]? = some (.cells #[.pointer (some ⟨d, 0, none⟩)] 24 (0, 0)) := by rw [← hw7]; exact heap_alloc_new _ _
    have hs7 : A.heap.size < w7.heap.size := lt_of_heap hx7
    have hd7 : w7.heap[D1]? = some (.deferred (some [])) := by rw [hbel.block _ hDA]; exact HD.out
    have hi7 : CrashI w d kb sb (.slice q D.uns.length qc) D w.heap.size (w.heap.size + 1) A.heap.size (.slice p zs.length cap) (keepAll D.kept (torn D zs)) D.seen w7 :=
      ⟨HI.out.disk.kept' (F := fun _ => False) (Turned.new hbel) (fun _ => False.elim), by rw [hbel.block _ (lt_of_heap HI.out.bp)]; exact HI.out.bp, by rw [hbel.block _ (lt_of_heap HI.out.bk)]; exact HI.out.bk, hx7, HI.out.turned.trans (Turned.new hbel)⟩
    have hAw : w.heap.size ≤ A.heap.size := by omega
    generalize A.heap.size = By at *
    clear hw7 hbel hx7 HI e1
    refine wp_range_seq (gf := 75) (lb := #[.pointer (some ⟨By, 0, none⟩)]) rfl (enters_of Try.func75 (by kernel_rfl) rfl)
      (writes_seq By d (.slice q D.uns.length qc) D.uns (fun x hx => (HH.out.ok.u64 x hx).2) HH.out.ok.few) (fun k => rfl)
      (fun k A => A.heap[D1]? = some (.deferred (some [])) ∧ CrashI w d kb sb (.slice q D.uns.length qc) D w.heap.size (w.heap.size + 1) By (.slice p zs.length cap) (keepAll D.kept (torn D zs)) (fallAll (keepAll D.kept (torn D zs)) D.seen (D.uns.take k)) A)
      (fun _ _ _ => False) ?hI2 (fun _ _ _ _ h _ => h) ?hF2 ?h02 ?hround2 ?hdone2 (fun _ _ _ _ _ _ h => h.elim)
    case hI2 => rintro k A A' ⟨h1, h2⟩ hb; exact ⟨hb.old h1 (by omega), h2.booked hb (by omega)⟩
    case hF2 => rintro k A ⟨_, h⟩; exact ⟨by simp [World.cell?, h.bx], h.disk.c2, h.disk.uns⟩
    case h02 => exact ⟨hd7, hi7⟩
    case hround2 =>
      rintro l n k A hl hlt ⟨hda, hi⟩
      obtain ⟨x, hx⟩ : ∃ x, D.uns[k]? = some x := ⟨_, List.getElem?_eq_getElem hlt⟩
      have hx64 := HH.out.ok.u64 x (List.mem_of_getElem? hx)
      have hgd : D.uns.getD k (0, zero64) = x := by simp [List.getD, hx]
      simp only [hands, hgd, List.zip_cons_cons, List.zip_nil_right, List.foldl_cons, List.foldl_nil, List.setIfInBounds_toArray, List.set_cons_succ, List.set_cons_zero]
      have hl65 : (wcells x).length = 65 := by rw [wcells, List.length_cons, length_u8s, hx64.2]
      have hi65 : (Try.prog.info? 102).map (·.size) = some (wcells x).length := by rw [hl65]; exact siz71
      have hf65 : 0 + (wcells x).length ≤ (Value.int .i64 0 :: u8s zero64).length := by rw [hl65]; simp [length_u8s, zero64]
      have hsp : splice (Value.int .i64 0 :: u8s zero64) 0 (wcells x) = wcells x := splice_all _ _ (by rw [hl65]; simp [length_u8s, zero64])
      have HI := Lib.hid hi65
      have HF6 := Lib.hid hf65
      have HSP := Lib.hid hsp
      have HX := Lib.hid hx
      have H64 := Lib.hid hx64
      have H1 := Lib.hid hi
      have HDA := Lib.hid hda
      have HI7 := Lib.hid hi7
      have HD7 := Lib.hid hd7
      clear hgd hl65 hi65 hf65 hsp hx hx64 hi hi7 hda hd7
      gi_wp2_with (first | (refine listIn_op rfl (fun K hK => ?_); refine wpList_alloc_at rfl 102 rfl _ (zero71 A) ?_; intro w2 hw2 hT2; refine wpList_nil (one_normal (hK _ _ ?_)); clear hK K) | (refine listIn_op rfl (fun K hK => ?_); refine wpList_store_at rfl 102 (.tmp 8) (.tmp 44) rfl A.heap.size 0 (wcells x) rfl rfl (.int .i64 0 :: u8s zero64) 102 hw2.out HF6.out HI.out (oneCell_wcells x) ?_; intro w3 hw3 hT3; refine wpList_nil (one_normal (hK _ _ ?_)); clear hK K))
      have hA3 : Turned (fun _ => False) A w3 := hT2.then hT3 (fun j hj e => by omega)
      refine ⟨keepsFrom_new hA3, fun A2 hbk hsz => ?_⟩
      clear hsz
      have hb4 : A2.heap[A.heap.size]? = some (.cells (wcells x).toArray 102 (0, 0)) := by
        have := hbk.heap hw3.out
        rwa [HSP.out] at this
      have hi2 := (H1.out.new hA3).booked hbk (by omega)
      have hda2 : A2.heap[D1]? = some (.deferred (some [])) := hbk.old (hA3.heap HDA.out (fun h => h)) (by omega)
      generalize A.heap.size = B4 at *
      have H2 := Lib.hid hi2
      have HDA2 := Lib.hid hda2
      clear hw2 hw3 hT2 hT3 hA3 hbk H1 HF6 HSP hi2 HDA hda2
      gi_wp2_with fail
      have e1 : A2.drew.cell? ⟨w.heap.size, 0, none⟩ = some (.pointer (some ⟨d, 0, none⟩)) := by rw [World.cell?_drew]; simp [World.cell?, H2.out.bp]
      have e2 : A2.drew.cell? ⟨B4, 0, none⟩ = some (.int .i64 x.1) := by rw [World.cell?_drew, cell_whole hb4]; rfl
      have hD3 : DiskAt A2.drew d kb sb _ _ := H2.out.disk.kept' ((Turned.refl (fun _ => False) A2).drew) (fun _ => False.elim)
      obtain ⟨w5, hw5⟩ : ∃ w5, A2.drew = w5 := ⟨_, rfl⟩
      have hT25 : Turned (fun _ => False) A2 w5 := by rw [← hw5]; exact (Turned.refl _ A2).drew
      refine region_tail_in 5 (by kernel_rfl) (by kernel_rfl) (by rfl) w5 hw5 ?_
      rw [hw5] at hD3 e1 e2
      clear hw5 hb4
      simp only [List.take_succ_cons, List.take_zero, List.drop_succ_cons, List.drop_zero]
      iterate 5 still_step
      refine wpStill_nil ?_
      have hko : (keepAll D.kept (torn D zs))[x.1]? = some ((keepAll D.kept (torn D zs)).getD x.1 []) := by
        have : x.1 < (keepAll D.kept (torn D zs)).length := by rw [length_keepAll]; exact H64.out.1
        simp [List.getD, this]
      have HK := Lib.hid hko
      clear hko
      go_wp2_with (go_at_call 74; refine (fall_any hD3 x.1 _ HK.out).mono ?_; rintro e w6 ⟨rfl, hD6, hT6⟩)
      refine only_normal ?_
      have hsl : sb < w.heap.size := HF.out sb (.inr (.inr (.inl rfl)))
      show KeepsFrom w7.heap.size A2 w6 ∧ w6.heap[D1]? = some (.deferred (some [])) ∧ CrashI w d kb sb _ D w.heap.size (w.heap.size + 1) By (.slice p zs.length cap) (keepAll D.kept (torn D zs)) (fallAll (keepAll D.kept (torn D zs)) D.seen (D.uns.take (k + 1))) w6
      refine ⟨?_, hT6.heap (hT25.heap HDA2.out (fun h => h)) (fun e => by omega), ?_⟩
      · refine keepsFrom_turned ((hT25.wider (F := (· = sb)) fun _ _ h => h.elim).trans hT6) fun j hj => .inl ?_
        omega
      · rw [List.take_add_one, HX.out, Option.toList_some, fallAll_snoc]
        refine ⟨hD6, hT6.heap (hT25.heap H2.out.bp (fun h => h)) (fun e => by omega), hT6.heap (hT25.heap H2.out.bk (fun h => h)) (fun e => by omega), hT6.heap (hT25.heap H2.out.bx (fun h => h)) (fun e => by omega), ?_⟩
        exact (H2.out.turned.trans (hT25.wider fun _ _ h => h.elim)).trans (hT6.wider fun _ _ h => .inr (.inr (.inl h)))
    case hdone2 =>
      rintro D2 A hD2 ⟨hda, hi⟩ hdd
      have hc0 : A.cell? ⟨w.heap.size, 0, none⟩ = some (.pointer (some ⟨d, 0, none⟩)) := by simp [World.cell?, hi.bp]
      have hc2 := hi.disk.c2
      have hf2 := hi.disk.fz 2
      have hdw : d < w.heap.size := HF.out d (.inl rfl)
      have h1 : CrashI w d kb sb (.slice q D.uns.length qc) D w.heap.size (w.heap.size + 1) By (.slice p zs.length cap) (keepAll D.kept (torn D zs)) (fallAll (keepAll D.kept (torn D zs)) D.seen (D.uns.take D.uns.length)) A := hi
      rw [List.take_length] at h1
      have H1 := Lib.hid h1
      have HDA := Lib.hid hda
      have HDD := Lib.hid hdd
      clear h1 hi hda hdd hi7 hd7
      go_wp2
      rw [Exit.noGoto_ret]
      have hk9 : Turned (· = d) A (A.setCell ⟨d, 2, none⟩ (.slice none 0 0)) := (Turned.refl (· = d) A).setCell (p := ⟨d, 2, none⟩) rfl _
      have hT9 : Turned (Foot d kb sb (.slice q D.uns.length qc)) w (A.setCell ⟨d, 2, none⟩ (.slice none 0 0)) := H1.out.turned.setCell (p := ⟨d, 2, none⟩) (.inl rfl) _
      have hh1 := hk9.heap HDA.out (fun e => by omega)
      have hh2 := hk9.heap HDD.out (fun e => by omega)
      have hbx := heap_setCell_at H1.out.disk.box 2 (.slice none 0 0)
      have hne : D2 ≠ D1 := by omega
      have hDf : DiskAt (A.setCell ⟨d, 2, none⟩ (.slice none 0 0)) d kb sb (.slice none 0 0) (D.crash zs) := by
        refine ⟨?_, ?_, ?_, ?_, World.ownsRow_nil _ _ _ _, H1.out.disk.dk, H1.out.disk.ds, H1.out.disk.ks, by simp [Value.ownBlock], by simp [Value.ownBlock], by simp [Value.ownBlock]⟩
        · exact { H1.out.disk.ok with u64 := fun x hx => by simp [Dk.crash] at hx, few := by simp [Dk.crash] }
        · rw [hbx]; simp [Dk.crash, crashKept, torn]
        · exact hk9.heap H1.out.disk.kept (fun e => H1.out.disk.dk e.symm)
        · exact hk9.heap H1.out.disk.seen (fun e => H1.out.disk.ds e.symm)
      refine leaves_mark (D := D2) (B := w.heap.size + 1) hh2 (by omega) fun w' hb hk => ?_
      refine leaves_mark (D := D1) (B := w.heap.size + 1) (by rw [hk D1 (fun e => hne e.symm)]; exact hh1) (by omega) fun w'' hb' _ => ?_
      refine leaves_none (results_tmp rfl _ _ _) ?_
      exact ⟨rfl, _, (hDf.booked hb).booked hb', hb'.turned (hb.turned hT9 (by omega)) (by omega), .inr (by simp [Value.ownBlock])⟩
theorem crash_any {w : World} {d kb sb : Nat} {v : Value} {D : Dk} (h : DiskAt w d kb sb v D) (p : Option Addr) (zs : List Int) (cap : Nat) (hm : zs.length ≤ D.uns.length) (hz : Ints w p zs) (hp : Apart w d kb sb v p) (ha : allIn 0 64 zs = true) :
    Calls Try.prog 45 #[.pointer (some ⟨d, 0, none⟩), .slice p zs.length cap] w (DiskPost w d kb sb v (D.crash zs) (.int .i64 0)) :=
  crash_any' h p zs cap hm hz (fun _ => hp) ha
end Go.Proofs.Ytapmppiiphbcpaa

/- Write where it is refused; and the law's own example. -/
namespace Go.Proofs.Ytapmppiiphbcpaa
open Go.RowKit

set_option maxRecDepth 10000 in
set_option maxHeartbeats 400000 in
theorem write_sector {w : World} {d kb sb : Nat} {v : Value} {D : Dk} (h : DiskAt w d kb sb v D) (i : Int) (s : ByteArray) (hi : i < 0 ∨ D.kept.length ≤ i) :
    Calls Try.prog 43 #[.pointer (some ⟨d, 0, none⟩), .int .i64 i, .string s] w fun e w' => e = .returned (.int .i64 10) ∧ Below w.heap.size w w' := by
  have hm := h.ok.most
  have h0 := h.c0
  have e1 : (decide (0 ≤ (i : Int)) && decide ((i : Int) < (D.kept.length : Int))) = false := by simp; omega
  have E1 := Lib.hid e1
  clear hi e1
  go_enter Try.func43, Try.ntmps43
  go_wp2_with (go_at_call 54; refine (has_any d _ _ _ i w hm h0).mono ?c1)
  case c1 =>
    rintro e w1 ⟨rfl, hb⟩
    rw [E1.out]
    go_wp2
    go_ret
    exact ⟨rfl, hb⟩

set_option maxRecDepth 10000 in
set_option maxHeartbeats 400000 in
theorem write_long {w : World} {d kb sb : Nat} {v : Value} {D : Dk} (h : DiskAt w d kb sb v D) (i : Int) (s : ByteArray) (h0i : 0 ≤ i) (hi : i < D.kept.length) (hs : 64 < s.size) :
    Calls Try.prog 43 #[.pointer (some ⟨d, 0, none⟩), .int .i64 i, .string s] w fun e w' => e = .returned (.int .i64 2) ∧ Below w.heap.size w w' := by
  have hm := h.ok.most
  have h0 := h.c0
  have e1 : (decide (0 ≤ (i : Int)) && decide ((i : Int) < (D.kept.length : Int))) = true := by simp; omega
  have E1 := Lib.hid e1
  clear hi h0i e1
  go_enter Try.func43, Try.ntmps43
  go_wp2_with (go_at_call 54; refine (has_any d _ _ _ i w hm h0).mono ?c1)
  case c1 =>
    rintro e w1 ⟨rfl, hb⟩
    rw [E1.out]
    go_wp2
    go_ret
    exact ⟨rfl, hb⟩

/-- All blocks of the disk lie from B on. -/
def From (B d kb sb : Nat) (v : Value) : Prop := ∀ k, Foot d kb sb v k → B ≤ k
theorem From.next {B d kb sb : Nat} {v v' : Value} {w : World} (h : From B d kb sb v) (hB : B ≤ w.heap.size) (hv : v'.ownBlock = v.ownBlock ∨ ∀ k, v'.ownBlock = some k → w.heap.size ≤ k) : From B d kb sb v' := fun k hk => by
  rcases hk with rfl | rfl | rfl | hk
  · exact h _ (.inl rfl)
  · exact h _ (.inr (.inl rfl))
  · exact h _ (.inr (.inr (.inl rfl)))
  · rcases hv with hv | hv
    · exact h _ (.inr (.inr (.inr (by rw [← hv]; exact hk))))
    · exact Nat.le_trans hB (hv k hk)
theorem From.new {B d kb sb : Nat} (hd : B ≤ d) (hk : B ≤ kb) (hs : B ≤ sb) : From B d kb sb (.slice none 0 0) := fun k h => by
  rcases h with rfl | rfl | rfl | h
  · exact hd
  · exact hk
  · exact hs
  · simp [Value.ownBlock] at h
theorem From.below {B d kb sb : Nat} {v : Value} {w0 w w' : World} (h : From B d kb sb v) (hb : Below B w0 w) (hB : B ≤ w0.heap.size) (ht : Turned (Foot d kb sb v) w w') : Below B w0 w' :=
  hb.trans (ht.toBelow (Nat.le_trans hB hb.size) fun k _ hk => h k hk)

/-- The example's disk, step by step. -/
def exD : Dk := ((((Dk.new 2).write 0 [97, 98]).sync).write 0 [120, 121, 122]).crash [1]
theorem exD_seen : exD.seen[0]? = some (120 :: 98 :: List.replicate 62 0) := by decide +kernel

set_option maxRecDepth 10000 in
set_option maxHeartbeats 2000000 in
theorem shown_any (w : World) : Calls Try.prog 13 #[] w fun e w' => e = .returned (.bool true) ∧ Below w.heap.size w w' := by
  go_enter Try.func13, Try.ntmps13
  go_wp2_with fail
  refine (new_any 2 (by omega) (by omega) w).mono ?_
  rintro e w1 ⟨d, kb, sb, rfl, hD1, hb1, hd, hk, hs⟩
  go_wp2_with fail
  refine (write_any hD1 0 [97, 98] (by simp [Dk.new]) (by simp) (by simp [Dk.new]) (by simp [Dk.new])).mono ?_
  rintro e w2 ⟨rfl, v2, hD2, hT2, hv2⟩
  go_wp2_with fail
  refine (sync_any hD2 (by simp [Dk.write, Dk.new])).mono ?_
  rintro e w3 ⟨rfl, v3, hD3, hT3, hv3⟩
  go_wp2_with fail
  refine (write_any hD3 0 [120, 121, 122] (by simp [Dk.sync, length_keepAll, Dk.write, Dk.new]) (by simp) (by simp [Dk.sync]) (by simp [Dk.sync, Dk.write, Dk.new])).mono ?_
  rintro e w4 ⟨rfl, v4, hD4, hT4, hv4⟩
  go_wp2_with fail
  have hD4' : DiskAt (w4.alloc (.cells #[.int .i64 1] 3)) d kb sb v4 _ := hD4.kept' ((Turned.refl (fun _ => False) w4).alloc _) (fun _ => False.elim)
  have hz : Ints (w4.alloc (.cells #[.int .i64 1] 3)) (some ⟨w4.heap.size, 0, none⟩) [1] := fun _ => ⟨w4.heap.size, 0, rfl, fun i hi => by
    have : i = 0 := by simp at hi; omega
    subst this; simp [go_sem]⟩
  have hap : Apart (w4.alloc (.cells #[.int .i64 1] 3)) d kb sb v4 (some ⟨w4.heap.size, 0, none⟩) := fun b off e => by
    simp only [Option.some.injEq, Addr.mk.injEq] at e
    obtain ⟨rfl, -⟩ := e
    exact ⟨by simp, fun hf => by have := hD4.flt hf; omega⟩
  refine (crash_any hD4' (some ⟨w4.heap.size, 0, none⟩) [1] 1 (by simp [Dk.write]) hz hap (by decide)).mono ?_
  rintro e w5 ⟨rfl, v5, hD5, hT5, hv5⟩
  go_wp2_with fail
  refine (read_any hD5 0 _ exD_seen).mono ?_
  rintro e w6 ⟨rfl, hb6⟩
  go_wp2_with fail
  refine (new_bad 0 (by omega) w6).mono ?_
  rintro e w7 ⟨rfl, hb7⟩
  go_wp2_with fail
  go_ret
  have f1 : From w.heap.size d kb sb (.slice none 0 0) := From.new hd hk hs
  have b2 := f1.below hb1 (Nat.le_refl _) hT2
  have f2 := f1.next hb1.size hv2
  have b3 := f2.below b2 (Nat.le_refl _) hT3
  have f3 := f2.next b2.size hv3
  have b4 := f3.below b3 (Nat.le_refl _) hT4
  have f4 := f3.next b3.size hv4
  have b5 := f4.below (below_al b4 _) (Nat.le_refl _) hT5
  have e : ((⟨(120 :: 98 :: List.replicate 62 0 : List UInt8).toArray⟩ : ByteArray).extract 0 3).toList = [120, 98, 0] := by decide +kernel
  exact ⟨congrArg (fun x => Ending.returned (Value.bool x)) (by first | exact beq_iff_eq.2 e | decide +kernel), (b5.trans (hb6.mono b5.size)).trans (hb7.mono (b5.trans (hb6.mono b5.size)).size)⟩
end Go.Proofs.Ytapmppiiphbcpaa

/- Texts and lists, cut; a write, whatever it is; acts in memory. -/
namespace Go.Proofs.Ytapmppiiphbcpaa
open Go.RowKit

theorem extract_list (s : ByteArray) (k : Nat) : s.extract 0 k = ⟨(s.data.toList.take k).toArray⟩ := by
  have h : (s.extract 0 k).data = (s.data.toList.take k).toArray := by
    rw [ByteArray.data_extract]
    cases s with | mk a => cases a; simp
  cases h' : s.extract 0 k
  rw [h'] at h
  exact congrArg ByteArray.mk h

theorem text_any (s : ByteArray) (w : World) (hs : s.size ≤ 9223372036854775807) : Calls Try.prog 48 #[.string s] w fun e w' => e = .returned (.string ⟨(s.data.toList.take 70).toArray⟩) ∧ w = w' := by
  go_enter Try.func48, Try.ntmps48
  go_wp2
  case inl => go_ret; exact ⟨congrArg (fun x => Ending.returned (Value.string x)) (extract_list s 70), rfl⟩
  case inr =>
    go_ret
    have e : s.data.toList.take 70 = s.data.toList := List.take_of_length_le (by rw [Array.length_toList]; show s.size ≤ 70; omega)
    exact ⟨congrArg (fun x : List UInt8 => Ending.returned (Value.string ⟨x.toArray⟩)) e.symm, rfl⟩

def Dk.wr (D : Dk) (i : Int) (s : List UInt8) : Dk := if 0 ≤ i ∧ i < D.kept.length ∧ s.length ≤ 64 then D.write i.toNat s else D
def Dk.wrc (D : Dk) (i : Int) (s : List UInt8) : Int := if 0 ≤ i ∧ i < D.kept.length then (if s.length ≤ 64 then 0 else 2) else 10

theorem DiskPost.same {w w' : World} {d kb sb : Nat} {v : Value} {D : Dk} (h : DiskAt w d kb sb v D) {r : Value} {e : Ending} (hb : e = .returned r ∧ Below w.heap.size w w') : DiskPost w d kb sb v D r e w' :=
  ⟨hb.1, v, h.kept' (F := fun _ => False) (Turned.new hb.2) (fun _ => False.elim), Turned.new hb.2, .inl rfl⟩

theorem wr_any {w : World} {d kb sb : Nat} {v : Value} {D : Dk} (h : DiskAt w d kb sb v D) (i : Int) (s : List UInt8) (hu : D.uns.length < 1000000000000) (ho : D.ops < 1000000000000000) :
    Calls Try.prog 43 #[.pointer (some ⟨d, 0, none⟩), .int .i64 i, .string ⟨s.toArray⟩] w (DiskPost w d kb sb v (D.wr i s) (.int .i64 (D.wrc i s))) := by
  by_cases h1 : 0 ≤ i ∧ i < D.kept.length
  · by_cases h2 : s.length ≤ 64
    · have e1 : D.wr i s = D.write i.toNat s := if_pos ⟨h1.1, h1.2, h2⟩
      have e2 : D.wrc i s = 0 := by rw [Dk.wrc, if_pos h1, if_pos h2]
      rw [e1, e2]
      have := write_any h i.toNat s (by omega) h2 hu ho
      rw [Int.toNat_of_nonneg h1.1] at this
      exact this
    · have e1 : D.wr i s = D := if_neg fun hh => h2 hh.2.2
      have e2 : D.wrc i s = 2 := by rw [Dk.wrc, if_pos h1, if_neg h2]
      rw [e1, e2]
      exact (write_long h i _ h1.1 h1.2 (by show 64 < s.toArray.size; simp; omega)).mono fun e w' hb => DiskPost.same h hb
  · have e1 : D.wr i s = D := if_neg fun hh => h1 ⟨hh.1, hh.2.1⟩
    have e2 : D.wrc i s = 10 := by rw [Dk.wrc, if_neg h1]
    rw [e1, e2]
    exact (write_sector h i _ (by omega)).mono fun e w' hb => DiskPost.same h hb

/-- An act, and a list of them in memory. -/
structure A where
  act : Int
  sec : Int
  s : ByteArray
  kp : Option Addr
  kn : Nat
  kc : Nat

def Acts (w : World) (p : Option Addr) (l : List A) : Prop :=
  l ≠ [] → ∃ b off, p = some ⟨b, off, none⟩ ∧ ∀ i x, l[i]? = some x → x.s.size ≤ 9223372036854775807 ∧ w.cell? ⟨b, off + i * 4, none⟩ = some (.int .i64 x.act) ∧ w.cell? ⟨b, off + i * 4 + 1, none⟩ = some (.int .i64 x.sec)
    ∧ w.cell? ⟨b, off + i * 4 + 2, none⟩ = some (.string x.s) ∧ w.cell? ⟨b, off + i * 4 + 3, none⟩ = some (.slice x.kp x.kn x.kc)

theorem Acts.kept {w w' : World} {p : Option Addr} {l : List A} (h : Acts w p l) (hb : ∀ b off, p = some ⟨b, off, none⟩ → w'.heap[b]? = w.heap[b]?) : Acts w' p l := fun hz => by
  obtain ⟨b, off, hp, hc⟩ := h hz
  exact ⟨b, off, hp, fun i x hx => by
    have := hc i x hx
    have e : ∀ o, w'.cell? ⟨b, o, none⟩ = w.cell? ⟨b, o, none⟩ := fun o => World.cell?_of_block (w := w) (hb b off hp)
    rw [e, e, e, e]; exact this⟩
end Go.Proofs.Ytapmppiiphbcpaa

/- The disk's model alone: what is seen is what is kept, the unsynced writes laid over it. -/
namespace Go.Proofs.Ytapmppiiphbcpaa

/-- What is seen is what a sync would keep. -/
structure Dk.Inv (D : Dk) : Prop where
  seen : D.seen = keepAll D.kept (all64 D.uns)
  k64 : ∀ s ∈ D.kept, s.length = 64
  u64 : ∀ x ∈ D.uns, x.1 < D.kept.length ∧ x.2.length = 64

theorem tear_all {bs old : List UInt8} (hb : bs.length = 64) (ho : old.length = 64) : tear bs old 64 = bs := by
  simp [tear, hb, ho, List.take_of_length_le, List.drop_of_length_le]

theorem Dk.Inv.new (n : Nat) : (Dk.new n).Inv := ⟨rfl, fun s hs => by obtain ⟨-, rfl⟩ := List.mem_replicate.1 hs; rfl, fun x hx => nomatch hx⟩

theorem Dk.Inv.length {D : Dk} (h : D.Inv) : D.seen.length = D.kept.length := by rw [h.seen, length_keepAll]

theorem Dk.Inv.write {D : Dk} (h : D.Inv) (i : Nat) (s : List UInt8) (hi : i < D.kept.length) (hs : s.length ≤ 64) : (D.write i s).Inv := by
  refine ⟨?_, h.k64, fun x hx => ?_⟩
  · show D.seen.set i (pad s) = keepAll D.kept (all64 (D.uns ++ [(i, pad s)]))
    have e : all64 (D.uns ++ [(i, pad s)]) = all64 D.uns ++ [((i, pad s), 64)] := by simp [all64]
    rw [e, keepAll_snoc, ← h.seen]
    have hl : (D.seen.getD i []).length = 64 := by
      have hm : D.seen.getD i [] ∈ D.seen := by
        have : i < D.seen.length := by rw [h.length]; exact hi
        simp [List.getD, this]
      rw [h.seen] at hm ⊢
      exact keepAll_64 (all64 D.uns) (fun x hx => by
        simp only [all64, List.mem_map] at hx
        obtain ⟨y, hy, rfl⟩ := hx
        exact ⟨(h.u64 y hy).2, Nat.le_refl _⟩) D.kept (fun x hx => by
        simp only [all64, List.mem_map] at hx
        obtain ⟨y, hy, rfl⟩ := hx
        exact (h.u64 y hy).1) h.k64 _ hm
    show _ = D.seen.set i (tear (pad s) _ 64)
    rw [tear_all (length_pad hs) hl]
  · rcases List.mem_append.1 hx with hx | hx
    · exact h.u64 x hx
    · obtain rfl := List.mem_singleton.1 hx
      exact ⟨hi, length_pad hs⟩

theorem Dk.Inv.wr {D : Dk} (h : D.Inv) (i : Int) (s : List UInt8) : (D.wr i s).Inv := by
  unfold Dk.wr
  split
  · rename_i hh
    exact h.write _ _ (by omega) hh.2.2
  · exact h

theorem Dk.Inv.sync {D : Dk} (h : D.Inv) : D.sync.Inv := by
  refine ⟨?_, ?_, fun x hx => nomatch hx⟩
  · show D.seen = keepAll D.kept (all64 D.uns)
    exact h.seen
  · exact keepAll_64 (all64 D.uns) (fun x hx => by
      simp only [all64, List.mem_map] at hx
      obtain ⟨y, hy, rfl⟩ := hx
      exact ⟨(h.u64 y hy).2, Nat.le_refl _⟩) D.kept (fun x hx => by
      simp only [all64, List.mem_map] at hx
      obtain ⟨y, hy, rfl⟩ := hx
      exact (h.u64 y hy).1) h.k64

/-- A sync keeps what is seen. -/
theorem Dk.Inv.sync_kept {D : Dk} (h : D.Inv) : D.sync.kept = D.seen := h.seen.symm

theorem fallAll_id (S : List (List UInt8)) : ∀ l : List (Nat × List UInt8), fallAll S S l = S
  | [] => rfl
  | x :: l => by
    show fallAll S (S.set x.1 (S.getD x.1 [])) l = S
    have e : S.set x.1 (S.getD x.1 []) = S := by
      apply List.ext_getElem?
      intro j
      rw [List.getElem?_set]
      split
      · rename_i hj; subst hj
        split
        · rename_i hlt; simp [List.getD, hlt]
        · rename_i hlt; rw [List.getElem?_eq_none (by omega)]
      · rfl
    rw [e]
    exact fallAll_id S l

/-- A crash that keeps all of all is a sync: what is seen stays. -/
theorem Dk.Inv.crash_all {D : Dk} (h : D.Inv) : (D.crash (List.replicate D.uns.length 64)).seen = D.seen := by
  have e : D.uns.zip ((List.replicate D.uns.length (64 : Int)).map Int.toNat) = all64 D.uns := by
    rw [List.map_replicate]
    show D.uns.zip (List.replicate D.uns.length 64) = D.uns.map fun x => (x, 64)
    generalize D.uns = l
    induction l with
    | nil => rfl
    | cons x l ih => simp only [List.length_cons, List.replicate_succ, List.zip_cons_cons, List.map_cons, ih]
  show fallAll (keepAll D.kept (D.uns.zip _)) D.seen D.uns = D.seen
  rw [e, ← h.seen]
  exact fallAll_id _ _

theorem keepAll_get (i : Nat) : ∀ (l : List (Nat × List UInt8)) (K : List (List UInt8)), (∀ x ∈ l, x.1 ≠ i) → (keepAll K (all64 l))[i]? = K[i]?
  | [], _, _ => rfl
  | x :: l, K, h => by
    show (keepAll (K.set x.1 _) (all64 l))[i]? = _
    rw [keepAll_get i l _ fun y hy => h y (List.mem_cons_of_mem _ hy), List.getElem?_set_ne (h x List.mem_cons_self)]

theorem fallAll_at (kept : List (List UInt8)) (i : Nat) : ∀ (l : List (Nat × List UInt8)) (S : List (List UInt8)), S.length = kept.length → (∃ x ∈ l, x.1 = i) → (fallAll kept S l)[i]? = kept[i]?
  | [], _, _, h => by obtain ⟨x, hx, -⟩ := h; cases hx
  | x :: l, S, hl, h => by
    show (fallAll kept (S.set x.1 (kept.getD x.1 [])) l)[i]? = _
    by_cases hm : ∃ y ∈ l, y.1 = i
    · exact fallAll_at kept i l _ (by simp [hl]) hm
    · have hx : x.1 = i := by
        obtain ⟨y, hy, he⟩ := h
        rcases List.mem_cons.1 hy with rfl | hy
        · exact he
        · exact absurd ⟨y, hy, he⟩ hm
      have hg : ∀ (l : List (Nat × List UInt8)) (S : List (List UInt8)), (∀ y ∈ l, y.1 ≠ i) → (fallAll kept S l)[i]? = S[i]? := by
        intro l
        induction l with
        | nil => exact fun _ _ => rfl
        | cons z l ih =>
          intro S hz
          show (fallAll kept (S.set z.1 _) l)[i]? = _
          rw [ih _ fun y hy => hz y (List.mem_cons_of_mem _ hy), List.getElem?_set_ne (hz z List.mem_cons_self)]
      rw [hg l _ fun y hy e => hm ⟨y, hy, e⟩]
      subst hx
      by_cases hlt : x.1 < kept.length
      · simp [List.getD, hlt, hl]
      · rw [List.getElem?_eq_none (by simp; omega), List.getElem?_eq_none (by omega)]

/-- A crash that keeps nothing: what was kept is seen. -/
theorem Dk.Inv.crash_none {D : Dk} (h : D.Inv) : (D.crash []).seen = D.kept := by
  have e : crashKept D [] = D.kept := by simp [crashKept, keepAll]
  show fallAll (crashKept D []) D.seen D.uns = D.kept
  rw [e]
  apply List.ext_getElem?
  intro i
  by_cases hm : ∃ x ∈ D.uns, x.1 = i
  · exact fallAll_at D.kept i D.uns D.seen h.length hm
  · have hg : ∀ (l : List (Nat × List UInt8)) (S : List (List UInt8)), (∀ y ∈ l, y.1 ≠ i) → (fallAll D.kept S l)[i]? = S[i]? := by
      intro l
      induction l with
      | nil => exact fun _ _ => rfl
      | cons z l ih =>
        intro S hz
        show (fallAll D.kept (S.set z.1 _) l)[i]? = _
        rw [ih _ fun y hy => hz y (List.mem_cons_of_mem _ hy), List.getElem?_set_ne (hz z List.mem_cons_self)]
    have hn : ∀ y ∈ D.uns, y.1 ≠ i := fun y hy e => hm ⟨y, hy, e⟩
    rw [hg _ _ hn, h.seen, keepAll_get i _ _ hn]

/-- What is seen behind a write hangs on what was seen alone. -/
theorem wr_seen {D D' : Dk} (hs : D.seen = D'.seen) (hk : D.kept.length = D'.kept.length) (i : Int) (s : List UInt8) : (D.wr i s).seen = (D'.wr i s).seen := by
  unfold Dk.wr
  rw [hk]
  split
  · show D.seen.set _ _ = D'.seen.set _ _; rw [hs]
  · exact hs
theorem wr_keeps (D : Dk) (i : Int) (s : List UInt8) : (D.wr i s).kept = D.kept := by unfold Dk.wr; split <;> rfl
end Go.Proofs.Ytapmppiiphbcpaa

/- The disk's model: what a read of the last write to a sector tells. -/
namespace Go.Proofs.Ytapmppiiphbcpaa

theorem keepAll_append (K : List (List UInt8)) (a b : List ((Nat × List UInt8) × Nat)) : keepAll K (a ++ b) = keepAll (keepAll K a) b := by simp [keepAll]

theorem seen_last {D : Dk} (h : D.Inv) {k : Nat} {x : Nat × List UInt8} (hk : D.uns[k]? = some x) (hn : ∀ (j : Nat) (y : Nat × List UInt8), k < j → D.uns[j]? = some y → y.1 ≠ x.1) : D.seen[x.1]? = some x.2 := by
  obtain ⟨hl, hx⟩ := List.getElem?_eq_some_iff.1 hk
  have e : D.uns = D.uns.take k ++ ([x] ++ D.uns.drop (k + 1)) := by
    rw [← hx, List.singleton_append, ← List.drop_eq_getElem_cons hl, List.take_append_drop]
  have hm : x ∈ D.uns := by rw [← hx]; exact List.getElem_mem hl
  have hu := h.u64 x hm
  have hd : ∀ y ∈ D.uns.drop (k + 1), y.1 ≠ x.1 := fun y hy => by
    obtain ⟨j, hj, he⟩ := List.mem_iff_getElem.1 hy
    refine hn (k + 1 + j) y (by omega) ?_
    rw [List.getElem_drop] at he
    rw [← he]
    exact List.getElem?_eq_getElem _
  have ea : all64 D.uns = all64 (D.uns.take k) ++ ([(x, 64)] ++ all64 (D.uns.drop (k + 1))) := by
    have := congrArg all64 e
    rw [this]
    simp [all64]
  rw [h.seen, ea, keepAll_append, keepAll_append, keepAll_get _ _ _ hd]
  have hlen : (keepAll D.kept (all64 (D.uns.take k))).length = D.kept.length := length_keepAll _ _
  have h64 : ((keepAll D.kept (all64 (D.uns.take k))).getD x.1 []).length = 64 := by
    have hmem : (keepAll D.kept (all64 (D.uns.take k))).getD x.1 [] ∈ keepAll D.kept (all64 (D.uns.take k)) := by
      have : x.1 < (keepAll D.kept (all64 (D.uns.take k))).length := by rw [hlen]; exact hu.1
      simp [List.getD, this]
    exact keepAll_64 (all64 (D.uns.take k)) (fun y hy => by
      simp only [all64, List.mem_map] at hy
      obtain ⟨z, hz, rfl⟩ := hy
      exact ⟨(h.u64 z (List.mem_of_mem_take hz)).2, Nat.le_refl _⟩) D.kept (fun y hy => by
      simp only [all64, List.mem_map] at hy
      obtain ⟨z, hz, rfl⟩ := hy
      exact (h.u64 z (List.mem_of_mem_take hz)).1) h.k64 _ hmem
  show ((keepAll D.kept (all64 (D.uns.take k))).set x.1 (tear x.2 ((keepAll D.kept (all64 (D.uns.take k))).getD x.1 []) 64))[x.1]? = some x.2
  rw [tear_all hu.2 h64, List.getElem?_set_self (by rw [hlen]; exact hu.1)]

theorem seen_kept {D : Dk} (h : D.Inv) (i : Nat) (hn : ∀ (j : Nat) (y : Nat × List UInt8), D.uns[j]? = some y → y.1 ≠ i) : D.seen[i]? = D.kept[i]? := by
  rw [h.seen]
  exact keepAll_get i D.uns D.kept fun x hx => by
    obtain ⟨j, hj, he⟩ := List.mem_iff_getElem.1 hx
    exact hn j x (by rw [← he]; exact List.getElem?_eq_getElem hj)

theorem keepAll_get' (i : Nat) : ∀ (l : List ((Nat × List UInt8) × Nat)) (K : List (List UInt8)), (∀ x ∈ l, x.1.1 ≠ i) → (keepAll K l)[i]? = K[i]?
  | [], _, _ => rfl
  | x :: l, K, h => by
    show (keepAll (K.set x.1.1 _) l)[i]? = _
    rw [keepAll_get' i l _ fun y hy => h y (List.mem_cons_of_mem _ hy), List.getElem?_set_ne (h x List.mem_cons_self)]
theorem fallAll_get (kept : List (List UInt8)) (i : Nat) : ∀ (l : List (Nat × List UInt8)) (S : List (List UInt8)), (∀ y ∈ l, y.1 ≠ i) → (fallAll kept S l)[i]? = S[i]?
  | [], _, _ => rfl
  | x :: l, S, h => by
    show (fallAll kept (S.set x.1 _) l)[i]? = _
    rw [fallAll_get kept i l _ fun y hy => h y (List.mem_cons_of_mem _ hy), List.getElem?_set_ne (h x List.mem_cons_self)]

/-- Behind a crash, too, what is seen is what a sync would keep. -/
theorem Dk.Inv.crash {D : Dk} (h : D.Inv) (zs : List Int) (hz : ∀ z ∈ zs, 0 ≤ z ∧ z ≤ 64) : (D.crash zs).Inv := by
  have hlen : (crashKept D zs).length = D.kept.length := by unfold crashKept; exact length_keepAll _ _
  have hmem : ∀ x ∈ D.uns.zip (zs.map Int.toNat), x.1 ∈ D.uns ∧ x.2 ≤ 64 := fun x hx => by
    have h1 := List.of_mem_zip (a := x.1) (b := x.2) (by simpa using hx)
    obtain ⟨z, hzm, hze⟩ := List.mem_map.1 h1.2
    have := hz z hzm
    exact ⟨h1.1, by omega⟩
  refine ⟨?_, ?_, fun x hx => nomatch hx⟩
  · show fallAll (crashKept D zs) D.seen D.uns = crashKept D zs
    apply List.ext_getElem?
    intro i
    by_cases hm : ∃ x ∈ D.uns, x.1 = i
    · exact fallAll_at (crashKept D zs) i D.uns D.seen (by rw [h.length, hlen]) hm
    · have hno : ∀ y ∈ D.uns, y.1 ≠ i := fun y hy e => hm ⟨y, hy, e⟩
      rw [fallAll_get _ i D.uns D.seen hno, seen_kept h i (fun j y hj => hno y (List.mem_of_getElem? hj))]
      unfold crashKept
      rw [keepAll_get' i _ _ fun x hx => hno _ (hmem x hx).1]
  · show ∀ s ∈ crashKept D zs, s.length = 64
    unfold crashKept
    exact keepAll_64 _ (fun x hx => ⟨(h.u64 _ (hmem x hx).1).2, (hmem x hx).2⟩) D.kept (fun x hx => (h.u64 _ (hmem x hx).1).1) h.k64
end Go.Proofs.Ytapmppiiphbcpaa

/- The plain disk of the document's answer, and its Read. -/
namespace Go.Proofs.Ytapmppiiphbcpaa
open Go Go.RowKit

structure Veil (p : Prop) : Prop where
  out : p

def sv (s : List UInt8) : Value := .string ⟨s.toArray⟩
/-- The plain disk at block r: what is kept, the unsynced writes' sectors, their bytes. -/
structure RefAt (w : World) (r : Nat) (vs vw vb : Value) (D : Dk) : Prop where
  box : w.heap[r]? = some (.cells #[vs, vw, vb, .int .i64 D.ops] 39 (0, 0))
  s : w.ownsRow 0 9 1 vs D.kept.length (D.kept.map sv)
  u : w.ownsRow 0 3 1 vw D.uns.length (D.uns.map atv)
  b : w.ownsRow 0 9 1 vb D.uns.length (D.uns.map fun x => sv x.2)
  rs : vs.ownBlock ≠ some r
  ru : vw.ownBlock ≠ some r
  rb : vb.ownBlock ≠ some r
  su : ∀ k, vs.ownBlock = some k → vw.ownBlock ≠ some k
  sb : ∀ k, vs.ownBlock = some k → vb.ownBlock ≠ some k
  ub : ∀ k, vw.ownBlock = some k → vb.ownBlock ≠ some k

theorem row_form {w : World} {base e size n : Nat} {v : Value} {xs : List Value} (h : w.ownsRow base e size v n xs) : ∃ p cap, v = .slice p n cap ∧ (0 < n → ∃ g, p = some ⟨g, 0, none⟩ ∧ ∀ i u, xs[i]? = some u → w.cell? ⟨g, i, none⟩ = some u) := by
  rcases h.2 with ⟨h1, h2⟩ | ⟨g, cap, cur, hv, _⟩
  · exact ⟨none, 0, by rw [h1, h2], fun hn => by omega⟩
  · refine ⟨_, cap, hv, fun _ => ⟨g, rfl, fun i u hi => ?_⟩⟩
    have hc := h.cells (g := g) (by rw [hv]; rfl) i u hi
    rwa [Addr.add_mid, Nat.zero_add] at hc

section
variable {w : World} {r : Nat} {vs vw vb : Value} {D : Dk} (h : RefAt w r vs vw vb D)
include h
theorem RefAt.c0 : w.cell? ⟨r, 0, none⟩ = some vs := by simp [World.cell?, h.box]
theorem RefAt.c1 : w.cell? ⟨r, 1, none⟩ = some vw := by simp [World.cell?, h.box]
theorem RefAt.c2 : w.cell? ⟨r, 2, none⟩ = some vb := by simp [World.cell?, h.box]
theorem RefAt.c3 : w.cell? ⟨r, 3, none⟩ = some (.int .i64 D.ops) := by simp [World.cell?, h.box]
theorem RefAt.fz (o : Nat) : w.frozen? ⟨r, o, none⟩ = false := by simp [World.frozen?, h.box]
end

/-- The answer of a read. -/
def readR (D : Dk) (x : Int) : Value := if 0 ≤ x ∧ x < D.kept.length then .tuple #[sv (D.seen.getD x.toNat []), .int .i64 0] else .tuple #[.string ⟨#[]⟩, .int .i64 10]

set_option maxRecDepth 10000 in
set_option maxHeartbeats 1000000 in
theorem rread_out {w : World} {r : Nat} {vs vw vb : Value} {D : Dk} (h : RefAt w r vs vw vb D) (x : Int) (hx : x < 0 ∨ (0 ≤ x ∧ (D.kept.length : Int) ≤ x)) :
    Calls Try.prog 22 #[.pointer (some ⟨r, 0, none⟩), .int .i64 x] w fun e w' => e = .returned (.tuple #[.string ⟨#[]⟩, .int .i64 10]) ∧ w = w' := by
  obtain ⟨p, cap, rfl, -⟩ := row_form h.s
  have hc := h.c0
  clear h
  go_enter Try.func22, Try.ntmps22
  rcases hx with hx | ⟨h0, hx⟩
  · go_wp2
    go_ret2
    exact ⟨rfl, rfl⟩
  · go_wp2
    go_ret2
    exact ⟨rfl, rfl⟩

set_option maxRecDepth 10000 in
set_option maxHeartbeats 1000000 in
theorem rread_in {w : World} {r : Nat} {vs vw vb : Value} {D : Dk} (h : RefAt w r vs vw vb D) (hi : D.Inv) (k : Nat) (hk : k < D.kept.length) (hm : Veil (D.uns.length ≤ 1000000)) (R : Value) (hR : Veil (sv (D.seen.getD k []) = R)) :
    Calls Try.prog 22 #[.pointer (some ⟨r, 0, none⟩), .int .i64 k] w fun e w' => e = .returned (.tuple #[R, .int .i64 0]) ∧ w = w' := by
  obtain ⟨ps, cs, rfl, hs⟩ := row_form h.s
  obtain ⟨pw, cw, rfl, hw⟩ := row_form h.u
  obtain ⟨pb, cb, rfl, hb⟩ := row_form h.b
  have c0 := h.c0
  have c1 := h.c1
  have c2 := h.c2
  obtain ⟨gs, rfl, hs'⟩ := hs (by omega)
  have ck : w.cell? ⟨gs, k, none⟩ = some (sv D.kept[k]) := hs' k _ (by simp [hk])
  have hw1 : wrap64 ((D.uns.length : Int) - 1) = (D.uns.length : Int) - 1 := by have := hm.out; unfold wrap64; omega
  have HI : Veil _ := ⟨hi⟩
  have HW : Veil _ := ⟨hw⟩
  have HB : Veil _ := ⟨hb⟩
  clear h hi hw hb hs hs'
  go_enter Try.func22, Try.ntmps22
  go_wp2
  go_loop [6] (fun i => ∃ j : Nat, j ≤ D.uns.length ∧ i = .int .i64 ((j : Int) - 1) ∧ Veil (∀ (m : Nat) (y : Nat × List UInt8), j ≤ m → D.uns[m]? = some y → y.1 ≠ k)) (fun i => (intOf i + 1).toNat)
  case atStart => exact ⟨D.uns.length, Nat.le_refl _, by rw [hw1], ⟨fun m y hm hy => by rw [List.getElem?_eq_none hm] at hy; cases hy⟩⟩
  case round =>
    obtain ⟨j, hj, rfl, hn⟩ := hrel
    cases j with
    | zero =>
      have hz : D.seen.getD k [] = D.kept[k] := by
        have := seen_kept HI.out k (fun m y hy => hn.out m y (Nat.zero_le _) hy)
        simp [List.getD, this, hk]
      have HZ : Veil _ := ⟨hz⟩
      clear hz
      go_wp2
      go_ret2
      exact ⟨by rw [← hR.out, HZ.out]; rfl, rfl⟩
    | succ j =>
      have hlt : j < D.uns.length := by omega
      obtain ⟨gw, rfl, hw⟩ := HW.out (by omega)
      obtain ⟨gb, rfl, hb⟩ := HB.out (by omega)
      have cwj : w.cell? ⟨gw, j, none⟩ = some (.int .i64 (D.uns[j].1 : Nat)) := hw j _ (by simp [hlt, atv])
      have cbj : w.cell? ⟨gb, j, none⟩ = some (.string ⟨D.uns[j].2.toArray⟩) := hb j _ (by simp [hlt, sv])
      have hj1 : (((j + 1 : Nat) : Int) - 1) = (j : Int) := by omega
      rw [hj1]
      clear hw hb
      by_cases he : D.uns[j].1 = k
      · have hz : D.seen.getD k [] = D.uns[j].2 := by
          have := seen_last HI.out (k := j) (x := D.uns[j]) (List.getElem?_eq_getElem hlt) (fun m y hm hy => by rw [he]; exact hn.out m y (by omega) hy)
          rw [he] at this
          simp [List.getD, this]
        have HZ : Veil _ := ⟨hz⟩
        rw [he] at cwj
        clear hz he
        go_wp2
        go_ret2
        exact ⟨by rw [← hR.out, HZ.out]; rfl, rfl⟩
      · have hne : ((D.uns[j].1 : Nat) : Int) ≠ (k : Int) := by omega
        have hw2 : wrap64 ((j : Int) - 1) = (j : Int) - 1 := by have := hm.out; unfold wrap64; omega
        have HE : Veil _ := ⟨he⟩
        clear he
        go_wp2
        have hn2 : Veil (∀ (m : Nat) (y : Nat × List UInt8), j ≤ m → D.uns[m]? = some y → y.1 ≠ k) := ⟨fun m y hm' hy => by
          by_cases hmj : m = j
          · subst hmj
            rw [List.getElem?_eq_getElem hlt] at hy
            cases hy
            exact HE.out
          · exact hn.out m y (by omega) hy⟩
        refine ⟨⟨j, by omega, by first | rfl | rw [hw2], hn2⟩, ?_⟩
        simp [intOf]
        omega

theorem rread_any {w : World} {r : Nat} {vs vw vb : Value} {D : Dk} (h : RefAt w r vs vw vb D) (hi : D.Inv) (x : Int) (hm : D.uns.length ≤ 1000000) :
    Calls Try.prog 22 #[.pointer (some ⟨r, 0, none⟩), .int .i64 x] w fun e w' => e = .returned (readR D x) ∧ w = w' := by
  unfold readR
  by_cases hx : 0 ≤ x ∧ x < D.kept.length
  · rw [if_pos hx]
    have := rread_in h hi x.toNat (by omega) ⟨hm⟩ _ ⟨rfl⟩
    rwa [show ((x.toNat : Nat) : Int) = x by omega] at this
  · rw [if_neg hx]
    exact rread_out h x (by omega)
end Go.Proofs.Ytapmppiiphbcpaa
