/- The walks of show, keep, fall. -/
import Derived.Deep.QuietTactic
import Derived.BigQuiet
import Derived.Test.YtapmppiiphbcpaaKD1
import Derived.Test.YtapmppiiphbcpaaKG
namespace Go.Proofs.Ytapmppiiphbcpaa
open Go.RowKit

theorem und69 : Try.prog.underlying 100 = some (.array 64 5) := by kernel_rfl
theorem siz69 : (Try.prog.info? 100).map (·.size) = some 64 := by kernel_rfl
theorem siz71 : (Try.prog.info? 102).map (·.size) = some 65 := by kernel_rfl

/-- a[:n] of an array behind a pointer. -/
theorem sl69 (w : World) (a : Addr) (n : Nat) (hn : n ≤ 64) : (Instr.sliceAt 100 (.pointer (some a)) none (some (.int .i64 n)) none).run Try.prog w = .ok (.slice (some a) n 64) w := by
  have e0 : Try.prog.arrayLen 100 = 64 := by kernel_rfl
  have h := run_sliceAt_array_h (P := Try.prog) w 100 a (by kernel_rfl) .i64 n (by omega) (by rw [e0]; omega)
  rw [h]
  have e2 : (sizeOf (Try.prog.elem 100)).run Try.prog w = .ok 1 w := by kernel_rfl
  rw [e2]
  simp [Result.andThen, slicedAt, e0, Addr.add]

/-- A load of a whole array, one step of a region that draws. -/
theorem wpStill_load_mid {P : Program} {ops : Array Oper} {rest : List Oper} {op : Oper} {a : Act} {w : World} {L : Act → Prop} (hgd : op.guard = none) (ty : TypeId) (x : Operand) (ho : op.op = .load ty x)
    (b o : Nat) (hx : a.eval x = .pointer (some ⟨b, o, none⟩)) (cs : List Value) (d : TypeDesc) (hc : w.rangeAt b o cs)
    (hu : P.underlying ty = some d) (hd : d.isRow = true) (hi : (P.info? ty).map (·.size) = some cs.length)
    (h : wpStill P ops w L rest (a.put op.dst (.agg cs.toArray))) : wpStill P ops w L (op :: rest) a := by
  refine wpStill_step fun K hK => ?_
  rw [if_pos (by simp [Region.wanted, hgd])]
  unfold Oper.still execOp
  simp only [ho, hx, Instr.loadAt, Instr.sureAddr, Sem.run_bind, Sem.run_pure, Result.andThen_ok, run_loadVar_mid w b o ty cs d hc hu hd hi]
  exact ⟨rfl, hK _ h⟩

/-- What show leaves. -/
def ShowPost (w : World) (d kb sb : Nat) (v : Value) (D : Dk) (e : Ending) (w' : World) : Prop := e = .returned (.tuple #[]) ∧ DiskAt w' d kb sb v D ∧ Turned (· = sb) w w'

theorem Dk.Ok.set {D : Dk} (h : D.Ok) (i : Nat) {bs : List UInt8} (hb : bs.length = 64) : ({ D with seen := D.seen.set i bs } : Dk).Ok :=
  { h with
    len := by simp [h.len]
    s64 := fun s hs => by
      rcases List.mem_or_eq_of_mem_set hs with hs | rfl
      · exact h.s64 s hs
      · exact hb }

set_option maxRecDepth 10000 in
set_option maxHeartbeats 400000 in
theorem show_any {w : World} {d kb sb : Nat} {v : Value} {D : Dk} (h : DiskAt w d kb sb v D) (at_ : Nat) (bs : List UInt8) (ha : at_ < D.kept.length) (hb : bs.length = 64) :
    Calls Try.prog 72 #[.pointer (some ⟨d, 0, none⟩), .agg (wcells (at_, bs)).toArray] w (ShowPost w d kb sb v { D with seen := D.seen.set at_ bs }) := by
  have hm := h.ok.most
  go_enter Try.func72, Try.ntmps72
  go_wp2
  have hT : Turned (fun _ => False) w (w.alloc (.cells (wcells (at_, bs)).toArray 102)) := (Turned.refl _ w).alloc _
  have hD := h.kept' hT (fun _ => False.elim)
  have hbox : (w.alloc (.cells (wcells (at_, bs)).toArray 102)).heap[w.heap.size]? = some (.cells (wcells (at_, bs)).toArray 102 (0, 0)) := heap_alloc_new _ _
  have hsz : sb ≠ w.heap.size := by have := h.slt; omega
  generalize w.alloc (.cells (wcells (at_, bs)).toArray 102) = W at *
  generalize w.heap.size = B at *
  have e1 : W.drew.cell? ⟨d, 1, none⟩ = _ := hD.c1
  have e2 : W.drew.cell? ⟨B, 0, none⟩ = some (.int .i64 at_) := by rw [World.cell?_drew, cell_whole hbox]; rfl
  have hr : W.drew.rangeAt B 1 (u8s bs) := by
    have := rangeAt_whole hbox 1 64
    rw [show ((wcells (at_, bs)).drop 1).take 64 = u8s bs by simp [wcells]; rw [List.take_of_length_le (by rw [length_u8s]; omega)]] at this
    exact this
  have hD' : DiskAt W.drew d kb sb v D := hD.kept' ((Turned.refl (fun _ => False) W).drew) (fun _ => False.elim)
  have hT' : Turned (fun _ => False) w W.drew := hT.drew
  clear h hT hD hbox
  obtain ⟨W2, hW2⟩ : ∃ W2, W.drew = W2 := ⟨_, rfl⟩
  refine region_tail 8 (by kernel_rfl) (by kernel_rfl) W2 hW2 ?_
  rw [hW2] at e1 e2 hr hD' hT'
  clear hW2
  simp only [List.take_succ_cons, List.take_zero, List.drop_succ_cons, List.drop_zero]
  iterate 7 still_step
  refine wpStill_load_mid rfl 100 (.tmp 10) rfl B 1 rfl (u8s bs) _ hr und69 rfl (by rw [length_u8s, hb]; exact siz69) ?_
  refine wpStill_nil ?_
  have ht := there_whole hD'.seen (at_ * 64) 64 (by rw [rows, length_rows hD'.len_s]; simp [hD'.ok.len]; omega)
  go_wp2_with (refine wpList_store_mid rfl 100 (.tmp 12) (.tmp 11) rfl sb (at_ * 64) (u8s bs).toArray rfl rfl ?c1 ?c2 (all_oneCell_toArray (oneCell_u8s bs)) ?c3)
  case c1 => simpa [length_u8s, hb] using ht
  case c2 => simp only [List.size_toArray, length_u8s, hb]; exact siz69
  case c3 =>
    go_end0
    refine ⟨rfl, ?_, (hT'.wider (fun _ _ h => h.elim)).setCells (at_ * 64) (u8s bs) rfl⟩
    have hk := (Turned.refl (· = sb) W2).setCells (at_ * 64) (u8s bs) rfl
    refine ⟨hD'.ok.set at_ hb, hk.heap hD'.box hD'.ds, hk.heap hD'.kept hD'.ks, ?_, hk.ownsRow hD'.uns (fun k hk e => hD'.sv (by rw [hk, e])), hD'.dk, hD'.ds, hD'.ks, hD'.dv, hD'.kv, hD'.sv⟩
    rw [heap_setCells_same sb _ _ _ _ _ _ hD'.seen (by rw [rows, length_rows hD'.len_s, length_u8s]; simp [hD'.ok.len]; omega)]
    rw [rows, splice_row hD'.len_s at_ _ (by simp [hD'.ok.len]; omega) (by rw [length_u8s, hb]), rows, List.map_set]

/-- What fall leaves. -/
theorem Dk.Ok.fall {D : Dk} (h : D.Ok) (i : Nat) {bs : List UInt8} (hb : bs.length = 64) : ({ D with seen := D.seen.set i bs } : Dk).Ok := h.set i hb

set_option maxRecDepth 10000 in
set_option maxHeartbeats 400000 in
theorem fall_any {w : World} {d kb sb : Nat} {v : Value} {D : Dk} (h : DiskAt w d kb sb v D) (at_ : Nat) (bs : List UInt8) (ha : D.kept[at_]? = some bs) :
    Calls Try.prog 74 #[.pointer (some ⟨d, 0, none⟩), .int .i64 at_] w (ShowPost w d kb sb v { D with seen := D.seen.set at_ bs }) := by
  have hm := h.ok.most
  have hat : at_ < D.kept.length := (List.getElem?_eq_some_iff.1 ha).1
  have hb : bs.length = 64 := h.ok.k64 bs (List.mem_of_getElem? ha)
  have e1 : w.drew.cell? ⟨d, 1, none⟩ = _ := h.c1
  have e0 : w.drew.cell? ⟨d, 0, none⟩ = _ := h.c0
  have hr : w.drew.rangeAt kb (at_ * 64) (u8s bs) := by
    have := rangeAt_whole h.kept (at_ * 64) 64
    rw [rows, row_at h.len_k at_ (u8s bs) (by simp [ha])] at this
    exact this
  have hD' : DiskAt w.drew d kb sb v D := h.kept' ((Turned.refl (fun _ => False) w).drew) (fun _ => False.elim)
  have hT' : Turned (fun _ => False) w w.drew := (Turned.refl _ w).drew
  clear h ha
  go_enter Try.func74, Try.ntmps74
  go_wp2
  obtain ⟨W2, hW2⟩ : ∃ W2, w.drew = W2 := ⟨_, rfl⟩
  refine region_tail 12 (by kernel_rfl) (by kernel_rfl) W2 hW2 ?_
  rw [hW2] at e1 e0 hr hD' hT'
  clear hW2
  simp only [List.take_succ_cons, List.take_zero, List.drop_succ_cons, List.drop_zero]
  iterate 11 still_step
  refine wpStill_load_mid rfl 100 (.tmp 14) rfl kb (at_ * 64) rfl (u8s bs) _ hr und69 rfl (by rw [length_u8s, hb]; exact siz69) ?_
  refine wpStill_nil ?_
  have ht := there_whole hD'.seen (at_ * 64) 64 (by rw [rows, length_rows hD'.len_s]; simp [hD'.ok.len]; omega)
  go_wp2_with (refine wpList_store_mid rfl 100 (.tmp 16) (.tmp 15) rfl sb (at_ * 64) (u8s bs).toArray rfl rfl ?c1 ?c2 (all_oneCell_toArray (oneCell_u8s bs)) ?c3)
  case c1 => simpa [length_u8s, hb] using ht
  case c2 => simp only [List.size_toArray, length_u8s, hb]; exact siz69
  case c3 =>
    go_end0
    refine ⟨rfl, ?_, (hT'.wider (fun _ _ h => h.elim)).setCells (at_ * 64) (u8s bs) rfl⟩
    have hk := (Turned.refl (· = sb) W2).setCells (at_ * 64) (u8s bs) rfl
    refine ⟨hD'.ok.set at_ hb, hk.heap hD'.box hD'.ds, hk.heap hD'.kept hD'.ks, ?_, hk.ownsRow hD'.uns (fun k hk e => hD'.sv (by rw [hk, e])), hD'.dk, hD'.ds, hD'.ks, hD'.dv, hD'.kv, hD'.sv⟩
    rw [heap_setCells_same sb _ _ _ _ _ _ hD'.seen (by rw [rows, length_rows hD'.len_s, length_u8s]; simp [hD'.ok.len]; omega)]
    rw [rows, splice_row hD'.len_s at_ _ (by simp [hD'.ok.len]; omega) (by rw [length_u8s, hb]), rows, List.map_set]

/-- What keep leaves. -/
def KeepPost (w : World) (d kb sb : Nat) (v : Value) (D : Dk) (e : Ending) (w' : World) : Prop := e = .returned (.tuple #[]) ∧ DiskAt w' d kb sb v D ∧ Turned (· = kb) w w'

theorem Dk.Ok.keep {D : Dk} (h : D.Ok) (i : Nat) {bs : List UInt8} (hb : bs.length = 64) : ({ D with kept := D.kept.set i bs } : Dk).Ok :=
  { h with
    len := by simp [h.len]
    most := by simpa using h.most
    some := by simpa using h.some
    k64 := fun s hs => by
      rcases List.mem_or_eq_of_mem_set hs with hs | rfl
      · exact h.k64 s hs
      · exact hb
    u64 := by simpa using h.u64 }

/-- The first n bytes of a write over what was there. -/
def tear (bs old : List UInt8) (n : Nat) : List UInt8 := bs.take n ++ old.drop n
theorem length_tear {bs old : List UInt8} {n : Nat} (hb : bs.length = 64) (ho : old.length = 64) (hn : n ≤ 64) : (tear bs old n).length = 64 := by simp [tear]; omega

set_option maxRecDepth 10000 in
set_option maxHeartbeats 400000 in
theorem keep_any {w : World} {d kb sb : Nat} {v : Value} {D : Dk} (h : DiskAt w d kb sb v D) (at_ : Nat) (bs old : List UInt8) (n : Nat) (ho : D.kept[at_]? = some old) (hb : bs.length = 64) (hn : n ≤ 64) :
    Calls Try.prog 73 #[.pointer (some ⟨d, 0, none⟩), .agg (wcells (at_, bs)).toArray, .int .i64 n] w (KeepPost w d kb sb v { D with kept := D.kept.set at_ (tear bs old n) }) := by
  have hm := h.ok.most
  have ha : at_ < D.kept.length := (List.getElem?_eq_some_iff.1 ho).1
  have hol : old.length = 64 := h.ok.k64 old (List.mem_of_getElem? ho)
  go_enter Try.func73, Try.ntmps73
  go_wp2
  have hT : Turned (fun _ => False) w (w.alloc (.cells (wcells (at_, bs)).toArray 102)) := (Turned.refl _ w).alloc _
  have hD := h.kept' hT (fun _ => False.elim)
  have hbox : (w.alloc (.cells (wcells (at_, bs)).toArray 102)).heap[w.heap.size]? = some (.cells (wcells (at_, bs)).toArray 102 (0, 0)) := heap_alloc_new _ _
  have hsz : kb ≠ w.heap.size := by have := h.klt; omega
  generalize w.alloc (.cells (wcells (at_, bs)).toArray 102) = W at *
  generalize w.heap.size = B at *
  have e1 : W.drew.cell? ⟨d, 0, none⟩ = _ := hD.c0
  have e2 : W.drew.cell? ⟨B, 0, none⟩ = some (.int .i64 at_) := by rw [World.cell?_drew, cell_whole hbox]; rfl
  have hr : W.drew.rangeAt B 1 ((u8s bs).take n) := by
    have := rangeAt_whole hbox 1 n
    exact this
  have hD' : DiskAt W.drew d kb sb v D := hD.kept' ((Turned.refl (fun _ => False) W).drew) (fun _ => False.elim)
  have hT' : Turned (fun _ => False) w W.drew := hT.drew
  clear h hT hD hbox
  obtain ⟨W2, hW2⟩ : ∃ W2, W.drew = W2 := ⟨_, rfl⟩
  refine region_tail 12 (by kernel_rfl) (by kernel_rfl) W2 hW2 ?_
  rw [hW2] at e1 e2 hr hD' hT'
  clear hW2
  simp only [List.take_succ_cons, List.take_zero, List.drop_succ_cons, List.drop_zero]
  have hs1 := sl69 W2 ⟨kb, at_ * 64, none⟩ n hn
  have hs2 := sl69 W2 ⟨B, 1, none⟩ n hn
  iterate 12 still_step
  refine wpStill_nil ?_
  have hlc : (rows D.kept).length = D.kept.length * 64 := by rw [rows, length_rows hD'.len_k]; simp
  have hne : kb ≠ d := fun e => hD'.dk e.symm
  have hl : ((u8s bs).take n).length = n := by simp [length_u8s]; omega
  have HL := Lib.hid hl
  go_wp2_with (refine wpList_copy_at rfl (.tmp 14) (.tmp 17) 104 104 rfl 5 (by kernel_rfl) (by kernel_rfl) (some ⟨kb, at_ * 64, none⟩) (some ⟨B, 1, none⟩) n 64 n 64 rfl rfl kb (at_ * 64) (rows D.kept) 100 hD'.kept ((u8s bs).take n) ?c1 ?c2 ?c3 ?c4 ?c5)
  case c1 => rw [HL.out]; exact (Nat.min_self n).symm
  case c2 => exact fun _ => hr
  case c3 => rw [hlc]; simp; omega
  case c4 => exact fun x hx => oneCell_u8s bs x (List.mem_of_mem_take hx)
  case c5 =>
    intro w' hw' ht'
    go_wp2
    go_end0
    refine ⟨rfl, ?_, (hT'.wider (fun _ _ h => h.elim)).trans ht'⟩
    refine ⟨hD'.ok.keep at_ (length_tear hb hol hn), ?_, ?_, ht'.heap hD'.seen (fun e => hD'.ks e.symm), ht'.ownsRow hD'.uns (fun k hk e => hD'.kv (by rw [hk, e])), hD'.dk, hD'.ds, hD'.ks, hD'.dv, hD'.kv, hD'.sv⟩
    · rw [ht'.heap hD'.box hD'.dk]; simp
    · rw [hw'.out, rows]
      have := splice_rows hD'.len_k at_ 0 (u8s old) ((u8s bs).take n) (by simp [ho]) (by omega)
      rw [Nat.add_zero] at this
      rw [this, rows, List.map_set]
      simp only [splice, tear, u8s, List.map_append, List.map_take, List.map_drop, List.take_zero, List.nil_append, Nat.zero_add] at hl ⊢
      rw [hl]
end Go.Proofs.Ytapmppiiphbcpaa
