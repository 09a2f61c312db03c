/- The walks of strings.Clone, sealed. -/
import Derived.Test.YtecpickpimcoaaaS4
import Derived.Lib.UnsafeStr
import Derived.Laws.MakeOwn
namespace Go.Proofs.Ytecpickpimcoaaa
open Go.RowKit
attribute [local go_sem] Oper.semAt_some

theorem info_u8 : (Try.prog.info? 5).map (fun i => (i.zero, i.size, i.bytes)) = some (some (.int .u8 0), 1, 1) := by kernel_rfl
theorem size_u8 (w : World) : (sizeOf 5).run Try.prog w = .ok 1 w := by kernel_rfl
theorem u8s_eq (s : List UInt8) : Lib.byteCells s = u8s s := rfl
theorem made_zeros (n : Nat) : madeCells #[.int .u8 0] n = (List.replicate n (Value.int .u8 0)).toArray := by
  apply Array.ext
  · simp [madeCells]
  · intro i h1 h2
    simp [madeCells, Nat.mod_one]

theorem uns {g : Nat} (w : World) (s : List UInt8) (hco : Try.prog.cellsOf 5 = 1) (hne : s ≠ []) (hs : Veil (s.length ≤ 1099511627776)) (hg : w.heap[g]? = some (.cells (splice (List.replicate s.length (Value.int .u8 0)) 0 (u8s s)).toArray 5 (0, 0))) :
    (Builtin.unsafeString_ #[57, 3] 9 #[.pointer (some ⟨g, 0, none⟩), .int .i64 s.length]).run Try.prog w = .ok (.string ⟨s.toArray⟩) (w.freeze ⟨g, 0, none⟩ s.length) := by
  rw [splice_all _ _ (by simp [length_u8s])] at hg
  refine Lib.run_unsafeString_row (P := Try.prog) w 57 3 9 5 Try.underlying57 hco g s.length ?_ s hne (Nat.le_refl _) (by have := hs.out; omega) ?_
  · unfold World.shape?; rw [hg]; simp [length_u8s]
  · intro j x hx
    rw [Addr.add_mid, cell_whole hg]
    simp [u8s, hx, u8v]

set_option maxHeartbeats 1000000 in
theorem clone_in (s : List UInt8) (hs : Veil (s.length ≤ 1099511627776)) (h0 : 0 < s.length) (w : World) : Calls Try.prog 35 #[.string ⟨s.toArray⟩] w fun e w' => e = .returned (.string ⟨s.toArray⟩) ∧ Below w.heap.size w w' := by
  obtain ⟨i0, hi, hz0, hz1, hz2⟩ := info_parts info_u8
  have hmk : ∀ W : World, (Instr.makeSlice 37 (.int .i64 (s.length : Int)) (.int .i64 (s.length : Int))).run Try.prog W = .ok (.slice (some ⟨W.heap.size, 0, none⟩) s.length s.length) (W.alloc (.cells (List.replicate s.length (Value.int .u8 0)).toArray 5)) := fun W => by
    have := hs.out
    have h := run_make (P := Try.prog) W 37 5 i0 (.int .u8 0) Try.underlying37 hi hz0 .i64 .i64 (s.length : Int) (s.length : Int) (by omega) (by omega) (by rw [hz2]; omega) (by omega)
    rw [hz1, Nat.mul_one, show ((s.length : Int).toNat) = s.length by omega] at h
    rw [← made_zeros]
    exact h
  have hco : Try.prog.cellsOf 5 = 1 := by simp [Program.cellsOf, hi, hz1]
  have hne : s ≠ [] := fun e => by simp [e] at h0
  have HCO := Lib.hid hco
  have HNE := Lib.hid hne
  clear hi hz0 hz1 hz2 hco hne
  go_enter Try.func35, Try.ntmps35
  go_wp2_with (refine wpList_copy_str rfl (.tmp 10) (.tmp 11) 37 9 rfl 5 Try.underlying37 size_u8 w.heap.size 0 s.length s.length s rfl rfl (Nat.le_refl _) (List.replicate s.length (Value.int .u8 0)) 5 (heap_alloc_new _ _) ?_ ?_; rotate_left; intro w2 hw2 hT2; clear hmk; have hUS := uns w2 s HCO.out HNE.out hs hw2.out)
  · go_ret
    have hb2 : Below w.heap.size w w2 := (below_al (Below.refl _ w) _).trans (hT2.toBelow (by simp) (fun k _ e => by omega))
    exact ⟨rfl, Lib.below_freeze hb2 (p := ⟨w.heap.size, 0, none⟩) (Nat.le_refl _) _⟩
  · simp

theorem clone_any (s : List UInt8) (hs : Veil (s.length ≤ 1099511627776)) (w : World) : Calls Try.prog 32 #[.string ⟨s.toArray⟩] w fun e w' => e = .returned (.string ⟨s.toArray⟩) ∧ Below w.heap.size w w' := by
  by_cases h0 : 0 < s.length
  · have hc := Lib.hid (fun w => clone_in s hs h0 w)
    clear h0
    go_enter Try.func32, Try.ntmps32
    go_wp2_with (go_at_call 35; refine (hc.out w).mono ?_; rintro e w2 ⟨rfl, hb⟩)
    go_ret
    exact ⟨rfl, hb⟩
  · obtain rfl : s = [] := List.eq_nil_of_length_eq_zero (by omega)
    go_enter Try.func32, Try.ntmps32
    go_wp2
    go_ret
    exact ⟨rfl, Below.refl _ _⟩

/-- One byte more behind a number. -/
def shlS (v : Nat) (c : UInt8) : Nat := v * 256 % 4294967296 + c.toNat
def sealV (s : List UInt8) : Nat := s.foldl shlS 0
theorem sealV_take (s : List UInt8) (k : Nat) (hk : k < s.length) : sealV (s.take (k + 1)) = shlS (sealV (s.take k)) (s.getD k 0) := by
  unfold sealV
  rw [List.take_succ_eq_append_getElem hk, List.foldl_append]
  simp [List.getD, hk]
theorem shlS_lt (v : Nat) (c : UInt8) : shlS v c < 4294967296 := by
  unfold shlS
  have := c.toNat_lt
  omega
theorem sealV_lt (s : List UInt8) : sealV s < 4294967296 := by
  unfold sealV
  have : ∀ (s : List UInt8) (v : Nat), v < 4294967296 → s.foldl shlS v < 4294967296 := by
    intro s
    induction s with
    | nil => exact fun v h => h
    | cons c s ih => exact fun v _ => ih _ (shlS_lt v c)
  exact this s 0 (by decide)

structure SealI (w : World) (v : Nat) (A : World) : Prop where
  r : A.heap[w.heap.size]? = some (.cells #[.int .u32 0, .int .u32 0] 43 (0, 0))
  s : A.heap[w.heap.size + 1]? = some (.cells #[.int .u32 v] 22 (0, 0))
  t : Turned (fun _ => False) w A
theorem SealI.booked {w : World} {v B : Nat} {A A' : World} (x : SealI w v A) (hb : Booked B A A') (hB : w.heap.size ≤ B) : SealI w v A' :=
  ⟨hb.heap x.r, hb.heap x.s, hb.turned x.t hB⟩
theorem SealI.new {w : World} {v : Nat} {A A' : World} (x : SealI w v A) (hb : Turned (fun _ => False) A A') : SealI w v A' :=
  ⟨hb.heap x.r (fun h => h), hb.heap x.s (fun h => h), x.t.trans hb⟩
theorem SealI.leaf {w : World} {v v' : Nat} {A : World} {R : Int} {B : Nat} {o : Obj} (x : SealI w v A) (hk : A.heap[w.heap.size + 1 + 1]? = some o) (hr : R = (v' : Nat)) :
    KeepsFrom B A (A.setCell ⟨w.heap.size + 1, 0, none⟩ (.int .u32 R)) ∧ SealI w v' (A.setCell ⟨w.heap.size + 1, 0, none⟩ (.int .u32 R)) ∧ (A.setCell ⟨w.heap.size + 1, 0, none⟩ (.int .u32 R)).heap[w.heap.size + 1 + 1]? = some o := by
  subst hr
  have ht : Turned (· = w.heap.size + 1) A (A.setCell ⟨w.heap.size + 1, 0, none⟩ (.int .u32 (v' : Nat))) := (Turned.refl (· = w.heap.size + 1) A).setCell (p := ⟨w.heap.size + 1, 0, none⟩) rfl _
  refine ⟨keepsFrom_turned ht ?_, ⟨set1 (by omega) x.r, set0 x.s, x.t.then ht (fun j hj e => by omega)⟩, set1 (by omega) hk⟩
  rintro j rfl
  exact .inr ⟨_, _, _, x.s⟩
theorem or_byte (v : Nat) (c : UInt8) : bits BinOp.or IntKind.u32 (IntKind.u32.wrap ((v : Int) * 256)) (c.toNat : Int) = ((shlS v c : Nat) : Int) := by
  have hc := c.toNat_lt
  have e : IntKind.u32.wrap ((v : Int) * 256) = ((v * 256 % 4294967296 : Nat) : Int) := by rw [IntKind.wrap_u32']; omega
  rw [e, u32_or_nat _ _ (by omega) (by omega)]
  have h : v * 256 % 4294967296 = (v % 16777216) * 256 := by omega
  unfold shlS
  rw [h, Nat.mul_comm (v % 16777216) 256, Nat.two_pow_add_eq_or_of_lt (i := 8) hc]

set_option maxHeartbeats 1000000 in
theorem sealed_any (s : List UInt8) (hs : s.length ≤ 9223372036854775807) (w : World) : Calls Try.prog 31 #[.string ⟨s.toArray⟩] w fun e w' => e = .returned (halvesv (sealV s % 65536, sealV s / 65536)) ∧ Below w.heap.size w w' := by
  refine calls_of_wp_marks Try.func31 rfl ?_
  simp only [Try.ntmps31, List.size_toArray, List.length_cons, List.length_nil, Nat.reduceAdd, Nat.reduceSub, Array.replicate_succ, Array.replicate_zero, List.push_toArray, List.append_toArray, List.nil_append, List.cons_append]
  go_wp2_with (go_at_call 34; refine (each_any s _).mono ?_; rintro e w1 ⟨rfl, hw1⟩)
  have hb1 : Turned (fun _ => False) w w1 := by rw [← hw1]; exact (((Turned.refl _ w).alloc _).alloc _).alloc _
  have hr1 : w1.heap[w.heap.size]? = some (.cells #[.int .u32 0, .int .u32 0] 43 (0, 0)) := by
    rw [← hw1]; simp only [heap_alloc_if, World.size_alloc]; repeat (first | rw [if_neg (by omega)] | rw [if_pos (by first | trivial | omega)])
  have hs1 : w1.heap[w.heap.size + 1]? = some (.cells #[.int .u32 (sealV (s.take 0) : Nat)] 22 (0, 0)) := by
    rw [← hw1]; simp only [heap_alloc_if, World.size_alloc]; repeat (first | rw [if_neg (by omega)] | rw [if_pos (by first | trivial | omega)])
    rfl
  have hx1 : w1.heap[w.heap.size + 1 + 1]? = some (.cells #[.string ⟨s.toArray⟩] 9 (0, 0)) := by
    rw [← hw1]; simp only [heap_alloc_if, World.size_alloc]; repeat (first | rw [if_neg (by omega)] | rw [if_pos (by first | trivial | omega)])
  have hz1 : w1.heap.size = w.heap.size + 3 := by rw [← hw1]; simp
  clear hw1
  refine wp_range_seq (gf := 36) (lb := #[.pointer (some ⟨w.heap.size + 1 + 1, 0, none⟩)]) rfl (enters_of Try.func36 (by kernel_rfl) rfl)
    (each_seq (w.heap.size + 1 + 1) s hs) (fun k => rfl)
    (fun k A => SealI w (sealV (s.take k)) A ∧ A.heap[w.heap.size + 1 + 1]? = some (.cells #[.string ⟨s.toArray⟩] 9 (0, 0))) (fun _ _ _ => False) ?hI (fun _ _ _ _ h _ => h) ?hF ?h0 ?hround ?hdone (fun _ _ _ _ _ _ h => h.elim)
  case hI => rintro k A A' ⟨h1, h2⟩ hb; exact ⟨h1.booked hb (by omega), hb.heap h2⟩
  case hF => rintro k A ⟨_, h⟩; simp [World.cell?, h]
  case h0 => exact ⟨⟨hr1, hs1, hb1⟩, hx1⟩
  case hround =>
    rintro l m k A hl hlt ⟨hi, hx⟩
    simp only [hands, List.zip_cons_cons, List.zip_nil_right, List.foldl_cons, List.foldl_nil, List.setIfInBounds_toArray, List.set_cons_succ, List.set_cons_zero]
    gi_wp2
    refine ⟨KeepsFrom.refl _ _, fun A2 hbk hsz => ?_⟩
    have hi2 := hi.booked hbk (by omega)
    have hx2 := hbk.heap hx
    clear hi hx hbk hsz hx1 hs1 hr1
    have HST : Veil _ := ⟨sealV_take s k hlt⟩
    have HI2 : Veil _ := ⟨hi2⟩
    have HX2 : Veil _ := ⟨hx2⟩
    have ca : A2.cell? ⟨w.heap.size + 1, 0, none⟩ = some (.int .u32 (sealV (s.take k))) := by simp [World.cell?, hi2.s]
    have fa : A2.frozen? ⟨w.heap.size + 1, 0, none⟩ = false := frozen_whole hi2.s _
    clear hi2 hx2 hs
    revert HI2 ca HST
    generalize sealV (s.take k) = v
    generalize s.getD k 0 = c
    intro HST HI2 ca
    obtain ⟨V, hV⟩ : ∃ V : Int, (v : Int) = V := ⟨_, rfl⟩
    obtain ⟨C, hC⟩ : ∃ C : Int, (c.toNat : Int) = C := ⟨_, rfl⟩
    obtain ⟨R, hR⟩ : ∃ R : Int, ((shlS v c : Nat) : Int) = R := ⟨_, rfl⟩
    have ho : bits BinOp.or IntKind.u32 (V * 256 % 4294967296) C = R := by rw [← hV, ← hC, ← hR, ← IntKind.wrap_u32']; exact or_byte v c
    have hc2 : 0 ≤ C ∧ C < 256 := by have := c.toNat_lt; omega
    obtain ⟨hc2, hc3⟩ := hc2
    have HR : Veil _ := ⟨hR⟩
    rw [hV] at ca
    rw [hC]
    clear hV hC hR
    gi_wp2
    exact HI2.out.leaf HX2.out (by rw [HST.out]; exact HR.out.symm)
  case hdone =>
    rintro Dd A hDd ⟨hi, hx⟩ hdd
    rw [List.take_length] at hi
    have ca : A.cell? ⟨w.heap.size + 1, 0, none⟩ = some (.int .u32 (sealV s)) := by simp [World.cell?, hi.s]
    have HI : Veil _ := ⟨hi⟩
    have HD : Veil _ := ⟨hdd⟩
    have hlt := sealV_lt s
    have HL : Veil _ := ⟨hlt⟩
    clear hi hx hdd hx1 hs1 hr1 hs hlt
    revert HI HL ca
    generalize hv : sealV s = v
    intro ca HI HL
    have HV : Veil _ := ⟨hv⟩
    clear hv
    simp only [Exit.inBlock]
    go_wp2_with (go_at_call 26; refine (split_any v HL.out _).mono ?_; rintro e w2 ⟨rfl, hb2⟩; unfold halvesv u32v; have hi2 := HI.out.new (Turned.new hb2); have c0 : w2.cell? ⟨w.heap.size, 0, none⟩ = some (.int .u32 0) := (by simp [World.cell?, hi2.r]); have c1 : w2.cell? ⟨w.heap.size, 1, none⟩ = some (.int .u32 0) := (by simp [World.cell?, hi2.r]); have f0 : w2.frozen? ⟨w.heap.size, 0, none⟩ = false := frozen_whole hi2.r _; have f1 : w2.frozen? ⟨w.heap.size, 1, none⟩ = false := frozen_whole hi2.r _; have HI2 : Veil _ := ⟨hi2⟩; clear hi2)
    have hr := heap_setCell_at (heap_setCell_at HI2.out.r 0 (Value.int IntKind.u32 (↑v % 65536))) 1 (Value.int IntKind.u32 (↑v / 65536))
    have hT : Turned (· = w.heap.size) w2 ((w2.setCell ⟨w.heap.size, 0, none⟩ (Value.int IntKind.u32 (↑v % 65536))).setCell ⟨w.heap.size, 1, none⟩ (Value.int IntKind.u32 (↑v / 65536))) := ((Turned.refl (· = w.heap.size) w2).setCell (p := ⟨w.heap.size, 0, none⟩) rfl _).setCell (p := ⟨w.heap.size, 1, none⟩) rfl _
    have hd2 : w2.heap[Dd]? = some (.deferred (some [])) := by rw [hb2.block _ (lt_of_heap HD.out)]; exact HD.out
    refine leaves_mark (D := Dd) (B := w1.heap.size) (hT.heap hd2 (by omega)) hDd ?_
    intro w' hb _
    refine leaves_none (results_pair (g := w.heap.size) rfl (hb.heap hr) rfl Try.underlying43 size_halves) ?_
    exact ⟨by rw [HV.out]; simp [halvesv, u32v], (hb.turned (HI2.out.t.then hT (fun j hj e => by omega)) (by omega)).toBelow (Nat.le_refl _) (fun _ _ h => h.elim)⟩
end Go.Proofs.Ytecpickpimcoaaa
