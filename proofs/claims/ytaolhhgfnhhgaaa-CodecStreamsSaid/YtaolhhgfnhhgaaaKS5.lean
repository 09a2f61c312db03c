/- The walks of strings.Clone, sealed. -/
import Derived.Lib.UnsafeStr
import Derived.Laws.MakeOwn
import Derived.Test.YtaolhhgfnhhgaaaKS3
namespace Go.Proofs.Ytaolhhgfnhhgaaa.Sm
open Go.RowKit
attribute [local go_sem] Oper.semAt_some

theorem info_u8 : (Try.prog.info? 5).map (fun i => (i.zero, i.size, i.bytes)) = some (some (.int .u8 0), 1, 1) := by kernel_rfl
theorem size_u8 (w : World) : (sizeOf 5).run Try.prog w = .ok 1 w := by kernel_rfl
theorem u8s_eq (s : List UInt8) : Lib.byteCells s = u8s s := rfl
theorem made_zeros (n : Nat) : madeCells #[.int .u8 0] n = (List.replicate n (Value.int .u8 0)).toArray := by
  apply Array.ext
  · simp [madeCells]
  · intro i h1 h2
    simp [madeCells, Nat.mod_one]

theorem uns {g : Nat} (w : World) (s : List UInt8) (hco : Try.prog.cellsOf 5 = 1) (hne : s ≠ []) (hs : Veil (s.length ≤ 1099511627776)) (hg : w.heap[g]? = some (.cells (splice (List.replicate s.length (Value.int .u8 0)) 0 (u8s s)).toArray 5 (0, 0))) :
    (Builtin.unsafeString_ #[71, 3] 9 #[.pointer (some ⟨g, 0, none⟩), .int .i64 s.length]).run Try.prog w = .ok (.string ⟨s.toArray⟩) (w.freeze ⟨g, 0, none⟩ s.length) := by
  rw [splice_all _ _ (by simp [length_u8s])] at hg
  refine Lib.run_unsafeString_row (P := Try.prog) w 71 3 9 5 Try.underlying71 hco g s.length ?_ s hne (Nat.le_refl _) (by have := hs.out; omega) ?_
  · unfold World.shape?; rw [hg]; simp [length_u8s]
  · intro j x hx
    rw [Addr.add_mid, cell_whole hg]
    simp [u8s, hx, u8v]

set_option maxHeartbeats 1000000 in
theorem clone_in (s : List UInt8) (hs : Veil (s.length ≤ 1099511627776)) (h0 : 0 < s.length) (w : World) : Calls Try.prog 40 #[.string ⟨s.toArray⟩] w fun e w' => e = .returned (.string ⟨s.toArray⟩) ∧ Below w.heap.size w w' := by
  obtain ⟨i0, hi, hz0, hz1, hz2⟩ := info_parts info_u8
  have hmk : ∀ W : World, (Instr.makeSlice 46 (.int .i64 (s.length : Int)) (.int .i64 (s.length : Int))).run Try.prog W = .ok (.slice (some ⟨W.heap.size, 0, none⟩) s.length s.length) (W.alloc (.cells (List.replicate s.length (Value.int .u8 0)).toArray 5)) := fun W => by
    have := hs.out
    have h := run_make (P := Try.prog) W 46 5 i0 (.int .u8 0) Try.underlying46 hi hz0 .i64 .i64 (s.length : Int) (s.length : Int) (by omega) (by omega) (by rw [hz2]; omega) (by omega)
    rw [hz1, Nat.mul_one, show ((s.length : Int).toNat) = s.length by omega] at h
    rw [← made_zeros]
    exact h
  have hco : Try.prog.cellsOf 5 = 1 := by simp [Program.cellsOf, hi, hz1]
  have hne : s ≠ [] := fun e => by simp [e] at h0
  have HCO := Lib.hid hco
  have HNE := Lib.hid hne
  clear hi hz0 hz1 hz2 hco hne
  go_enter Try.func40, Try.ntmps40
  go_wp2_with (refine wpList_copy_str rfl (.tmp 10) (.tmp 11) 46 9 rfl 5 Try.underlying46 size_u8 w.heap.size 0 s.length s.length s rfl rfl (Nat.le_refl _) (List.replicate s.length (Value.int .u8 0)) 5 (heap_alloc_new _ _) ?_ ?_; rotate_left; intro w2 hw2 hT2; clear hmk; have hUS := uns w2 s HCO.out HNE.out hs hw2.out)
  · go_ret
    have hb2 : Below w.heap.size w w2 := (below_al (Below.refl _ w) _).trans (hT2.toBelow (by simp) (fun k _ e => by omega))
    exact ⟨rfl, Lib.below_freeze hb2 (p := ⟨w.heap.size, 0, none⟩) (Nat.le_refl _) _⟩
  · simp

theorem clone_any (s : List UInt8) (hs : Veil (s.length ≤ 1099511627776)) (w : World) : Calls Try.prog 34 #[.string ⟨s.toArray⟩] w fun e w' => e = .returned (.string ⟨s.toArray⟩) ∧ Below w.heap.size w w' := by
  by_cases h0 : 0 < s.length
  · have hc := Lib.hid (fun w => clone_in s hs h0 w)
    clear h0
    go_enter Try.func34, Try.ntmps34
    go_wp2_with (go_at_call 40; refine (hc.out w).mono ?_; rintro e w2 ⟨rfl, hb⟩)
    go_ret
    exact ⟨rfl, hb⟩
  · obtain rfl : s = [] := List.eq_nil_of_length_eq_zero (by omega)
    go_enter Try.func34, Try.ntmps34
    go_wp2
    go_ret
    exact ⟨rfl, Below.refl _ _⟩

/-- One byte more behind a number. -/
def shlS (v : Nat) (c : UInt8) : Nat := v * 256 % 4294967296 + c.toNat
def sealV (s : List UInt8) : Nat := s.foldl shlS 0
theorem sealV_take (s : List UInt8) (k : Nat) (hk : k < s.length) : sealV (s.take (k + 1)) = shlS (sealV (s.take k)) (s.getD k 0) := by
  unfold sealV
  rw [List.take_succ_eq_append_getElem hk, List.foldl_append]
  simp [List.getD, hk]
theorem shlS_lt (v : Nat) (c : UInt8) : shlS v c < 4294967296 := by
  unfold shlS
  have := c.toNat_lt
  omega
theorem sealV_lt (s : List UInt8) : sealV s < 4294967296 := by
  unfold sealV
  have : ∀ (s : List UInt8) (v : Nat), v < 4294967296 → s.foldl shlS v < 4294967296 := by
    intro s
    induction s with
    | nil => exact fun v h => h
    | cons c s ih => exact fun v _ => ih _ (shlS_lt v c)
  exact this s 0 (by decide)

theorem or_byte (v : Nat) (c : UInt8) : bits BinOp.or IntKind.u32 (IntKind.u32.wrap ((v : Int) * 256)) (c.toNat : Int) = ((shlS v c : Nat) : Int) := by
  have hc := c.toNat_lt
  have e : IntKind.u32.wrap ((v : Int) * 256) = ((v * 256 % 4294967296 : Nat) : Int) := by rw [IntKind.wrap_u32']; omega
  rw [e, u32_or_nat _ _ (by omega) (by omega)]
  have h : v * 256 % 4294967296 = (v % 16777216) * 256 := by omega
  unfold shlS
  rw [h, Nat.mul_comm (v % 16777216) 256, Nat.two_pow_add_eq_or_of_lt (i := 8) hc]

end Go.Proofs.Ytaolhhgfnhhgaaa.Sm
