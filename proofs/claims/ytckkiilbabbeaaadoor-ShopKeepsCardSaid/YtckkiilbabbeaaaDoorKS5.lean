/- The walks of strings.Clone, sealed. -/
import Derived.Lib.UnsafeStr
import Derived.Laws.MakeOwn
import Derived.Test.YtckkiilbabbeaaaDoorKS3
namespace Go.Proofs.YtckkiilbabbeaaaDoor.Sm
open Go.RowKit
attribute [local go_sem] Oper.semAt_some

theorem info_u8 : (Tryd.prog.info? 5).map (fun i => (i.zero, i.size, i.bytes)) = some (some (.int .u8 0), 1, 1) := by kernel_rfl
theorem size_u8 (w : World) : (sizeOf 5).run Tryd.prog w = .ok 1 w := by kernel_rfl
theorem u8s_eq (s : List UInt8) : Lib.byteCells s = u8s s := rfl
theorem made_zeros (n : Nat) : madeCells #[.int .u8 0] n = (List.replicate n (Value.int .u8 0)).toArray := by
  apply Array.ext
  · simp [madeCells]
  · intro i h1 h2
    simp [madeCells, Nat.mod_one]

theorem uns {g : Nat} (w : World) (s : List UInt8) (hco : Tryd.prog.cellsOf 5 = 1) (hne : s ≠ []) (hs : Veil (s.length ≤ 1099511627776)) (hg : w.heap[g]? = some (.cells (splice (List.replicate s.length (Value.int .u8 0)) 0 (u8s s)).toArray 5 (0, 0))) :
    (Builtin.unsafeString_ #[147, 3] 9 #[.pointer (some ⟨g, 0, none⟩), .int .i64 s.length]).run Tryd.prog w = .ok (.string ⟨s.toArray⟩) (w.freeze ⟨g, 0, none⟩ s.length) := by
  rw [splice_all _ _ (by simp [length_u8s])] at hg
  refine Lib.run_unsafeString_row (P := Tryd.prog) w 147 3 9 5 Tryd.underlying147 hco g s.length ?_ s hne (Nat.le_refl _) (by have := hs.out; omega) ?_
  · unfold World.shape?; rw [hg]; simp [length_u8s]
  · intro j x hx
    rw [Addr.add_mid, cell_whole hg]
    simp [u8s, hx, u8v]

/-- One byte more behind a number. -/
def shlS (v : Nat) (c : UInt8) : Nat := v * 256 % 4294967296 + c.toNat
def sealV (s : List UInt8) : Nat := s.foldl shlS 0
theorem sealV_take (s : List UInt8) (k : Nat) (hk : k < s.length) : sealV (s.take (k + 1)) = shlS (sealV (s.take k)) (s.getD k 0) := by
  unfold sealV
  rw [List.take_succ_eq_append_getElem hk, List.foldl_append]
  simp [List.getD, hk]
theorem shlS_lt (v : Nat) (c : UInt8) : shlS v c < 4294967296 := by
  unfold shlS
  have := c.toNat_lt
  omega
theorem sealV_lt (s : List UInt8) : sealV s < 4294967296 := by
  unfold sealV
  have : ∀ (s : List UInt8) (v : Nat), v < 4294967296 → s.foldl shlS v < 4294967296 := by
    intro s
    induction s with
    | nil => exact fun v h => h
    | cons c s ih => exact fun v _ => ih _ (shlS_lt v c)
  exact this s 0 (by decide)

theorem or_byte (v : Nat) (c : UInt8) : bits BinOp.or IntKind.u32 (IntKind.u32.wrap ((v : Int) * 256)) (c.toNat : Int) = ((shlS v c : Nat) : Int) := by
  have hc := c.toNat_lt
  have e : IntKind.u32.wrap ((v : Int) * 256) = ((v * 256 % 4294967296 : Nat) : Int) := by rw [IntKind.wrap_u32']; omega
  rw [e, u32_or_nat _ _ (by omega) (by omega)]
  have h : v * 256 % 4294967296 = (v % 16777216) * 256 := by omega
  unfold shlS
  rw [h, Nat.mul_comm (v % 16777216) 256, Nat.two_pow_add_eq_or_of_lt (i := 8) hc]

end Go.Proofs.YtckkiilbabbeaaaDoor.Sm
