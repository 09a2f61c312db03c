/- The walks of strings.Clone, sealed. -/
import Derived.Lib.UnsafeStr
import Derived.Laws.MakeOwn
import Derived.Test.YtokbmimbbeedcaaGreatDoorKS3
namespace Go.Proofs.YtokbmimbbeedcaaGreatDoor.Sm
open Go.RowKit
attribute [local go_sem] Oper.semAt_some

theorem info_u8 : (Tryz.prog.info? 5).map (fun i => (i.zero, i.size, i.bytes)) = some (some (.int .u8 0), 1, 1) := by kernel_rfl
theorem uns {g : Nat} (w : World) (s : List UInt8) (hco : Tryz.prog.cellsOf 5 = 1) (hne : s ≠ []) (hs : Veil (s.length ≤ 1099511627776)) (hg : w.heap[g]? = some (.cells (splice (List.replicate s.length (Value.int .u8 0)) 0 (u8s s)).toArray 5 (0, 0))) :
    (Builtin.unsafeString_ #[316, 3] 9 #[.pointer (some ⟨g, 0, none⟩), .int .i64 s.length]).run Tryz.prog w = .ok (.string ⟨s.toArray⟩) (w.freeze ⟨g, 0, none⟩ s.length) := by
  rw [splice_all _ _ (by simp [length_u8s])] at hg
  refine Lib.run_unsafeString_row (P := Tryz.prog) w 316 3 9 5 Tryz.underlying316 hco g s.length ?_ s hne (Nat.le_refl _) (by have := hs.out; omega) ?_
  · unfold World.shape?; rw [hg]; simp [length_u8s]
  · intro j x hx
    rw [Addr.add_mid, cell_whole hg]
    simp [u8s, hx, u8v]

structure SealI (w : World) (v : Nat) (A : World) : Prop where
  r : A.heap[w.heap.size]? = some (.cells #[.int .u32 0, .int .u32 0] 309 (0, 0))
  s : A.heap[w.heap.size + 1]? = some (.cells #[.int .u32 v] 23 (0, 0))
  t : Turned (fun _ => False) w A
theorem SealI.booked {w : World} {v B : Nat} {A A' : World} (x : SealI w v A) (hb : Booked B A A') (hB : w.heap.size ≤ B) : SealI w v A' :=
  ⟨hb.heap x.r, hb.heap x.s, hb.turned x.t hB⟩
theorem SealI.new {w : World} {v : Nat} {A A' : World} (x : SealI w v A) (hb : Turned (fun _ => False) A A') : SealI w v A' :=
  ⟨hb.heap x.r (fun h => h), hb.heap x.s (fun h => h), x.t.trans hb⟩
theorem SealI.leaf {w : World} {v v' : Nat} {A : World} {R : Int} {B : Nat} {o : Obj} (x : SealI w v A) (hk : A.heap[w.heap.size + 1 + 1]? = some o) (hr : R = (v' : Nat)) :
    KeepsFrom B A (A.setCell ⟨w.heap.size + 1, 0, none⟩ (.int .u32 R)) ∧ SealI w v' (A.setCell ⟨w.heap.size + 1, 0, none⟩ (.int .u32 R)) ∧ (A.setCell ⟨w.heap.size + 1, 0, none⟩ (.int .u32 R)).heap[w.heap.size + 1 + 1]? = some o := by
  subst hr
  have ht : Turned (· = w.heap.size + 1) A (A.setCell ⟨w.heap.size + 1, 0, none⟩ (.int .u32 (v' : Nat))) := (Turned.refl (· = w.heap.size + 1) A).setCell (p := ⟨w.heap.size + 1, 0, none⟩) rfl _
  refine ⟨keepsFrom_turned ht ?_, ⟨set1 (by omega) x.r, set0 x.s, x.t.then ht (fun j hj e => by omega)⟩, set1 (by omega) hk⟩
  rintro j rfl
  exact .inr ⟨_, _, _, x.s⟩
end Go.Proofs.YtokbmimbbeedcaaGreatDoor.Sm
