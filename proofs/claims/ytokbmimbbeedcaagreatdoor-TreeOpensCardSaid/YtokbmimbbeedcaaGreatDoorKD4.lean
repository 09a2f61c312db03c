/- The walks of New and Read. -/
import Derived.RegionTactic
import Derived.BigRegion
import Derived.ChangeAlike
import Derived.Test.YtokbmimbbeedcaaGreatDoorKD3
namespace Go.Proofs.YtokbmimbbeedcaaGreatDoor
open Go.RowKit

def zero64 : List UInt8 := List.replicate 64 0
/-- The cells of so many new sectors. -/
def newRows (n : Nat) : Array Value := (rows (List.replicate n zero64)).toArray

theorem info69 : (Tryz.prog.info? 284).map (fun i => (i.zero, i.size, i.bytes)) = some (some (.agg (u8s zero64).toArray), 64, 64) := by kernel_rfl

theorem flatten_rep {α : Type} (x : α) (n z : Nat) : (List.replicate n (List.replicate z x)).flatten = List.replicate (n * z) x := by
  induction n with
  | zero => simp
  | succ n ih => rw [List.replicate_succ, List.flatten_cons, ih, List.replicate_append_replicate, Nat.add_mul]; congr 1; omega
theorem u8s_zero64 : u8s zero64 = List.replicate 64 (u8v 0) := by simp only [u8s, zero64, List.map_replicate]
theorem madeCells_rows (n : Nat) : madeCells (u8s zero64).toArray (n * 64) = newRows n := by
  unfold newRows rows
  rw [List.map_replicate, u8s_zero64, flatten_rep]
  apply Array.ext_getElem?
  intro i
  by_cases h : i < n * 64
  · have := Nat.mod_lt i (by omega : 64 > 0)
    have e : (List.replicate 64 (u8v 0)).toArray[i % 64]! = u8v 0 := by
      rw [getElem!_pos _ _ (by simpa using this)]
      simp only [List.getElem_toArray, List.getElem_replicate]
    simp only [madeCells, List.size_toArray, List.length_replicate, Array.getElem?_map, List.getElem?_toArray, List.getElem?_replicate, h, if_true]
    rw [Array.getElem?_range, if_pos h]
    simp only [Option.map_some, e]
  · rw [Array.getElem?_eq_none (by rw [size_madeCells]; omega), Array.getElem?_eq_none (by simp; omega)]

theorem make_rows (n : Nat) (hn : n ≤ 65536) (w : World) : (Instr.makeSlice 62 (.int .i64 n) (.int .i64 n)).run Tryz.prog w = .ok (.slice (some ⟨w.heap.size, 0, none⟩) n n) (w.alloc (.cells (newRows n) 284)) := by
  obtain ⟨i, hi, hz, hs, hb⟩ := info_parts info69
  have h := run_make (P := Tryz.prog) w 62 284 i _ Tryz.underlying62 hi hz .i64 .i64 n n (by omega) (by omega) (by rw [hb]; omega) (by omega)
  rw [h]
  simp only [Int.toNat_natCast, hs, Value.cells, madeCells_rows]

/-- A new disk. -/
def Dk.new (n : Nat) : Dk := { kept := List.replicate n zero64, seen := List.replicate n zero64, uns := [], ops := 0 }
theorem Dk.new_ok (n : Nat) (h1 : 1 ≤ n) (h2 : n ≤ 65536) : (Dk.new n).Ok :=
  ⟨by simp [Dk.new], by simpa [Dk.new] using h2, by simp [Dk.new]; omega, fun s hs => by rw [(List.mem_replicate.1 hs).2]; rfl, fun s hs => by rw [(List.mem_replicate.1 hs).2]; rfl, fun x hx => by simp [Dk.new] at hx, by simp [Dk.new], by simp [Dk.new]⟩

/-- What New leaves. -/
def NewPost (w : World) (n : Nat) (e : Ending) (w' : World) : Prop :=
  ∃ d kb sb, e = .returned (.tuple #[.pointer (some ⟨d, 0, none⟩), .int .i64 0]) ∧ DiskAt w' d kb sb (.slice none 0 0) (Dk.new n) ∧ Below w.heap.size w w' ∧ w.heap.size ≤ d ∧ w.heap.size ≤ kb ∧ w.heap.size ≤ sb

theorem new_close {w X : World} {n d kb sb : Nat} (h1 : 1 ≤ n) (h2 : n ≤ 65536) (hsz : X.heap.size = d) (hk : X.heap[kb]? = some (.cells (newRows n) 284)) (hs : X.heap[sb]? = some (.cells (newRows n) 284))
    (hks : kb ≠ sb) (hb : Below w.heap.size w X) (hkw : w.heap.size ≤ kb) (hsw : w.heap.size ≤ sb) :
    NewPost w n (.returned (.tuple #[.pointer (some ⟨d, 0, none⟩), .int .i64 0])) (X.alloc (.cells #[.slice (some ⟨kb, 0, none⟩) n n, .slice (some ⟨sb, 0, none⟩) n n, .slice none 0 0, .int .i64 0] 67)).drew := by
  subst hsz
  have hkd := lt_of_heap hk
  have hsd := lt_of_heap hs
  have hn : (Dk.new n).kept.length = n := by simp [Dk.new]
  refine ⟨X.heap.size, kb, sb, rfl, ⟨Dk.new_ok n h1 h2, ?_, ?_, ?_, World.ownsRow_nil _ _ _ _, by omega, by omega, hks, by simp [Value.ownBlock], by simp [Value.ownBlock], by simp [Value.ownBlock]⟩, (hb.alloc hb.size _).drew, hb.size, hkw, hsw⟩
  · rw [hn]; exact heap_alloc_new _ _
  · exact (Below.heap_alloc X _ kb hkd).trans hk
  · exact (Below.heap_alloc X _ sb hsd).trans hs

set_option maxRecDepth 10000 in
set_option maxHeartbeats 1000000 in
theorem new_any (n : Nat) (h1 : 1 ≤ n) (h2 : n ≤ 65536) (w : World) : Calls Tryz.prog 9 #[.int .i64 n] w (NewPost w n) := by
  have hmk := make_rows n h2
  go_enter Tryz.func9, Tryz.ntmps9
  go_wp2_with (go_at_call 24; refine (within_any _ _ _ [(n : Int)] _ _ (fun _ => ⟨w.heap.size, 0, rfl, ?c1⟩) (by simp)).mono ?c2)
  case c1 =>
    intro i hi
    have : i = 0 := by simp at hi; omega
    subst this
    simp [go_sem]
  case c2 =>
    rintro e w' ⟨rfl, rfl⟩
    have ha : allIn 1 65536 [(n : Int)] = true := by rw [allIn_one]; simp; omega
    rw [ha]
    go_wp2
    go_region
    all_goals go_wp2
    all_goals go_ret2
    all_goals refine new_close h1 h2 ?_ ?_ ?_ ?_ ?_ ?_ ?_
    all_goals first | omega | exact below_al (below_al (below_al (below_al (Below.refl _ _) _) _) _) _ | (simp only [heap_alloc_if, World.size_alloc]; repeat (first | rw [if_pos trivial] | rw [if_neg (by omega)] | rw [if_pos (by omega)])) | simp

end Go.Proofs.YtokbmimbbeedcaaGreatDoor

/- The walk of Write. -/
namespace Go.Proofs.YtokbmimbbeedcaaGreatDoor
open Go.RowKit

/-- A text, with bytes 0 behind it up to 64. -/
def pad (s : List UInt8) : List UInt8 := s ++ List.replicate (64 - s.length) 0
theorem length_pad {s : List UInt8} (h : s.length ≤ 64) : (pad s).length = 64 := by simp [pad]; omega

def Dk.write (D : Dk) (i : Nat) (s : List UInt8) : Dk := { D with seen := D.seen.set i (pad s), uns := D.uns ++ [(i, pad s)], ops := D.ops + 1 }

theorem Dk.Ok.write {D : Dk} (h : D.Ok) (i : Nat) {s : List UInt8} (hi : i < D.kept.length) (hp : (pad s).length = 64) (hu : D.uns.length < 1000000000000) (ho : D.ops < 1000000000000000) : (D.write i s).Ok :=
  { h with
    len := by simp [Dk.write, h.len]
    s64 := fun x hx => by
      rcases List.mem_or_eq_of_mem_set hx with hx | rfl
      · exact h.s64 x hx
      · exact hp
    u64 := fun x hx => by
      rcases List.mem_append.1 hx with hx | hx
      · exact h.u64 x hx
      · obtain rfl := List.mem_singleton.1 hx
        exact ⟨hi, hp⟩
    few := by simp [Dk.write]; omega
    fewops := by simp [Dk.write]; omega }

/-- What a method leaves that may lay the unsynced writes anew. -/
def DiskPost (w : World) (d kb sb : Nat) (v : Value) (D : Dk) (r : Value) (e : Ending) (w' : World) : Prop :=
  e = .returned r ∧ ∃ v', DiskAt w' d kb sb v' D ∧ Turned (Foot d kb sb v) w w' ∧ (v'.ownBlock = v.ownBlock ∨ ∀ k, v'.ownBlock = some k → w.heap.size ≤ k)

end Go.Proofs.YtokbmimbbeedcaaGreatDoor
