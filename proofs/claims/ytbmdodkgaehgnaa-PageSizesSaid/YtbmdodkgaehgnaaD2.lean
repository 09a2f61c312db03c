/- The disk as the model holds it, and the walks of its small methods. -/
import Derived.Test.YtbmdodkgaehgnaaD1
namespace Go.Proofs.Ytbmdodkgaehgnaa
open Go.RowKit

theorem allIn_one (lo hi x : Int) : allIn lo hi [x] = (decide (lo ≤ x) && decide (x ≤ hi)) := by simp [allIn]

/-- The disk: its sectors as they are kept, as they are read, the unsynced writes, the count. -/
structure Dk where
  kept : List (List UInt8)
  seen : List (List UInt8)
  uns : List (Nat × List UInt8)
  ops : Nat

structure Dk.Ok (D : Dk) : Prop where
  len : D.seen.length = D.kept.length
  most : D.kept.length ≤ 65536
  some : 0 < D.kept.length
  k64 : ∀ s ∈ D.kept, s.length = 64
  s64 : ∀ s ∈ D.seen, s.length = 64
  u64 : ∀ x ∈ D.uns, x.1 < D.kept.length ∧ x.2.length = 64
  few : D.uns.length ≤ 1000000000000
  fewops : D.ops ≤ 1000000000000000

/-- A write's cells. -/
def wcells (x : Nat × List UInt8) : List Value := .int .i64 x.1 :: u8s x.2

def rows (l : List (List UInt8)) : List Value := (l.map u8s).flatten
def urows (l : List (Nat × List UInt8)) : List Value := (l.map wcells).flatten

/-- The disk at block d: sectors in kb and sb, the unsynced writes in v. -/
structure DiskAt (w : World) (d kb sb : Nat) (v : Value) (D : Dk) : Prop where
  ok : D.Ok
  box : w.heap[d]? = some (.cells #[.slice (some ⟨kb, 0, none⟩) D.kept.length D.kept.length, .slice (some ⟨sb, 0, none⟩) D.kept.length D.kept.length, v, .int .i64 D.ops] 81 (0, 0))
  kept : w.heap[kb]? = some (.cells (rows D.kept).toArray 97 (0, 0))
  seen : w.heap[sb]? = some (.cells (rows D.seen).toArray 97 (0, 0))
  uns : w.ownsRow 0 99 65 v D.uns.length (urows D.uns)
  dk : d ≠ kb
  ds : d ≠ sb
  ks : kb ≠ sb
  dv : v.ownBlock ≠ some d
  kv : v.ownBlock ≠ some kb
  sv : v.ownBlock ≠ some sb

/-- Its blocks. -/
def Foot (d kb sb : Nat) (v : Value) (k : Nat) : Prop := k = d ∨ k = kb ∨ k = sb ∨ v.ownBlock = some k

section
variable {w : World} {d kb sb : Nat} {v : Value} {D : Dk} (h : DiskAt w d kb sb v D)
include h
theorem DiskAt.c0 : w.cell? ⟨d, 0, none⟩ = some (.slice (some ⟨kb, 0, none⟩) D.kept.length D.kept.length) := by simp [World.cell?, h.box]
theorem DiskAt.c1 : w.cell? ⟨d, 1, none⟩ = some (.slice (some ⟨sb, 0, none⟩) D.kept.length D.kept.length) := by simp [World.cell?, h.box]
theorem DiskAt.c2 : w.cell? ⟨d, 2, none⟩ = some v := by simp [World.cell?, h.box]
theorem DiskAt.c3 : w.cell? ⟨d, 3, none⟩ = some (.int .i64 D.ops) := by simp [World.cell?, h.box]
theorem DiskAt.fz (o : Nat) : w.frozen? ⟨d, o, none⟩ = false := by simp [World.frozen?, h.box]
theorem DiskAt.dlt : d < w.heap.size := lt_of_heap h.box
theorem DiskAt.klt : kb < w.heap.size := lt_of_heap h.kept
theorem DiskAt.slt : sb < w.heap.size := lt_of_heap h.seen
theorem DiskAt.vlt {k : Nat} (hk : v.ownBlock = some k) : k < w.heap.size := (h.uns.lt k hk).2
theorem DiskAt.flt {k : Nat} (hk : Foot d kb sb v k) : k < w.heap.size := by
  rcases hk with rfl | rfl | rfl | hk
  · exact h.dlt
  · exact h.klt
  · exact h.slt
  · exact h.vlt hk
/-- It stays where none of its blocks turns. -/
theorem DiskAt.kept' {F : Nat → Prop} {w' : World} (ht : Turned F w w') (hF : ∀ k, F k → ¬ Foot d kb sb v k) : DiskAt w' d kb sb v D :=
  ⟨h.ok, ht.heap h.box fun hf => hF _ hf (.inl rfl), ht.heap h.kept fun hf => hF _ hf (.inr (.inl rfl)), ht.heap h.seen fun hf => hF _ hf (.inr (.inr (.inl rfl))),
    ht.ownsRow h.uns fun k hk hf => hF k hf (.inr (.inr (.inr hk))), h.dk, h.ds, h.ks, h.dv, h.kv, h.sv⟩
theorem DiskAt.len_k : ∀ x ∈ D.kept.map u8s, x.length = 64 := fun x hx => by
  obtain ⟨s, hs, rfl⟩ := List.mem_map.1 hx
  rw [length_u8s, h.ok.k64 s hs]
theorem DiskAt.len_s : ∀ x ∈ D.seen.map u8s, x.length = 64 := fun x hx => by
  obtain ⟨s, hs, rfl⟩ := List.mem_map.1 hx
  rw [length_u8s, h.ok.s64 s hs]
theorem DiskAt.len_u : ∀ x ∈ D.uns.map wcells, x.length = 65 := fun x hx => by
  obtain ⟨s, hs, rfl⟩ := List.mem_map.1 hx
  simp [wcells, length_u8s, (h.ok.u64 s hs).2]
end

theorem oneCell_wcells (x : Nat × List UInt8) : ∀ v ∈ wcells x, v.oneCell' = true := fun v hv => by
  rcases List.mem_cons.1 hv with rfl | hv
  · rfl
  · exact oneCell_u8s _ v hv

set_option maxRecDepth 10000 in
set_option maxHeartbeats 400000 in
theorem has_any (d : Nat) (p : Option Addr) (n cap : Nat) (x : Int) (w : World) (hn : n ≤ 65536) (h0 : w.cell? ⟨d, 0, none⟩ = some (.slice p n cap)) :
    Calls Try.prog 54 #[.pointer (some ⟨d, 0, none⟩), .int .i64 x] w fun e w' => e = .returned (.bool (decide (0 ≤ x) && decide (x < n))) ∧ Below w.heap.size w w' := by
  go_enter Try.func54, Try.ntmps54
  go_wp2_with (go_at_call 40; refine (within_any _ _ _ [x] _ _ (fun _ => ⟨w.heap.size, 0, rfl, ?_⟩) (by simp)).mono ?_)
  · intro i hi
    have : i = 0 := by simp at hi; omega
    subst this
    simp [go_sem]
  rintro e w' ⟨rfl, rfl⟩
  rw [allIn_one]
  go_wp2
  go_ret
  refine ⟨?_, (Below.refl _ _).alloc (Nat.le_refl _) _⟩
  have e : decide (x ≤ (n : Int) - 1) = decide (x < (n : Int)) := by by_cases hx : x < (n : Int) <;> simp [hx] <;> omega
  rw [e]
  rfl

set_option maxRecDepth 10000 in
set_option maxHeartbeats 400000 in
theorem ops_any {w : World} {d kb sb : Nat} {v : Value} {D : Dk} (h : DiskAt w d kb sb v D) :
    Calls Try.prog 23 #[.pointer (some ⟨d, 0, none⟩)] w fun e w' => e = .returned (.int .i64 D.ops) ∧ w = w' := by
  have h3 := h.c3
  go_enter Try.func23, Try.ntmps23
  go_wp2
  go_ret
  exact ⟨rfl, rfl⟩

set_option maxRecDepth 10000 in
set_option maxHeartbeats 400000 in
theorem sectors_any {w : World} {d kb sb : Nat} {v : Value} {D : Dk} (h : DiskAt w d kb sb v D) :
    Calls Try.prog 30 #[.pointer (some ⟨d, 0, none⟩)] w fun e w' => e = .returned (.int .i64 D.kept.length) ∧ w = w' := by
  have h0 := h.c0
  go_enter Try.func30, Try.ntmps30
  go_wp2
  go_ret
  exact ⟨rfl, rfl⟩

/-! On nil. -/
set_option maxRecDepth 10000 in
set_option maxHeartbeats 400000 in
theorem ops_nil (w : World) : Calls Try.prog 23 #[.pointer none] w fun e w' => e = .returned (.int .i64 0) ∧ w = w' := by
  go_enter Try.func23, Try.ntmps23
  go_wp2
  go_ret
  exact ⟨rfl, rfl⟩
set_option maxRecDepth 10000 in
set_option maxHeartbeats 400000 in
theorem sectors_nil (w : World) : Calls Try.prog 30 #[.pointer none] w fun e w' => e = .returned (.int .i64 0) ∧ w = w' := by
  go_enter Try.func30, Try.ntmps30
  go_wp2
  go_ret
  exact ⟨rfl, rfl⟩
set_option maxRecDepth 10000 in
set_option maxHeartbeats 400000 in
theorem read_nil (x : Int) (w : World) : Calls Try.prog 31 #[.pointer none, .int .i64 x] w fun e w' => e = .returned (.tuple #[.string ByteArray.empty, .int .i64 1]) ∧ w = w' := by
  go_enter Try.func31, Try.ntmps31
  go_wp2
  go_ret2
  exact ⟨rfl, rfl⟩
set_option maxRecDepth 10000 in
set_option maxHeartbeats 400000 in
theorem write_nil (x : Int) (s : ByteArray) (w : World) : Calls Try.prog 43 #[.pointer none, .int .i64 x, .string s] w fun e w' => e = .returned (.int .i64 1) ∧ w = w' := by
  go_enter Try.func43, Try.ntmps43
  go_wp2
  go_ret
  exact ⟨rfl, rfl⟩
set_option maxRecDepth 10000 in
set_option maxHeartbeats 400000 in
theorem sync_nil (w : World) : Calls Try.prog 47 #[.pointer none] w fun e w' => e = .returned (.int .i64 1) ∧ Below w.heap.size w w' := by
  go_enter Try.func47, Try.ntmps47
  go_wp2
  go_ret
  exact ⟨rfl, (Below.refl _ _).alloc (Nat.le_refl _) _⟩
set_option maxRecDepth 10000 in
set_option maxHeartbeats 400000 in
theorem crash_nil (p : Option Addr) (n cap : Nat) (w : World) : Calls Try.prog 48 #[.pointer none, .slice p n cap] w fun e w' => e = .returned (.int .i64 1) ∧ Below w.heap.size w w' := by
  go_enter Try.func48, Try.ntmps48
  go_wp2
  go_step3
  go_wp2
  rw [Exit.noGoto_ret]
  go_ret
  exact ⟨rfl, ((Below.refl _ _).alloc (Nat.le_refl _) _).alloc (by simp) _⟩
set_option maxRecDepth 10000 in
set_option maxHeartbeats 400000 in
theorem unsynced_nil (w : World) : Calls Try.prog 29 #[.pointer none] w fun e w' => e = .returned (.slice none 0 0) ∧ w = w' := by
  go_enter Try.func29, Try.ntmps29
  go_wp2
  go_ret
  exact ⟨rfl, rfl⟩
end Go.Proofs.Ytbmdodkgaehgnaa
