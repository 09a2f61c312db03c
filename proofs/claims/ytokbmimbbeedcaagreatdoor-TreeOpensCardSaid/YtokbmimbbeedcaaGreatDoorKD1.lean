/- The walk of within: are all numbers of a slice from lo to hi? -/
import Derived.Test.YtokbmimbbeedcaaGreatDoorRows
import Derived.Test.YtokbmimbbeedcaaGreatDoorKD0
namespace Go.Proofs.YtokbmimbbeedcaaGreatDoor
open Go.RowKit

/-- A slice reads as a list of int64. -/
def Ints (w : World) (p : Option Addr) (zs : List Int) : Prop :=
  zs ≠ [] → ∃ b off, p = some ⟨b, off, none⟩ ∧ ∀ i, i < zs.length → w.cell? ⟨b, off + i, none⟩ = some (.int .i64 (zs.getD i 0))

def allIn (lo hi : Int) (zs : List Int) : Bool := zs.all fun n => decide (lo ≤ n) && decide (n ≤ hi)

theorem allIn_take (lo hi : Int) (zs : List Int) (k : Nat) (h : k < zs.length) : allIn lo hi (zs.take (k + 1)) = (allIn lo hi (zs.take k) && (decide (lo ≤ zs.getD k 0) && decide (zs.getD k 0 ≤ hi))) := by
  unfold allIn
  rw [List.take_succ_eq_append_getElem h, List.all_append]
  simp [List.getD, h]

set_option maxRecDepth 10000 in
set_option maxHeartbeats 400000 in
theorem within_any (lo hi : Int) (p : Option Addr) (zs : List Int) (cap : Nat) (w : World) (hz : Ints w p zs) (hl : zs.length ≤ 9223372036854775807) :
    Calls Tryz.prog 24 #[.int .i64 lo, .int .i64 hi, .slice p zs.length cap] w fun e w' => e = .returned (.bool (allIn lo hi zs)) ∧ w = w' := by
  go_enter Tryz.func24, Tryz.ntmps24
  go_wp2
  go_loop [8, 11] (fun _ i => ∃ k : Nat, k ≤ zs.length ∧ i = .int .i64 k ∧ allIn lo hi (zs.take k) = true) (fun _ i => zs.length - (intOf i).toNat)
  case atStart => exact ⟨0, Nat.zero_le _, rfl, rfl⟩
  case round =>
    obtain ⟨k, hk, rfl, hall⟩ := hrel
    by_cases hlt : k < zs.length
    · obtain ⟨b, off, rfl, hc⟩ := hz (by intro h; simp [h] at hlt)
      have hck := hc k hlt
      have ht := allIn_take lo hi zs k hlt
      by_cases h1 : lo ≤ zs.getD k 0 ∧ zs.getD k 0 ≤ hi
      · obtain ⟨h1, h2⟩ := h1
        generalize hx : zs.getD k 0 = x at *
        have ht' : allIn lo hi (zs.take (k + 1)) = true := by rw [ht, hall]; simp [h1, h2]
        have HT := Lib.hid ht'
        clear ht ht' hall hc hz hx
        go_wp2
        go_round
        case rel => exact ⟨k + 1, by omega, by go_num, HT.out⟩
        case measure => simp [intOf]; omega
      · have hf : allIn lo hi zs = false := by
          cases hh : allIn lo hi zs
          · rfl
          · have := List.all_eq_true.1 hh (zs[k]) (List.getElem_mem hlt)
            simp at this
            exact absurd this (by simpa [List.getD, hlt] using h1)
        generalize hx : zs.getD k 0 = x at *
        have HF := Lib.hid hf
        clear ht hall hc hz hx hf
        by_cases h3 : x < lo
        · clear h1
          go_wp2
          go_ret
          exact ⟨by rw [HF.out]; rfl, rfl⟩
        · have h4 : hi < x := by omega
          clear h1
          go_wp2
          go_ret
          exact ⟨by rw [HF.out]; rfl, rfl⟩
    · obtain rfl : k = zs.length := by omega
      have ha : allIn lo hi zs = true := by simpa using hall
      have HA := Lib.hid ha
      clear hall hz ha
      go_wp2
      go_ret
      exact ⟨by rw [HA.out]; rfl, rfl⟩
end Go.Proofs.YtokbmimbbeedcaaGreatDoor

/- The disk as the model holds it, and the walks of its small methods. -/
namespace Go.Proofs.YtokbmimbbeedcaaGreatDoor
open Go.RowKit

theorem allIn_one (lo hi x : Int) : allIn lo hi [x] = (decide (lo ≤ x) && decide (x ≤ hi)) := by simp [allIn]

/-- The disk: its sectors as they are kept, as they are read, the unsynced writes, the count. -/
structure Dk where
  kept : List (List UInt8)
  seen : List (List UInt8)
  uns : List (Nat × List UInt8)
  ops : Nat

structure Dk.Ok (D : Dk) : Prop where
  len : D.seen.length = D.kept.length
  most : D.kept.length ≤ 65536
  some : 0 < D.kept.length
  k64 : ∀ s ∈ D.kept, s.length = 64
  s64 : ∀ s ∈ D.seen, s.length = 64
  u64 : ∀ x ∈ D.uns, x.1 < D.kept.length ∧ x.2.length = 64
  few : D.uns.length ≤ 1000000000000
  fewops : D.ops ≤ 1000000000000000

/-- A write's cells. -/
def wcells (x : Nat × List UInt8) : List Value := .int .i64 x.1 :: u8s x.2

def rows (l : List (List UInt8)) : List Value := (l.map u8s).flatten
def urows (l : List (Nat × List UInt8)) : List Value := (l.map wcells).flatten

/-- The disk at block d: sectors in kb and sb, the unsynced writes in v. -/
structure DiskAt (w : World) (d kb sb : Nat) (v : Value) (D : Dk) : Prop where
  ok : D.Ok
  box : w.heap[d]? = some (.cells #[.slice (some ⟨kb, 0, none⟩) D.kept.length D.kept.length, .slice (some ⟨sb, 0, none⟩) D.kept.length D.kept.length, v, .int .i64 D.ops] 67 (0, 0))
  kept : w.heap[kb]? = some (.cells (rows D.kept).toArray 284 (0, 0))
  seen : w.heap[sb]? = some (.cells (rows D.seen).toArray 284 (0, 0))
  uns : w.ownsRow 0 336 65 v D.uns.length (urows D.uns)
  dk : d ≠ kb
  ds : d ≠ sb
  ks : kb ≠ sb
  dv : v.ownBlock ≠ some d
  kv : v.ownBlock ≠ some kb
  sv : v.ownBlock ≠ some sb

/-- Its blocks. -/
def Foot (d kb sb : Nat) (v : Value) (k : Nat) : Prop := k = d ∨ k = kb ∨ k = sb ∨ v.ownBlock = some k

section
variable {w : World} {d kb sb : Nat} {v : Value} {D : Dk} (h : DiskAt w d kb sb v D)
include h
theorem DiskAt.c0 : w.cell? ⟨d, 0, none⟩ = some (.slice (some ⟨kb, 0, none⟩) D.kept.length D.kept.length) := by simp [World.cell?, h.box]
theorem DiskAt.c1 : w.cell? ⟨d, 1, none⟩ = some (.slice (some ⟨sb, 0, none⟩) D.kept.length D.kept.length) := by simp [World.cell?, h.box]
theorem DiskAt.c2 : w.cell? ⟨d, 2, none⟩ = some v := by simp [World.cell?, h.box]
theorem DiskAt.c3 : w.cell? ⟨d, 3, none⟩ = some (.int .i64 D.ops) := by simp [World.cell?, h.box]
/-- It stays where none of its blocks turns. -/
theorem DiskAt.kept' {F : Nat → Prop} {w' : World} (ht : Turned F w w') (hF : ∀ k, F k → ¬ Foot d kb sb v k) : DiskAt w' d kb sb v D :=
  ⟨h.ok, ht.heap h.box fun hf => hF _ hf (.inl rfl), ht.heap h.kept fun hf => hF _ hf (.inr (.inl rfl)), ht.heap h.seen fun hf => hF _ hf (.inr (.inr (.inl rfl))),
    ht.ownsRow h.uns fun k hk hf => hF k hf (.inr (.inr (.inr hk))), h.dk, h.ds, h.ks, h.dv, h.kv, h.sv⟩
end

/-! On nil. -/
end Go.Proofs.YtokbmimbbeedcaaGreatDoor
