/- The walk of within: are all numbers of a slice from lo to hi? -/
import Derived.Test.YtapmppiiphbcpaaRows
import Derived.Test.YtapmppiiphbcpaaKD0
namespace Go.Proofs.Ytapmppiiphbcpaa
open Go.RowKit

/-- A slice reads as a list of int64. -/
def Ints (w : World) (p : Option Addr) (zs : List Int) : Prop :=
  zs ≠ [] → ∃ b off, p = some ⟨b, off, none⟩ ∧ ∀ i, i < zs.length → w.cell? ⟨b, off + i, none⟩ = some (.int .i64 (zs.getD i 0))

def allIn (lo hi : Int) (zs : List Int) : Bool := zs.all fun n => decide (lo ≤ n) && decide (n ≤ hi)

theorem allIn_take (lo hi : Int) (zs : List Int) (k : Nat) (h : k < zs.length) : allIn lo hi (zs.take (k + 1)) = (allIn lo hi (zs.take k) && (decide (lo ≤ zs.getD k 0) && decide (zs.getD k 0 ≤ hi))) := by
  unfold allIn
  rw [List.take_succ_eq_append_getElem h, List.all_append]
  simp [List.getD, h]

set_option maxRecDepth 10000 in
set_option maxHeartbeats 400000 in
theorem within_any (lo hi : Int) (p : Option Addr) (zs : List Int) (cap : Nat) (w : World) (hz : Ints w p zs) (hl : zs.length ≤ 9223372036854775807) :
    Calls Try.prog 46 #[.int .i64 lo, .int .i64 hi, .slice p zs.length cap] w fun e w' => e = .returned (.bool (allIn lo hi zs)) ∧ w = w' := by
  go_enter Try.func46, Try.ntmps46
  go_wp2
  go_loop [8, 11] (fun _ i => ∃ k : Nat, k ≤ zs.length ∧ i = .int .i64 k ∧ allIn lo hi (zs.take k) = true) (fun _ i => zs.length - (intOf i).toNat)
  case atStart => exact ⟨0, Nat.zero_le _, rfl, rfl⟩
  case round =>
    obtain ⟨k, hk, rfl, hall⟩ := hrel
    by_cases hlt : k < zs.length
    · obtain ⟨b, off, rfl, hc⟩ := hz (by intro h; simp [h] at hlt)
      have hck := hc k hlt
      have ht := allIn_take lo hi zs k hlt
      by_cases h1 : lo ≤ zs.getD k 0 ∧ zs.getD k 0 ≤ hi
      · obtain ⟨h1, h2⟩ := h1
        generalize hx : zs.getD k 0 = x at *
        have ht' : allIn lo hi (zs.take (k + 1)) = true := by rw [ht, hall]; simp [h1, h2]
        have HT := Lib.hid ht'
        clear ht ht' hall hc hz hx
        go_wp2
        go_round
        case rel => exact ⟨k + 1, by omega, by go_num, HT.out⟩
        case measure => simp [intOf]; omega
      · have hf : allIn lo hi zs = false := by
          cases hh : allIn lo hi zs
          · rfl
          · have := List.all_eq_true.1 hh (zs[k]) (List.getElem_mem hlt)
            simp at this
            exact absurd this (by simpa [List.getD, hlt] using h1)
        generalize hx : zs.getD k 0 = x at *
        have HF := Lib.hid hf
        clear ht hall hc hz hx hf
        by_cases h3 : x < lo
        · clear h1
          go_wp2
          go_ret
          exact ⟨by rw [HF.out]; rfl, rfl⟩
        · have h4 : hi < x := by omega
          clear h1
          go_wp2
          go_ret
          exact ⟨by rw [HF.out]; rfl, rfl⟩
    · obtain rfl : k = zs.length := by omega
      have ha : allIn lo hi zs = true := by simpa using hall
      have HA := Lib.hid ha
      clear hall hz ha
      go_wp2
      go_ret
      exact ⟨by rw [HA.out]; rfl, rfl⟩
end Go.Proofs.Ytapmppiiphbcpaa

/- The disk as the model holds it, and the walks of its small methods. -/
namespace Go.Proofs.Ytapmppiiphbcpaa
open Go.RowKit

theorem allIn_one (lo hi x : Int) : allIn lo hi [x] = (decide (lo ≤ x) && decide (x ≤ hi)) := by simp [allIn]

/-- The disk: its sectors as they are kept, as they are read, the unsynced writes, the count. -/
structure Dk where
  kept : List (List UInt8)
  seen : List (List UInt8)
  uns : List (Nat × List UInt8)
  ops : Nat

structure Dk.Ok (D : Dk) : Prop where
  len : D.seen.length = D.kept.length
  most : D.kept.length ≤ 65536
  some : 0 < D.kept.length
  k64 : ∀ s ∈ D.kept, s.length = 64
  s64 : ∀ s ∈ D.seen, s.length = 64
  u64 : ∀ x ∈ D.uns, x.1 < D.kept.length ∧ x.2.length = 64
  few : D.uns.length ≤ 1000000000000
  fewops : D.ops ≤ 1000000000000000

/-- A write's cells. -/
def wcells (x : Nat × List UInt8) : List Value := .int .i64 x.1 :: u8s x.2

def rows (l : List (List UInt8)) : List Value := (l.map u8s).flatten
def urows (l : List (Nat × List UInt8)) : List Value := (l.map wcells).flatten

/-- The disk at block d: sectors in kb and sb, the unsynced writes in v. -/
structure DiskAt (w : World) (d kb sb : Nat) (v : Value) (D : Dk) : Prop where
  ok : D.Ok
  box : w.heap[d]? = some (.cells #[.slice (some ⟨kb, 0, none⟩) D.kept.length D.kept.length, .slice (some ⟨sb, 0, none⟩) D.kept.length D.kept.length, v, .int .i64 D.ops] 92 (0, 0))
  kept : w.heap[kb]? = some (.cells (rows D.kept).toArray 100 (0, 0))
  seen : w.heap[sb]? = some (.cells (rows D.seen).toArray 100 (0, 0))
  uns : w.ownsRow 0 102 65 v D.uns.length (urows D.uns)
  dk : d ≠ kb
  ds : d ≠ sb
  ks : kb ≠ sb
  dv : v.ownBlock ≠ some d
  kv : v.ownBlock ≠ some kb
  sv : v.ownBlock ≠ some sb

/-- Its blocks. -/
def Foot (d kb sb : Nat) (v : Value) (k : Nat) : Prop := k = d ∨ k = kb ∨ k = sb ∨ v.ownBlock = some k

section
variable {w : World} {d kb sb : Nat} {v : Value} {D : Dk} (h : DiskAt w d kb sb v D)
include h
theorem DiskAt.c0 : w.cell? ⟨d, 0, none⟩ = some (.slice (some ⟨kb, 0, none⟩) D.kept.length D.kept.length) := by simp [World.cell?, h.box]
theorem DiskAt.c1 : w.cell? ⟨d, 1, none⟩ = some (.slice (some ⟨sb, 0, none⟩) D.kept.length D.kept.length) := by simp [World.cell?, h.box]
theorem DiskAt.c2 : w.cell? ⟨d, 2, none⟩ = some v := by simp [World.cell?, h.box]
theorem DiskAt.c3 : w.cell? ⟨d, 3, none⟩ = some (.int .i64 D.ops) := by simp [World.cell?, h.box]
theorem DiskAt.fz (o : Nat) : w.frozen? ⟨d, o, none⟩ = false := by simp [World.frozen?, h.box]
theorem DiskAt.dlt : d < w.heap.size := lt_of_heap h.box
theorem DiskAt.klt : kb < w.heap.size := lt_of_heap h.kept
theorem DiskAt.slt : sb < w.heap.size := lt_of_heap h.seen
theorem DiskAt.vlt {k : Nat} (hk : v.ownBlock = some k) : k < w.heap.size := (h.uns.lt k hk).2
theorem DiskAt.flt {k : Nat} (hk : Foot d kb sb v k) : k < w.heap.size := by
  rcases hk with rfl | rfl | rfl | hk
  · exact h.dlt
  · exact h.klt
  · exact h.slt
  · exact h.vlt hk
/-- It stays where none of its blocks turns. -/
theorem DiskAt.kept' {F : Nat → Prop} {w' : World} (ht : Turned F w w') (hF : ∀ k, F k → ¬ Foot d kb sb v k) : DiskAt w' d kb sb v D :=
  ⟨h.ok, ht.heap h.box fun hf => hF _ hf (.inl rfl), ht.heap h.kept fun hf => hF _ hf (.inr (.inl rfl)), ht.heap h.seen fun hf => hF _ hf (.inr (.inr (.inl rfl))),
    ht.ownsRow h.uns fun k hk hf => hF k hf (.inr (.inr (.inr hk))), h.dk, h.ds, h.ks, h.dv, h.kv, h.sv⟩
theorem DiskAt.len_k : ∀ x ∈ D.kept.map u8s, x.length = 64 := fun x hx => by
  obtain ⟨s, hs, rfl⟩ := List.mem_map.1 hx
  rw [length_u8s, h.ok.k64 s hs]
theorem DiskAt.len_s : ∀ x ∈ D.seen.map u8s, x.length = 64 := fun x hx => by
  obtain ⟨s, hs, rfl⟩ := List.mem_map.1 hx
  rw [length_u8s, h.ok.s64 s hs]
theorem DiskAt.len_u : ∀ x ∈ D.uns.map wcells, x.length = 65 := fun x hx => by
  obtain ⟨s, hs, rfl⟩ := List.mem_map.1 hx
  simp [wcells, length_u8s, (h.ok.u64 s hs).2]
end

theorem oneCell_wcells (x : Nat × List UInt8) : ∀ v ∈ wcells x, v.oneCell' = true := fun v hv => by
  rcases List.mem_cons.1 hv with rfl | hv
  · rfl
  · exact oneCell_u8s _ v hv

set_option maxRecDepth 10000 in
set_option maxHeartbeats 400000 in
theorem has_any (d : Nat) (p : Option Addr) (n cap : Nat) (x : Int) (w : World) (hn : n ≤ 65536) (h0 : w.cell? ⟨d, 0, none⟩ = some (.slice p n cap)) :
    Calls Try.prog 54 #[.pointer (some ⟨d, 0, none⟩), .int .i64 x] w fun e w' => e = .returned (.bool (decide (0 ≤ x) && decide (x < n))) ∧ Below w.heap.size w w' := by
  go_enter Try.func54, Try.ntmps54
  go_wp2_with (go_at_call 46; refine (within_any _ _ _ [x] _ _ (fun _ => ⟨w.heap.size, 0, rfl, ?_⟩) (by simp)).mono ?_)
  · intro i hi
    have : i = 0 := by simp at hi; omega
    subst this
    simp [go_sem]
  rintro e w' ⟨rfl, rfl⟩
  rw [allIn_one]
  go_wp2
  go_ret
  refine ⟨?_, (Below.refl _ _).alloc (Nat.le_refl _) _⟩
  have e : decide (x ≤ (n : Int) - 1) = decide (x < (n : Int)) := by by_cases hx : x < (n : Int) <;> simp [hx] <;> omega
  rw [e]
  rfl

set_option maxRecDepth 10000 in
set_option maxHeartbeats 400000 in
theorem ops_any {w : World} {d kb sb : Nat} {v : Value} {D : Dk} (h : DiskAt w d kb sb v D) :
    Calls Try.prog 19 #[.pointer (some ⟨d, 0, none⟩)] w fun e w' => e = .returned (.int .i64 D.ops) ∧ w = w' := by
  have h3 := h.c3
  go_enter Try.func19, Try.ntmps19
  go_wp2
  go_ret
  exact ⟨rfl, rfl⟩

set_option maxRecDepth 10000 in
set_option maxHeartbeats 400000 in
theorem sectors_any {w : World} {d kb sb : Nat} {v : Value} {D : Dk} (h : DiskAt w d kb sb v D) :
    Calls Try.prog 20 #[.pointer (some ⟨d, 0, none⟩)] w fun e w' => e = .returned (.int .i64 D.kept.length) ∧ w = w' := by
  have h0 := h.c0
  go_enter Try.func20, Try.ntmps20
  go_wp2
  go_ret
  exact ⟨rfl, rfl⟩

/-! On nil. -/
set_option maxRecDepth 10000 in
set_option maxHeartbeats 400000 in
theorem ops_nil (w : World) : Calls Try.prog 19 #[.pointer none] w fun e w' => e = .returned (.int .i64 0) ∧ w = w' := by
  go_enter Try.func19, Try.ntmps19
  go_wp2
  go_ret
  exact ⟨rfl, rfl⟩
set_option maxRecDepth 10000 in
set_option maxHeartbeats 400000 in
theorem sectors_nil (w : World) : Calls Try.prog 20 #[.pointer none] w fun e w' => e = .returned (.int .i64 0) ∧ w = w' := by
  go_enter Try.func20, Try.ntmps20
  go_wp2
  go_ret
  exact ⟨rfl, rfl⟩
set_option maxRecDepth 10000 in
set_option maxHeartbeats 400000 in
theorem read_nil (x : Int) (w : World) : Calls Try.prog 21 #[.pointer none, .int .i64 x] w fun e w' => e = .returned (.tuple #[.string ByteArray.empty, .int .i64 1]) ∧ w = w' := by
  go_enter Try.func21, Try.ntmps21
  go_wp2
  go_ret2
  exact ⟨rfl, rfl⟩
set_option maxRecDepth 10000 in
set_option maxHeartbeats 400000 in
theorem write_nil (x : Int) (s : ByteArray) (w : World) : Calls Try.prog 43 #[.pointer none, .int .i64 x, .string s] w fun e w' => e = .returned (.int .i64 1) ∧ w = w' := by
  go_enter Try.func43, Try.ntmps43
  go_wp2
  go_ret
  exact ⟨rfl, rfl⟩
set_option maxRecDepth 10000 in
set_option maxHeartbeats 400000 in
theorem sync_nil (w : World) : Calls Try.prog 44 #[.pointer none] w fun e w' => e = .returned (.int .i64 1) ∧ Below w.heap.size w w' := by
  go_enter Try.func44, Try.ntmps44
  go_wp2
  go_ret
  exact ⟨rfl, (Below.refl _ _).alloc (Nat.le_refl _) _⟩
set_option maxRecDepth 10000 in
set_option maxHeartbeats 400000 in
theorem crash_nil (p : Option Addr) (n cap : Nat) (w : World) : Calls Try.prog 45 #[.pointer none, .slice p n cap] w fun e w' => e = .returned (.int .i64 1) ∧ Below w.heap.size w w' := by
  go_enter Try.func45, Try.ntmps45
  go_wp2
  go_step3
  go_wp2
  rw [Exit.noGoto_ret]
  go_ret
  exact ⟨rfl, ((Below.refl _ _).alloc (Nat.le_refl _) _).alloc (by simp) _⟩
set_option maxRecDepth 10000 in
set_option maxHeartbeats 400000 in
theorem unsynced_nil (w : World) : Calls Try.prog 18 #[.pointer none] w fun e w' => e = .returned (.slice none 0 0) ∧ w = w' := by
  go_enter Try.func18, Try.ntmps18
  go_wp2
  go_ret
  exact ⟨rfl, rfl⟩
end Go.Proofs.Ytapmppiiphbcpaa
