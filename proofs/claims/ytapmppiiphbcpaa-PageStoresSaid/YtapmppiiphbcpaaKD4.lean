/- The walks of New and Read. -/
import Derived.RegionTactic
import Derived.BigRegion
import Derived.ChangeAlike
import Derived.Test.YtapmppiiphbcpaaKD3
namespace Go.Proofs.Ytapmppiiphbcpaa
open Go.RowKit

def zero64 : List UInt8 := List.replicate 64 0
/-- The cells of so many new sectors. -/
def newRows (n : Nat) : Array Value := (rows (List.replicate n zero64)).toArray

theorem info69 : (Try.prog.info? 100).map (fun i => (i.zero, i.size, i.bytes)) = some (some (.agg (u8s zero64).toArray), 64, 64) := by kernel_rfl

theorem flatten_rep {α : Type} (x : α) (n z : Nat) : (List.replicate n (List.replicate z x)).flatten = List.replicate (n * z) x := by
  induction n with
  | zero => simp
  | succ n ih => rw [List.replicate_succ, List.flatten_cons, ih, List.replicate_append_replicate, Nat.add_mul]; congr 1; omega
theorem u8s_zero64 : u8s zero64 = List.replicate 64 (u8v 0) := by simp only [u8s, zero64, List.map_replicate]
theorem madeCells_rows (n : Nat) : madeCells (u8s zero64).toArray (n * 64) = newRows n := by
  unfold newRows rows
  rw [List.map_replicate, u8s_zero64, flatten_rep]
  apply Array.ext_getElem?
  intro i
  by_cases h : i < n * 64
  · have := Nat.mod_lt i (by omega : 64 > 0)
    have e : (List.replicate 64 (u8v 0)).toArray[i % 64]! = u8v 0 := by
      rw [getElem!_pos _ _ (by simpa using this)]
      simp only [List.getElem_toArray, List.getElem_replicate]
    simp only [madeCells, List.size_toArray, List.length_replicate, Array.getElem?_map, List.getElem?_toArray, List.getElem?_replicate, h, if_true]
    rw [Array.getElem?_range, if_pos h]
    simp only [Option.map_some, e]
  · rw [Array.getElem?_eq_none (by rw [size_madeCells]; omega), Array.getElem?_eq_none (by simp; omega)]

theorem make_rows (n : Nat) (hn : n ≤ 65536) (w : World) : (Instr.makeSlice 87 (.int .i64 n) (.int .i64 n)).run Try.prog w = .ok (.slice (some ⟨w.heap.size, 0, none⟩) n n) (w.alloc (.cells (newRows n) 100)) := by
  obtain ⟨i, hi, hz, hs, hb⟩ := info_parts info69
  have h := run_make (P := Try.prog) w 87 100 i _ Try.underlying87 hi hz .i64 .i64 n n (by omega) (by omega) (by rw [hb]; omega) (by omega)
  rw [h]
  simp only [Int.toNat_natCast, hs, Value.cells, madeCells_rows]

theorem flatten_same (n : Nat) : rows (List.replicate n zero64) = (newRows n).toList := by simp [newRows]

/-- A new disk. -/
def Dk.new (n : Nat) : Dk := { kept := List.replicate n zero64, seen := List.replicate n zero64, uns := [], ops := 0 }
theorem Dk.new_ok (n : Nat) (h1 : 1 ≤ n) (h2 : n ≤ 65536) : (Dk.new n).Ok :=
  ⟨by simp [Dk.new], by simpa [Dk.new] using h2, by simp [Dk.new]; omega, fun s hs => by rw [(List.mem_replicate.1 hs).2]; rfl, fun s hs => by rw [(List.mem_replicate.1 hs).2]; rfl, fun x hx => by simp [Dk.new] at hx, by simp [Dk.new], by simp [Dk.new]⟩

/-- What New leaves. -/
def NewPost (w : World) (n : Nat) (e : Ending) (w' : World) : Prop :=
  ∃ d kb sb, e = .returned (.tuple #[.pointer (some ⟨d, 0, none⟩), .int .i64 0]) ∧ DiskAt w' d kb sb (.slice none 0 0) (Dk.new n) ∧ Below w.heap.size w w' ∧ w.heap.size ≤ d ∧ w.heap.size ≤ kb ∧ w.heap.size ≤ sb

theorem new_close {w X : World} {n d kb sb : Nat} (h1 : 1 ≤ n) (h2 : n ≤ 65536) (hsz : X.heap.size = d) (hk : X.heap[kb]? = some (.cells (newRows n) 100)) (hs : X.heap[sb]? = some (.cells (newRows n) 100))
    (hks : kb ≠ sb) (hb : Below w.heap.size w X) (hkw : w.heap.size ≤ kb) (hsw : w.heap.size ≤ sb) :
    NewPost w n (.returned (.tuple #[.pointer (some ⟨d, 0, none⟩), .int .i64 0])) (X.alloc (.cells #[.slice (some ⟨kb, 0, none⟩) n n, .slice (some ⟨sb, 0, none⟩) n n, .slice none 0 0, .int .i64 0] 92)).drew := by
  subst hsz
  have hkd := lt_of_heap hk
  have hsd := lt_of_heap hs
  have hn : (Dk.new n).kept.length = n := by simp [Dk.new]
  refine ⟨X.heap.size, kb, sb, rfl, ⟨Dk.new_ok n h1 h2, ?_, ?_, ?_, World.ownsRow_nil _ _ _ _, by omega, by omega, hks, by simp [Value.ownBlock], by simp [Value.ownBlock], by simp [Value.ownBlock]⟩, (hb.alloc hb.size _).drew, hb.size, hkw, hsw⟩
  · rw [hn]; exact heap_alloc_new _ _
  · exact (Below.heap_alloc X _ kb hkd).trans hk
  · exact (Below.heap_alloc X _ sb hsd).trans hs

set_option maxRecDepth 10000 in
set_option maxHeartbeats 1000000 in
theorem new_any (n : Nat) (h1 : 1 ≤ n) (h2 : n ≤ 65536) (w : World) : Calls Try.prog 14 #[.int .i64 n] w (NewPost w n) := by
  have hmk := make_rows n h2
  go_enter Try.func14, Try.ntmps14
  go_wp2_with (go_at_call 46; refine (within_any _ _ _ [(n : Int)] _ _ (fun _ => ⟨w.heap.size, 0, rfl, ?c1⟩) (by simp)).mono ?c2)
  case c1 =>
    intro i hi
    have : i = 0 := by simp at hi; omega
    subst this
    simp [go_sem]
  case c2 =>
    rintro e w' ⟨rfl, rfl⟩
    have ha : allIn 1 65536 [(n : Int)] = true := by rw [allIn_one]; simp; omega
    rw [ha]
    go_wp2
    go_region
    all_goals go_wp2
    all_goals go_ret2
    all_goals refine new_close h1 h2 ?_ ?_ ?_ ?_ ?_ ?_ ?_
    all_goals first | omega | exact below_al (below_al (below_al (below_al (Below.refl _ _) _) _) _) _ | (simp only [heap_alloc_if, World.size_alloc]; repeat (first | rw [if_pos trivial] | rw [if_neg (by omega)] | rw [if_pos (by omega)])) | simp

set_option maxRecDepth 10000 in
set_option maxHeartbeats 400000 in
theorem new_bad (n : Int) (h : n < 1 ∨ 65536 < n) (w : World) : Calls Try.prog 14 #[.int .i64 n] w fun e w' => e = .returned (.tuple #[.pointer none, .int .i64 2]) ∧ Below w.heap.size w w' := by
  go_enter Try.func14, Try.ntmps14
  go_wp2_with (go_at_call 46; refine (within_any _ _ _ [(n : Int)] _ _ (fun _ => ⟨w.heap.size, 0, rfl, ?c1⟩) (by simp)).mono ?c2)
  case c1 =>
    intro i hi
    have : i = 0 := by simp at hi; omega
    subst this
    simp [go_sem]
  case c2 =>
    rintro e w' ⟨rfl, rfl⟩
    have ha : allIn 1 65536 [(n : Int)] = false := by rw [allIn_one]; simp; omega
    rw [ha]
    clear h
    go_wp2
    go_ret2
    exact ⟨rfl, (Below.refl _ _).alloc (Nat.le_refl _) _⟩
end Go.Proofs.Ytapmppiiphbcpaa

/- The walks of Read and Write. -/
namespace Go.Proofs.Ytapmppiiphbcpaa
open Go.RowKit

/-- What Read leaves: the bytes that are seen. -/
def ReadPost (w : World) (s : List UInt8) (e : Ending) (w' : World) : Prop := e = .returned (.tuple #[.string ⟨s.toArray⟩, .int .i64 0]) ∧ Below w.heap.size w w'

set_option maxRecDepth 10000 in
set_option maxHeartbeats 400000 in
theorem read_any {w : World} {d kb sb : Nat} {v : Value} {D : Dk} (h : DiskAt w d kb sb v D) (i : Nat) (s : List UInt8) (hs : D.seen[i]? = some s) :
    Calls Try.prog 21 #[.pointer (some ⟨d, 0, none⟩), .int .i64 i] w (ReadPost w s) := by
  have hi : i < D.kept.length := by rw [← h.ok.len]; exact (List.getElem?_eq_some_iff.1 hs).1
  have hm := h.ok.most
  have h0 := h.c0
  have hl := h.ok.s64 s (List.mem_of_getElem? hs)
  go_enter Try.func21, Try.ntmps21
  go_wp2_with (go_at_call 54; refine (has_any d _ _ _ i w hm h0).mono ?c1)
  case c1 =>
    rintro e w1 ⟨rfl, hb⟩
    have e1 : (decide (0 ≤ (i : Int)) && decide ((i : Int) < (D.kept.length : Int))) = true := by simp; omega
    rw [e1]
    have hT : Turned (fun _ => False) w w1 := Turned.new hb
    have h1 := h.kept' hT (fun _ => False.elim)
    have hc := h1.c1
    have hr : w1.rangeAt sb (i * 64) (u8s s) := by
      have := rangeAt_whole h1.seen (i * 64) 64
      rw [rows, row_at h1.len_s i (u8s s) (by simp [hs])] at this
      exact this
    have hk := run_convert_u8s (P := Try.prog) w1 104 9 5 Try.underlying104 Try.underlying5 Try.underlying9 sb (i * 64) 64 s hr
    rw [hl] at hk
    clear h0 h h1 hr hl
    go_wp2
    go_ret2
    exact ⟨rfl, hb⟩

set_option maxRecDepth 10000 in
set_option maxHeartbeats 400000 in
theorem read_bad {w : World} {d kb sb : Nat} {v : Value} {D : Dk} (h : DiskAt w d kb sb v D) (i : Int) (hi : i < 0 ∨ D.kept.length ≤ i) :
    Calls Try.prog 21 #[.pointer (some ⟨d, 0, none⟩), .int .i64 i] w fun e w' => e = .returned (.tuple #[.string ByteArray.empty, .int .i64 10]) ∧ Below w.heap.size w w' := by
  have hm := h.ok.most
  have h0 := h.c0
  have e1 : (decide (0 ≤ (i : Int)) && decide ((i : Int) < (D.kept.length : Int))) = false := by simp; omega
  have E1 := Lib.hid e1
  clear hi e1
  go_enter Try.func21, Try.ntmps21
  go_wp2_with (go_at_call 54; refine (has_any d _ _ _ i w hm h0).mono ?c1)
  case c1 =>
    rintro e w1 ⟨rfl, hb⟩
    rw [E1.out]
    go_wp2
    go_ret2
    exact ⟨rfl, hb⟩
end Go.Proofs.Ytapmppiiphbcpaa

/- The walk of Write. -/
namespace Go.Proofs.Ytapmppiiphbcpaa
open Go.RowKit

/-- A text, with bytes 0 behind it up to 64. -/
def pad (s : List UInt8) : List UInt8 := s ++ List.replicate (64 - s.length) 0
theorem length_pad {s : List UInt8} (h : s.length ≤ 64) : (pad s).length = 64 := by simp [pad]; omega

def Dk.write (D : Dk) (i : Nat) (s : List UInt8) : Dk := { D with seen := D.seen.set i (pad s), uns := D.uns ++ [(i, pad s)], ops := D.ops + 1 }

theorem Dk.Ok.write {D : Dk} (h : D.Ok) (i : Nat) {s : List UInt8} (hi : i < D.kept.length) (hp : (pad s).length = 64) (hu : D.uns.length < 1000000000000) (ho : D.ops < 1000000000000000) : (D.write i s).Ok :=
  { h with
    len := by simp [Dk.write, h.len]
    s64 := fun x hx => by
      rcases List.mem_or_eq_of_mem_set hx with hx | rfl
      · exact h.s64 x hx
      · exact hp
    u64 := fun x hx => by
      rcases List.mem_append.1 hx with hx | hx
      · exact h.u64 x hx
      · obtain rfl := List.mem_singleton.1 hx
        exact ⟨hi, hp⟩
    few := by simp [Dk.write]; omega
    fewops := by simp [Dk.write]; omega }

/-- What a method leaves that may lay the unsynced writes anew. -/
def DiskPost (w : World) (d kb sb : Nat) (v : Value) (D : Dk) (r : Value) (e : Ending) (w' : World) : Prop :=
  e = .returned r ∧ ∃ v', DiskAt w' d kb sb v' D ∧ Turned (Foot d kb sb v) w w' ∧ (v'.ownBlock = v.ownBlock ∨ ∀ k, v'.ownBlock = some k → w.heap.size ≤ k)

theorem info71 : (Try.prog.info? 102).map (fun i => (i.zero, i.size, i.bytes)) = some (some (.agg (wcells (0, zero64)).toArray), 65, 72) := by kernel_rfl

theorem build71 (x : Int) (w : World) : (Instr.build 102 #[(0, .int .i64 x)]).run Try.prog w = .ok (.agg (.int .i64 x :: u8s zero64).toArray) w := by kernel_rfl
theorem zero71 (w : World) : (zeroValue 102).run Try.prog w = .ok (.agg (.int .i64 0 :: u8s zero64).toArray) w := by kernel_rfl

theorem splice_pad (i : Int) (s : List UInt8) (_ : s.length ≤ 64) : splice (splice (.int .i64 0 :: u8s zero64) 0 (.int .i64 i :: u8s zero64)) 1 (u8s s) = .int .i64 i :: u8s (pad s) := by
  rw [splice_all (Value.int .i64 0 :: u8s zero64) (.int .i64 i :: u8s zero64) rfl]
  simp only [splice, List.take_succ_cons, List.take_zero, List.cons_append, List.nil_append, List.cons.injEq, true_and]
  rw [length_u8s, Nat.add_comm, List.drop_succ_cons, u8s_zero64, List.drop_replicate, pad]
  simp [u8s]
theorem und71 : ∃ fs, Try.prog.underlying 102 = some (.struct fs) := ⟨_, Try.underlying102⟩

set_option maxRecDepth 10000 in
set_option maxHeartbeats 1000000 in
theorem write_any {w : World} {d kb sb : Nat} {v : Value} {D : Dk} (h : DiskAt w d kb sb v D) (i : Nat) (s : List UInt8) (hi : i < D.kept.length) (hs : s.length ≤ 64) (hu : D.uns.length < 1000000000000) (ho : D.ops < 1000000000000000) :
    Calls Try.prog 43 #[.pointer (some ⟨d, 0, none⟩), .int .i64 i, .string ⟨s.toArray⟩] w (DiskPost w d kb sb v (D.write i s) (.int .i64 0)) := by
  have hm := h.ok.most
  have h0 := h.c0
  go_enter Try.func43, Try.ntmps43
  go_wp2_with (go_at_call 54; refine (has_any d _ _ _ i w hm h0).mono ?c1)
  case c1 =>
    rintro e w1 ⟨rfl, hb⟩
    have e1 : (decide (0 ≤ (i : Int)) && decide ((i : Int) < (D.kept.length : Int))) = true := by simp; omega
    rw [e1]
    have hT : Turned (fun _ => False) w w1 := Turned.new hb
    have h1 := h.kept' hT (fun _ => False.elim)
    have hsz : (⟨s.toArray⟩ : ByteArray).size = s.length := by simp [ByteArray.size]
    have h0' : ∀ k, Foot d kb sb v k → k < w.heap.size := fun k hk => h.flt hk
    clear h h0 hb
    have hb71 := build71 i w1
    have hz71 := zero71 w1
    have h65 : ∀ x ∈ (Value.int .i64 i :: u8s zero64), x.oneCell' = true := oneCell_wcells (i, zero64)
    have hl0 : (u8s zero64).length = 64 := by rw [length_u8s]; rfl
    have HL0 := Lib.hid hl0
    have hz8 : ∀ w, (Go.sizeOf 5).run Try.prog w = .ok 1 w := fun w => by kernel_rfl
    have HZ8 := Lib.hid hz8
    have HS := Lib.hid hs
    have hi65 : (Try.prog.info? 102).map (·.size) = some (Value.int .i64 i :: u8s zero64).length := by rw [List.length_cons, hl0]; exact siz71
    have HI := Lib.hid hi65
    have hf6 : 1 + s.length ≤ (splice (Value.int .i64 0 :: u8s zero64) 0 (.int .i64 i :: u8s zero64)).length := by rw [splice_all (Value.int .i64 0 :: u8s zero64) (.int .i64 i :: u8s zero64) rfl, List.length_cons, hl0]; omega
    have HF6 := Lib.hid hf6
    clear hl0 hz8 hi65 hf6
    go_wp2_with (first | (refine wpList_build_at rfl 102 #[(0, .tmp 22)] rfl #[(0, .int .i64 i)] rfl (.agg (.int .i64 i :: u8s zero64).toArray) hb71 ?d1) | (refine wpList_alloc_at rfl 102 rfl (.agg (.int .i64 0 :: u8s zero64).toArray) hz71 ?d2; intro w2 hw2 hT2) | (refine wpList_store_at rfl 102 (.tmp 7) (.tmp 23) rfl w1.heap.size 0 (.int .i64 i :: u8s zero64) rfl rfl (.int .i64 0 :: u8s zero64) 102 hw2.out (Nat.le_of_eq rfl) HI.out h65 ?d5; intro w3 hw3 hT3) | (refine wpList_copy_str rfl (.tmp 25) (.tmp 26) 104 9 rfl 5 Try.underlying104 HZ8.out w1.heap.size 1 64 64 s rfl rfl HS.out (splice (.int .i64 0 :: u8s zero64) 0 (.int .i64 i :: u8s zero64)) 102 hw3.out HF6.out ?d7; intro w4 hw4 hT4))
    have hlp := length_pad hs
    have hok' : (D.write i s).Ok := h1.ok.write i hi hlp hu ho
    have hbox : w4.heap[w1.heap.size]? = some (.cells (wcells (i, pad s)).toArray 102 (0, 0)) := by rw [hw4.out, splice_pad _ _ hs]; rfl
    have hT14 : Turned (fun _ => False) w1 w4 := (hT2.then hT3 (fun k hk e => by omega)).then hT4 (fun k hk e => by omega)
    have hD4 := h1.kept' hT14 (fun _ => False.elim)
    have hT04 := hT.trans hT14
    have hBlt : w.heap.size ≤ w1.heap.size := hT.size
    have hFB : ∀ k, Foot d kb sb v k → k < w.heap.size := fun k hk => h0' k hk
    generalize w1.heap.size = B at *
    clear hw2 hw3 hw4 hT2 hT3 hT4 hT14 hb71 hz71 hsz h1 HI HF6 h65 hT e1
    have hD5 : DiskAt w4.drew d kb sb v D := hD4.kept' ((Turned.refl (fun _ => False) w4).drew) (fun _ => False.elim)
    have hT05 := hT04.drew
    have hbox5 : w4.drew.heap[B]? = some (.cells (wcells (i, pad s)).toArray 102 (0, 0)) := hbox
    clear hD4 hT04 hbox
    obtain ⟨fs, hfs⟩ := und71
    have HU := Lib.hid hfs
    clear hfs
    have hlw : (Try.prog.info? 102).map (·.size) = some (wcells (i, pad s)).length := by rw [wcells, List.length_cons, length_u8s, hlp]; exact siz71
    have HLW := Lib.hid hlw
    clear hlw
    obtain ⟨w5, hw5⟩ : ∃ w5, w4.drew = w5 := ⟨_, rfl⟩
    refine region_tail 4 (by kernel_rfl) (by kernel_rfl) w5 hw5 ?_
    rw [hw5] at hD5 hT05 hbox5
    clear hw5
    simp only [List.take_succ_cons, List.take_zero, List.drop_succ_cons, List.drop_zero]
    iterate 3 still_step
    refine wpStill_load_mid rfl 102 (.tmp 7) rfl B 0 rfl (wcells (i, pad s)) _ ?e1 HU.out rfl HLW.out ?_
    case e1 => have := rangeAt_whole hbox5 0 (wcells (i, pad s)).length; rwa [List.drop_zero, List.take_length] at this
    refine wpStill_nil ?_
    go_wp2_with (go_at_call 72; refine (show_any hD5 i (pad s) hi hlp).mono ?_; rintro e w6 ⟨rfl, hD6, hT6⟩)
    refine only_normal ?_
    go_wp2_with fail
    have hT06 : Turned (Foot d kb sb v) w w6 := (hT05.wider fun _ _ h => h.elim).trans (hT6.wider fun k _ e => .inr (.inr (.inl e)))
    have hBs : B ≠ sb := by have := hFB sb (.inr (.inr (.inl rfl))); omega
    have hbox6 := hT6.heap hbox5 hBs
    clear hD5 hT05 hbox5 hT6
    have hD7 : DiskAt w6.drew d kb sb v _ := hD6.kept' ((Turned.refl (fun _ => False) w6).drew) (fun _ => False.elim)
    have hT07 := hT06.drew
    have hbox7 : w6.drew.heap[B]? = some (.cells (wcells (i, pad s)).toArray 102 (0, 0)) := hbox6
    clear hD6 hT06 hbox6
    obtain ⟨w7, hw7⟩ : ∃ w7, w6.drew = w7 := ⟨_, rfl⟩
    rw [hw7] at hD7 hT07 hbox7
    refine region_plan 8 [(true, 0), (true, 1), (true, 2), (true, 3), (true, 4), (true, 5), (false, 6), (false, 7)] (by kernel_rfl) (by kernel_rfl) (fun w' => w'.cell? ⟨d, 2, none⟩ = some v ∧ w'.rangeAt B 0 (wcells (i, pad s))) w7 hw7 ?s1 ?s2
    case s1 => exact ⟨hD7.c2, by have := rangeAt_whole hbox7 0 (wcells (i, pad s)).length; rwa [List.drop_zero, List.take_length] at this⟩
    clear hw7
    simp only [planOps, List.filterMap_cons, List.filterMap_nil, List.getElem?_toArray, List.getElem?_cons_zero, List.getElem?_cons_succ, Option.map_some]
    iterate 4 (refine plan_quiet rfl ?_ ?_ (fun K hK => ?_); rotate_left; (intro w' hw'; go_simp; rfl); (go_simp; refine hK _ ?_; clear hK K))
    refine plan_quiet rfl ?_ ?_ (fun K hK => ?_)
    rotate_left
    · intro w' hw'
      have hc := hw'.1
      clear hw'
      go_simp
      rfl
    go_simp; refine hK _ ?_; clear hK K
    refine plan_load_mid rfl 102 (.tmp 7) rfl B 0 rfl (wcells (i, pad s)) _ (fun w' hw' => hw'.2) HU.out rfl HLW.out (fun K hK => ?_)
    go_simp; refine hK _ ?_; clear hK K
    refine plan_change fun K hK => ?_
    have hl65 : (wcells (i, pad s)).length = 65 := by rw [wcells, List.length_cons, length_u8s, hlp]
    refine wpList_buildSlice_at rfl 90 (.tmp 38) rfl (wcells (i, pad s)) rfl 102 _ Try.underlying90 (by rw [hl65]; kernel_rfl) (zero71 _) (by rw [hl65]; omega) (by rw [hl65]; omega) (by rw [hl65]; rfl) ?_
    intro w8 hw8 hT8 hsz8
    have hD8 := hD7.kept' hT8 (fun _ => False.elim)
    have hB7 : B < w7.heap.size := lt_of_heap hbox7
    have hd7 : d < w7.heap.size := hD7.dlt
    have hS8 : w8.cell? ⟨d, 2, none⟩ = some v ∧ w8.rangeAt B 0 (wcells (i, pad s)) := ⟨hD8.c2, by have := rangeAt_whole (hT8.heap hbox7 (fun h => h.elim)) 0 (wcells (i, pad s)).length; rwa [List.drop_zero, List.take_length] at this⟩
    have hbox8 := hT8.heap hbox7 (fun h => h.elim)
    refine wpList_nil ?_
    refine hK _ _ hS8 ?_
    clear hK K
    refine plan_change fun K hK => ?_
    obtain ⟨i0, hi0, hz0, hz1, hz2⟩ := info_parts info71
    have hvB : ∀ k, v.ownBlock = some k → k < w.heap.size := fun k hk => hFB k (.inr (.inr (.inr hk)))
    refine wpList_append_lies w8 rfl (.tmp 37) (.tmp 39) 90 rfl 0 102 i0 _ 65 72 Try.underlying90 hi0 hz0 hz1 hz2 rfl (by omega) v D.uns.length (urows D.uns) rfl hD8.uns ⟨w7.heap.size, 0, none⟩ 1 1 (wcells (i, pad s)) rfl (by rw [hl65]) (news_whole hw8.out) (oneCell_wcells _) (by omega) (by unfold maxLen; omega) (by omega) (Nat.zero_le _) w8.heap.size rfl ?_
    intro g cap w9 hown9 hgrow9 hlies hglt
    have hTg : Turned (fun k => v.ownBlock = some k) w8 w9 := Turned.grown hgrow9 fun k hk _ => hk
    have hne : ¬ v.ownBlock = some d := hD7.dv
    have hS9 : w9.cell? ⟨d, 2, none⟩ = some v ∧ w9.rangeAt B 0 (wcells (i, pad s)) := by
      refine ⟨hTg.cell hS8.1 hne, ?_⟩
      have := rangeAt_whole (hTg.heap hbox8 (fun h => by have := hvB _ h; omega)) 0 (wcells (i, pad s)).length
      rwa [List.drop_zero, List.take_length] at this
    refine wpList_nil ?_
    refine hK _ _ hS9 ?_
    clear hK K
    have hbx := hTg.heap hD8.box hne
    have hkp := hTg.heap hD8.kept hD7.kv
    have hsn := hTg.heap hD8.seen hD7.sv
    have hTw9 : Turned (Foot d kb sb v) w w9 := (hT07.trans (hT8.wider fun _ _ h => h.elim)).trans (hTg.wider fun k _ h => .inr (.inr (.inr h)))
    have hdk := hD7.dk
    have hkv := hD7.kv
    have hsv := hD7.sv
    have hds := hD7.ds
    have hks := hD7.ks
    have hok := hD7.ok
    have hvl := hgrow9
    have hw8 : w.heap.size ≤ w8.heap.size := by omega
    have hnew : (Value.slice (some ⟨g, 0, none⟩) (D.uns.length + 1) cap).ownBlock = v.ownBlock ∨ ∀ k, (Value.slice (some ⟨g, 0, none⟩) (D.uns.length + 1) cap).ownBlock = some k → w.heap.size ≤ k := by
      rcases hlies with h | h
      · exact .inl h.symm
      · exact .inr fun k hk => by simp [Value.ownBlock] at hk; omega
    have hgd : g ≠ d := by
      rcases hlies with h | h
      · intro e; exact hne (by rw [h, e])
      · omega
    have hgk : g ≠ kb := by
      have := hFB kb (.inr (.inl rfl))
      rcases hlies with h | h
      · intro e; exact hkv (by rw [h, e])
      · omega
    have hgs : g ≠ sb := by
      have := hFB sb (.inr (.inr (.inl rfl)))
      rcases hlies with h | h
      · intro e; exact hsv (by rw [h, e])
      · omega
    have hT89 := hT8.size
    have hT79 := hT07.size
    clear hD8 hTg hS8 hS9 hbox8 hT8 hT07 hD7 hbox7 hgrow9 hvl hlies
    have hc3 : w9.cell? ⟨d, 3, none⟩ = some (.int .i64 D.ops) := by simp [World.cell?, hbx]
    have hc2 : w9.cell? ⟨d, 2, none⟩ = some v := by simp [World.cell?, hbx]
    have hfz : ∀ o, w9.frozen? ⟨d, o, none⟩ = false := fun o => frozen_whole hbx o
    have hf2 := hfz 2
    have hf3 := hfz 3
    have HO := Lib.hid hown9
    have HBX := Lib.hid hbx
    have HKP := Lib.hid hkp
    have HSN := Lib.hid hsn
    have HN := Lib.hid hnew
    have HTW := Lib.hid hTw9
    clear hbx hfz hl65 hlp hz0 hz1 hz2 hi0 hown9 hkp hsn hnew hTw9 hvB
    have hops : D.ops ≤ 1000000000000000 := by omega
    refine wpPlan_nil ?_
    go_wp2
    refine only_normal ?_
    go_wp2
    go_ret
    have hT2 : Turned (Foot d kb sb v) w ((w9.setCell ⟨d, 2, none⟩ (.slice (some ⟨g, 0, none⟩) (D.uns.length + 1) cap)).setCell ⟨d, 3, none⟩ (.int .i64 (D.ops + 1))) := (HTW.out.setCell (p := ⟨d, 2, none⟩) (.inl rfl) _).setCell (p := ⟨d, 3, none⟩) (.inl rfl) _
    have hk9 : Turned (· = d) w9 ((w9.setCell ⟨d, 2, none⟩ (.slice (some ⟨g, 0, none⟩) (D.uns.length + 1) cap)).setCell ⟨d, 3, none⟩ (.int .i64 (D.ops + 1))) := ((Turned.refl (· = d) w9).setCell (p := ⟨d, 2, none⟩) rfl _).setCell (p := ⟨d, 3, none⟩) rfl _
    refine ⟨rfl, _, ⟨?_, ?_, ?_, ?_, ?_, hdk, hds, hks, ?_, ?_, ?_⟩, hT2, HN.out⟩
    · exact hok'
    · rw [heap_setCell_at (heap_setCell_at HBX.out 2 _) 3 _]
      simp [Dk.write]
    · exact hk9.heap HKP.out (fun e => hdk e.symm)
    · exact hk9.heap HSN.out (fun e => hds e.symm)
    · have hu' := hk9.ownsRow HO.out (fun k hk e => hgd (by simp [Value.ownBlock] at hk; omega))
      simpa [Dk.write, urows] using hu'
    · simp [Value.ownBlock]; exact hgd
    · simp [Value.ownBlock]; exact hgk
    · simp [Value.ownBlock]; exact hgs
end Go.Proofs.Ytapmppiiphbcpaa
