/- The walks of Read and Write. -/
import Derived.Test.YtbmdodkgaehgnaaD4
namespace Go.Proofs.Ytbmdodkgaehgnaa
open Go.RowKit

/-- What Read leaves: the bytes that are seen. -/
def ReadPost (w : World) (s : List UInt8) (e : Ending) (w' : World) : Prop := e = .returned (.tuple #[.string ⟨s.toArray⟩, .int .i64 0]) ∧ Below w.heap.size w w'

set_option maxRecDepth 10000 in
set_option maxHeartbeats 400000 in
theorem read_any {w : World} {d kb sb : Nat} {v : Value} {D : Dk} (h : DiskAt w d kb sb v D) (i : Nat) (s : List UInt8) (hs : D.seen[i]? = some s) :
    Calls Try.prog 31 #[.pointer (some ⟨d, 0, none⟩), .int .i64 i] w (ReadPost w s) := by
  have hi : i < D.kept.length := by rw [← h.ok.len]; exact (List.getElem?_eq_some_iff.1 hs).1
  have hm := h.ok.most
  have h0 := h.c0
  have hl := h.ok.s64 s (List.mem_of_getElem? hs)
  go_enter Try.func31, Try.ntmps31
  go_wp2_with (go_at_call 54; refine (has_any d _ _ _ i w hm h0).mono ?c1)
  case c1 =>
    rintro e w1 ⟨rfl, hb⟩
    have e1 : (decide (0 ≤ (i : Int)) && decide ((i : Int) < (D.kept.length : Int))) = true := by simp; omega
    rw [e1]
    have hT : Turned (fun _ => False) w w1 := Turned.new hb
    have h1 := h.kept' hT (fun _ => False.elim)
    have hc := h1.c1
    have hr : w1.rangeAt sb (i * 64) (u8s s) := by
      have := rangeAt_whole h1.seen (i * 64) 64
      rw [rows, row_at h1.len_s i (u8s s) (by simp [hs])] at this
      exact this
    have hk := run_convert_u8s (P := Try.prog) w1 32 9 5 Try.underlying32 Try.underlying5 Try.underlying9 sb (i * 64) 64 s hr
    rw [hl] at hk
    clear h0 h h1 hr hl
    go_wp2
    go_ret2
    exact ⟨rfl, hb⟩

set_option maxRecDepth 10000 in
set_option maxHeartbeats 400000 in
theorem read_bad {w : World} {d kb sb : Nat} {v : Value} {D : Dk} (h : DiskAt w d kb sb v D) (i : Int) (hi : i < 0 ∨ D.kept.length ≤ i) :
    Calls Try.prog 31 #[.pointer (some ⟨d, 0, none⟩), .int .i64 i] w fun e w' => e = .returned (.tuple #[.string ByteArray.empty, .int .i64 10]) ∧ Below w.heap.size w w' := by
  have hm := h.ok.most
  have h0 := h.c0
  have e1 : (decide (0 ≤ (i : Int)) && decide ((i : Int) < (D.kept.length : Int))) = false := by simp; omega
  have E1 := Lib.hid e1
  clear hi e1
  go_enter Try.func31, Try.ntmps31
  go_wp2_with (go_at_call 54; refine (has_any d _ _ _ i w hm h0).mono ?c1)
  case c1 =>
    rintro e w1 ⟨rfl, hb⟩
    rw [E1.out]
    go_wp2
    go_ret2
    exact ⟨rfl, hb⟩
end Go.Proofs.Ytbmdodkgaehgnaa
