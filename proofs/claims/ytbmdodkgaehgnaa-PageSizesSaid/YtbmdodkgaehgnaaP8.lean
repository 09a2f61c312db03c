/- The walk of found: the page whose bytes these are. -/
import Derived.Test.YtbmdodkgaehgnaaP7
import Derived.Laws.IdiomStrings
namespace Go.Proofs.Ytbmdodkgaehgnaa
open Go Go.RowKit Sm
attribute [local go_sem] Oper.semAt_some

theorem shl64_pow (l : List UInt8) : ∀ (v k : Nat), v < 256 ^ k → l.foldl shl64 v < 256 ^ (k + l.length) := by
  induction l with
  | nil => intro v k h; simpa using h
  | cons c l ih =>
    intro v k h
    have hc := c.toNat_lt
    have h1 : shl64 v c < 256 ^ (k + 1) := by
      unfold shl64
      have h2 : v * 256 % 18446744073709551616 ≤ v * 256 := Nat.mod_le _ _
      have h3 : 256 ^ (k + 1) = 256 ^ k * 256 := Nat.pow_succ ..
      generalize 256 ^ k = p at *
      omega
    have := ih _ (k + 1) h1
    rw [List.length_cons, show k + (l.length + 1) = k + 1 + l.length by omega]
    exact this
theorem getB_pow (l : List UInt8) : getB l < 256 ^ l.length := by
  have := shl64_pow l 0 0 (by decide)
  rwa [Nat.zero_add] at this

/-- The page that 256 bytes tell of, if they are a page's. -/
def lenOf (s : List UInt8) : Nat := getB ((s.drop 13).take 2)
def Pg.of (s : List UInt8) : Pg := ⟨getB (s.take 1), getB ((s.drop 1).take 4), getB ((s.drop 5).take 8), (s.drop 15).take (lenOf s)⟩
def Pg.zero : Pg := ⟨0, 0, 0, []⟩
def isPg (s : List UInt8) : Bool := decide (s.length = 256) && decide (lenOf s ≤ 237) && (Pg.of s).right && decide ((Pg.of s).enc = s)
def pgOf (s : List UInt8) : Pg := if isPg s then Pg.of s else Pg.zero
theorem Pg.of_ok (s : List UInt8) (h : lenOf s ≤ 237) : (Pg.of s).Ok := by
  have h1 := getB_pow (s.take 1)
  have h2 := getB_pow ((s.drop 1).take 4)
  have h3 := getB_lt ((s.drop 5).take 8)
  have l1 : 256 ^ (s.take 1).length ≤ 256 ^ 1 := Nat.pow_le_pow_right (by decide) (by simp; omega)
  have l2 : 256 ^ ((s.drop 1).take 4).length ≤ 256 ^ 4 := Nat.pow_le_pow_right (by decide) (by simp; omega)
  refine ⟨?_, ?_, ?_, ?_, ?_⟩ <;> simp only [Pg.of]
  · omega
  · have : (256 : Nat) ^ 1 = 256 := rfl
    omega
  · have : (256 : Nat) ^ 4 = 4294967296 := rfl
    omega
  · exact h3
  · simp; omega

/-- A text's bytes, in a new row. -/
theorem bytes_row (u : List UInt8) (w : World) : ∃ cap W, (convert 9 32 (.string ⟨u.toArray⟩)).run Try.prog w = .ok (.slice (some ⟨w.heap.size, 0, none⟩) u.length cap) W ∧ Below w.heap.size w W ∧ W.rangeAt w.heap.size 0 (u8s u) ∧ u.length ≤ cap ∧ w.heap.size < W.heap.size := by
  refine ⟨_, _, run_bytes_of_string (P := Try.prog) w 9 32 5 ⟨u.toArray⟩ Try.underlying9 Try.underlying32 Try.underlying5, below_al (Below.refl _ w).drew _, ?_, ?_, ?_⟩
  · intro i v hv
    obtain ⟨hi, rfl⟩ : ∃ hi : i < u.length, v = .int .u8 (u[i]).toNat := by
      simp only [u8s, List.getElem?_map] at hv
      by_cases hi : i < u.length
      · exact ⟨hi, by simp [hi, u8v] at hv; exact hv.symm⟩
      · simp [hi] at hv
    have := World.cell?_alloc_mark w.drew (bytesRow ⟨u.toArray⟩ (grownCap w (⟨u.toArray⟩ : ByteArray).size 0 5)) 5 ((bytesRow ⟨u.toArray⟩ (grownCap w (⟨u.toArray⟩ : ByteArray).size 0 5)).size, (bytesRow ⟨u.toArray⟩ (grownCap w (⟨u.toArray⟩ : ByteArray).size 0 5)).size + 1) i
    rw [bytesRow_at _ _ _ (by simpa using hi)] at this
    have e : (⟨u.toArray⟩ : ByteArray).data[i]'(by simpa using hi) = u[i] := by simp
    rw [e] at this
    rw [Nat.zero_add]
    exact this
  · have := grownCap_ge w (⟨u.toArray⟩ : ByteArray).size 0 5
    exact (show u.length ≤ _ from by simpa [ByteArray.size] using this)
  · simp

/-- What numbers answers of the four sizes of a page's head. -/
theorem heads_any (b cap : Nat) (s : List UInt8) (hs : s.length = 256) (hcap : 256 ≤ cap) (w : World) (hb : b < w.heap.size) (hr : Veil (w.rangeAt b 0 (u8s s))) :
    Calls Try.prog 64 #[.slice (some ⟨b, 0, none⟩) 256 cap, .slice (some ⟨w.heap.size, 0, none⟩) 4 4] (w.alloc (.cells #[.int .i64 1, .int .i64 4, .int .i64 8, .int .i64 2] 3)) fun e w' => ∃ g cp, e = .returned (.slice (some ⟨g, 0, none⟩) 4 cp) ∧ Veil (w'.cell? ⟨g, 0, none⟩ = some (.int .u64 (getB (s.take 1))) ∧ w'.cell? ⟨g, 1, none⟩ = some (.int .u64 (getB ((s.drop 1).take 4))) ∧ w'.cell? ⟨g, 2, none⟩ = some (.int .u64 (getB ((s.drop 5).take 8))) ∧ w'.cell? ⟨g, 3, none⟩ = some (.int .u64 (lenOf s)) ∧ g < w'.heap.size) ∧ Below w.heap.size w w' := by
  refine (numbers_any b 256 cap w.heap.size 4 s [1, 4, 8, 2] _ ⟨fun j v hj => ?_⟩ (by simp; omega) (by omega) hcap (by omega) ⟨?_⟩ (by simp) ⟨by simp; omega⟩ (by simp)).mono ?_
  · have := hr.out j v hj
    rw [← this]
    exact (below_al (Below.refl _ w) _).cell hb
  · intro i hi
    have : i = 0 ∨ i = 1 ∨ i = 2 ∨ i = 3 := by simp at hi; omega
    rcases this with rfl | rfl | rfl | rfl <;> rw [cell_whole (cur := [.int .i64 1, .int .i64 4, .int .i64 8, .int .i64 2]) (heap_alloc_new _ _)] <;> rfl
  · rintro e w' ⟨v, rfl, hv, hb'⟩
    obtain ⟨h1, h2⟩ := hv.out
    have hn : numsB s [1, 4, 8, 2] = [getB (s.take 1), getB ((s.drop 1).take 4), getB ((s.drop 5).take 8), lenOf s] := by
      simp [numsB, segB, offB, lenOf, List.range_succ]
    rcases h2 with ⟨-, h0⟩ | ⟨g, cp, cur, rfl, hg, hh, hn4, hc, hsz, ht⟩
    · simp at h0
    · refine ⟨g, cp, rfl, ⟨?_, ?_, ?_, ?_, lt_of_heap hh⟩, (below_al (Below.refl _ w) _).trans (hb'.mono (by simp))⟩
      all_goals
        rw [cell_whole (cur := cur.toList) (by simpa using hh)]
        rw [hn] at ht
      · have := congrArg (fun l => l[0]?) ht
        simpa [u64s] using this
      · have := congrArg (fun l => l[1]?) ht
        simpa [u64s] using this
      · have := congrArg (fun l => l[2]?) ht
        simpa [u64s] using this
      · have := congrArg (fun l => l[3]?) ht
        simpa [u64s] using this
end Go.Proofs.Ytbmdodkgaehgnaa
