/- The walk of found: the page whose bytes these are. -/
import Derived.Laws.IdiomStrings
import Derived.Test.YtapmppiiphbcpaaKP7
namespace Go.Proofs.Ytapmppiiphbcpaa
open Go Go.RowKit Sm
attribute [local go_sem] Oper.semAt_some

theorem shl64_pow (l : List UInt8) : ∀ (v k : Nat), v < 256 ^ k → l.foldl shl64 v < 256 ^ (k + l.length) := by
  induction l with
  | nil => intro v k h; simpa using h
  | cons c l ih =>
    intro v k h
    have hc := c.toNat_lt
    have h1 : shl64 v c < 256 ^ (k + 1) := by
      unfold shl64
      have h2 : v * 256 % 18446744073709551616 ≤ v * 256 := Nat.mod_le _ _
      have h3 : 256 ^ (k + 1) = 256 ^ k * 256 := Nat.pow_succ ..
      generalize 256 ^ k = p at *
      omega
    have := ih _ (k + 1) h1
    rw [List.length_cons, show k + (l.length + 1) = k + 1 + l.length by omega]
    exact this
theorem getB_pow (l : List UInt8) : getB l < 256 ^ l.length := by
  have := shl64_pow l 0 0 (by decide)
  rwa [Nat.zero_add] at this

/-- The page that 256 bytes tell of, if they are a page's. -/
def lenOf (s : List UInt8) : Nat := getB ((s.drop 13).take 2)
def Pg.of (s : List UInt8) : Pg := ⟨getB (s.take 1), getB ((s.drop 1).take 4), getB ((s.drop 5).take 8), (s.drop 15).take (lenOf s)⟩
def Pg.zero : Pg := ⟨0, 0, 0, []⟩
def isPg (s : List UInt8) : Bool := decide (s.length = 256) && decide (lenOf s ≤ 237) && (Pg.of s).right && decide ((Pg.of s).enc = s)
def pgOf (s : List UInt8) : Pg := if isPg s then Pg.of s else Pg.zero
theorem Pg.of_ok (s : List UInt8) (h : lenOf s ≤ 237) : (Pg.of s).Ok := by
  have h1 := getB_pow (s.take 1)
  have h2 := getB_pow ((s.drop 1).take 4)
  have h3 := getB_lt ((s.drop 5).take 8)
  have l1 : 256 ^ (s.take 1).length ≤ 256 ^ 1 := Nat.pow_le_pow_right (by decide) (by simp; omega)
  have l2 : 256 ^ ((s.drop 1).take 4).length ≤ 256 ^ 4 := Nat.pow_le_pow_right (by decide) (by simp; omega)
  refine ⟨?_, ?_, ?_, ?_, ?_⟩ <;> simp only [Pg.of]
  · omega
  · have : (256 : Nat) ^ 1 = 256 := rfl
    omega
  · have : (256 : Nat) ^ 4 = 4294967296 := rfl
    omega
  · exact h3
  · simp; omega

/-- A text's bytes, in a new row. -/
theorem bytes_row (u : List UInt8) (w : World) : ∃ cap W, (convert 9 104 (.string ⟨u.toArray⟩)).run Try.prog w = .ok (.slice (some ⟨w.heap.size, 0, none⟩) u.length cap) W ∧ Below w.heap.size w W ∧ W.rangeAt w.heap.size 0 (u8s u) ∧ u.length ≤ cap ∧ w.heap.size < W.heap.size := by
  refine ⟨_, _, run_bytes_of_string (P := Try.prog) w 9 104 5 ⟨u.toArray⟩ Try.underlying9 Try.underlying104 Try.underlying5, below_al (Below.refl _ w).drew _, ?_, ?_, ?_⟩
  · intro i v hv
    obtain ⟨hi, rfl⟩ : ∃ hi : i < u.length, v = .int .u8 (u[i]).toNat := by
      simp only [u8s, List.getElem?_map] at hv
      by_cases hi : i < u.length
      · exact ⟨hi, by simp [hi, u8v] at hv; exact hv.symm⟩
      · simp [hi] at hv
    have := World.cell?_alloc_mark w.drew (bytesRow ⟨u.toArray⟩ (grownCap w (⟨u.toArray⟩ : ByteArray).size 0 5)) 5 ((bytesRow ⟨u.toArray⟩ (grownCap w (⟨u.toArray⟩ : ByteArray).size 0 5)).size, (bytesRow ⟨u.toArray⟩ (grownCap w (⟨u.toArray⟩ : ByteArray).size 0 5)).size + 1) i
    rw [bytesRow_at _ _ _ (by simpa using hi)] at this
    have e : (⟨u.toArray⟩ : ByteArray).data[i]'(by simpa using hi) = u[i] := by simp
    rw [e] at this
    rw [Nat.zero_add]
    exact this
  · have := grownCap_ge w (⟨u.toArray⟩ : ByteArray).size 0 5
    exact (show u.length ≤ _ from by simpa [ByteArray.size] using this)
  · simp

/-- What numbers answers of the four sizes of a page's head. -/
theorem heads_any (b cap : Nat) (s : List UInt8) (hs : s.length = 256) (hcap : 256 ≤ cap) (w : World) (hb : b < w.heap.size) (hr : Veil (w.rangeAt b 0 (u8s s))) :
    Calls Try.prog 93 #[.slice (some ⟨b, 0, none⟩) 256 cap, .slice (some ⟨w.heap.size, 0, none⟩) 4 4] (w.alloc (.cells #[.int .i64 1, .int .i64 4, .int .i64 8, .int .i64 2] 3)) fun e w' => ∃ g cp, e = .returned (.slice (some ⟨g, 0, none⟩) 4 cp) ∧ Veil (w'.cell? ⟨g, 0, none⟩ = some (.int .u64 (getB (s.take 1))) ∧ w'.cell? ⟨g, 1, none⟩ = some (.int .u64 (getB ((s.drop 1).take 4))) ∧ w'.cell? ⟨g, 2, none⟩ = some (.int .u64 (getB ((s.drop 5).take 8))) ∧ w'.cell? ⟨g, 3, none⟩ = some (.int .u64 (lenOf s)) ∧ g < w'.heap.size) ∧ Below w.heap.size w w' := by
  refine (numbers_any b 256 cap w.heap.size 4 s [1, 4, 8, 2] _ ⟨fun j v hj => ?_⟩ (by simp; omega) (by omega) hcap (by omega) ⟨?_⟩ (by simp) ⟨by simp; omega⟩ (by simp)).mono ?_
  · have := hr.out j v hj
    rw [← this]
    exact (below_al (Below.refl _ w) _).cell hb
  · intro i hi
    have : i = 0 ∨ i = 1 ∨ i = 2 ∨ i = 3 := by simp at hi; omega
    rcases this with rfl | rfl | rfl | rfl <;> rw [cell_whole (cur := [.int .i64 1, .int .i64 4, .int .i64 8, .int .i64 2]) (heap_alloc_new _ _)] <;> rfl
  · rintro e w' ⟨v, rfl, hv, hb'⟩
    obtain ⟨h1, h2⟩ := hv.out
    have hn : numsB s [1, 4, 8, 2] = [getB (s.take 1), getB ((s.drop 1).take 4), getB ((s.drop 5).take 8), lenOf s] := by
      simp [numsB, segB, offB, lenOf, List.range_succ]
    rcases h2 with ⟨-, h0⟩ | ⟨g, cp, cur, rfl, hg, hh, hn4, hc, hsz, ht⟩
    · simp at h0
    · refine ⟨g, cp, rfl, ⟨?_, ?_, ?_, ?_, lt_of_heap hh⟩, (below_al (Below.refl _ w) _).trans (hb'.mono (by simp))⟩
      all_goals
        rw [cell_whole (cur := cur.toList) (by simpa using hh)]
        rw [hn] at ht
      · have := congrArg (fun l => l[0]?) ht
        simpa [u64s] using this
      · have := congrArg (fun l => l[1]?) ht
        simpa [u64s] using this
      · have := congrArg (fun l => l[2]?) ht
        simpa [u64s] using this
      · have := congrArg (fun l => l[3]?) ht
        simpa [u64s] using this
end Go.Proofs.Ytapmppiiphbcpaa

/- Pages and bytes are one to one: reckoning. -/
namespace Go.Proofs.Ytapmppiiphbcpaa
open Go Go.RowKit Sm

theorem putB_succ (v n : Nat) : putB v (n + 1) = byteAt v n :: putB v n := by
  unfold putB
  rw [List.range_succ_eq_map, List.map_cons, List.map_map]
  congr 1
  apply List.map_congr_left
  intro i hi
  simp only [Function.comp_apply, Nat.succ_eq_add_one]
  congr 1
  omega
theorem putB_zero (v : Nat) : putB v 0 = [] := rfl

theorem foldl_putB (v : Nat) : ∀ (n acc : Nat), acc * 256 ^ n + 256 ^ n ≤ 18446744073709551616 → (putB v n).foldl shl64 acc = acc * 256 ^ n + v % 256 ^ n
  | 0, acc, _ => by simp [putB_zero, Nat.mod_one]
  | n + 1, acc, h => by
    have hp : 256 ^ (n + 1) = 256 ^ n * 256 := Nat.pow_succ ..
    have hpos : 0 < 256 ^ n := Nat.pow_pos (by decide)
    have hd : (byteAt v n).toNat = v / 256 ^ n % 256 := by simp [byteAt, Nat.toUInt8, UInt8.toNat_ofNat']
    have hlt : acc * 256 < 18446744073709551616 := by
      have h1 : acc * 256 ≤ acc * 256 ^ (n + 1) := Nat.mul_le_mul_left _ (by rw [hp]; exact Nat.le_mul_of_pos_left _ hpos)
      have h2 : 0 < 256 ^ (n + 1) := Nat.pow_pos (by decide)
      omega
    rw [putB_succ, List.foldl_cons]
    have e : shl64 acc (byteAt v n) = acc * 256 + v / 256 ^ n % 256 := by
      unfold shl64
      rw [hd, Nat.mod_eq_of_lt hlt]
    rw [e, foldl_putB v n]
    · rw [hp, Nat.mod_mul, Nat.add_mul, Nat.mul_assoc, Nat.mul_comm 256 (256 ^ n), Nat.mul_comm (v / 256 ^ n % 256)]
      omega
    · have hm : v / 256 ^ n % 256 ≤ 255 := by omega
      have : (acc * 256 + v / 256 ^ n % 256) * 256 ^ n + 256 ^ n ≤ (acc * 256 + 255) * 256 ^ n + 256 ^ n := Nat.add_le_add_right (Nat.mul_le_mul_right _ (by omega)) _
      have e2 : (acc * 256 + 255) * 256 ^ n + 256 ^ n = acc * 256 ^ (n + 1) + 256 ^ (n + 1) := by
        rw [hp, Nat.add_mul, Nat.mul_assoc, Nat.mul_comm 256 (256 ^ n)]
        omega
      omega
theorem getB_putB (v n : Nat) (hn : n ≤ 8) (hv : v < 256 ^ n) : getB (putB v n) = v := by
  unfold getB
  have h8 : 256 ^ n ≤ 256 ^ 8 := Nat.pow_le_pow_right (by decide) hn
  have e8 : (256 : Nat) ^ 8 = 18446744073709551616 := rfl
  rw [foldl_putB v n 0 (by omega), Nat.zero_mul, Nat.zero_add, Nat.mod_eq_of_lt hv]

/-- The four segments of a head, and what stands behind it. -/
theorem segs (a b c d r : List UInt8) (ha : a.length = 1) (hb : b.length = 4) (hc : c.length = 8) (hd : d.length = 2) :
    (a ++ (b ++ (c ++ (d ++ r)))).take 1 = a ∧ ((a ++ (b ++ (c ++ (d ++ r)))).drop 1).take 4 = b ∧ ((a ++ (b ++ (c ++ (d ++ r)))).drop 5).take 8 = c ∧ ((a ++ (b ++ (c ++ (d ++ r)))).drop 13).take 2 = d ∧ (a ++ (b ++ (c ++ (d ++ r)))).drop 15 = r := by
  have h1 : (a ++ (b ++ (c ++ (d ++ r)))).drop 1 = b ++ (c ++ (d ++ r)) := List.drop_left' ha
  have h5 : (a ++ (b ++ (c ++ (d ++ r)))).drop 5 = c ++ (d ++ r) := by
    rw [show 5 = 1 + 4 from rfl, ← List.drop_drop, h1]; exact List.drop_left' hb
  have h13 : (a ++ (b ++ (c ++ (d ++ r)))).drop 13 = d ++ r := by
    rw [show 13 = 5 + 8 from rfl, ← List.drop_drop, h5]; exact List.drop_left' hc
  have h15 : (a ++ (b ++ (c ++ (d ++ r)))).drop 15 = r := by
    rw [show 15 = 13 + 2 from rfl, ← List.drop_drop, h13]; exact List.drop_left' hd
  rw [h1, h5, h13, h15]
  exact ⟨List.take_left' ha, List.take_left' hb, List.take_left' hc, List.take_left' hd, rfl⟩

theorem Pg.enc_form (p : Pg) : p.enc = putB p.kind.toNat 1 ++ (putB p.id 4 ++ (putB p.tx 8 ++ (putB p.body.length 2 ++ (p.body ++ (sealB (sumN p.text) ++ List.replicate (256 - p.sealed.length) 0))))) := by
  simp [Pg.enc, Pg.sealed, Pg.text, Pg.head, wrB]

/-- The page of a page's bytes. -/
theorem Pg.back (p : Pg) (hp : p.Ok) (hr : p.right = true) : isPg p.enc = true ∧ Pg.of p.enc = p := by
  have hrr := p.right_iff.1 hr
  obtain ⟨r1, r2, r3, r4, r5, r6⟩ := hrr
  obtain ⟨s1, s2, s3, s4, s5⟩ := segs (putB p.kind.toNat 1) (putB p.id 4) (putB p.tx 8) (putB p.body.length 2) (p.body ++ (sealB (sumN p.text) ++ List.replicate (256 - p.sealed.length) 0)) (by simp) (by simp) (by simp) (by simp)
  rw [← p.enc_form] at s1 s2 s3 s4 s5
  have g1 : getB (putB p.kind.toNat 1) = p.kind.toNat := getB_putB _ _ (by decide) (by omega)
  have g2 : getB (putB p.id 4) = p.id := getB_putB _ _ (by decide) (by have : (256 : Nat) ^ 4 = 4294967296 := rfl; omega)
  have g3 : getB (putB p.tx 8) = p.tx := getB_putB _ _ (by decide) (by have : (256 : Nat) ^ 8 = 18446744073709551616 := rfl; have := hp.tx; omega)
  have g4 : getB (putB p.body.length 2) = p.body.length := getB_putB _ _ (by decide) (by have : (256 : Nat) ^ 2 = 65536 := rfl; omega)
  have hl : lenOf p.enc = p.body.length := by unfold lenOf; rw [s4, g4]
  have ho : Pg.of p.enc = p := by
    unfold Pg.of
    rw [s1, s2, s3, s5, hl, g1, g2, g3, List.take_left' rfl]
    have : ((p.kind.toNat : Nat) : Int) = p.kind := by omega
    rw [this]
  refine ⟨?_, ho⟩
  unfold isPg
  rw [ho, hl, hr, p.enc_len r6]
  simp [r6]
end Go.Proofs.Ytapmppiiphbcpaa
