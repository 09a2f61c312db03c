/- Three disks side by side. -/
import Derived.Test.YtlpgffoeohcegaaDF
namespace Go.Proofs.Ytlpgffoeohcegaa
open Go.RowKit

/-- Where a disk lies. -/
structure Dp where
  d : Nat
  kb : Nat
  sb : Nat

/-- A disk at its place, from B on; v: its unsynced writes. -/
def At (B : Nat) (w : World) (x : Dp) (v : Value) (D : Dk) : Prop := DiskAt w x.d x.kb x.sb v D ∧ From B x.d x.kb x.sb v
def Off (x : Dp) (v : Value) (y : Dp) (u : Value) : Prop := ∀ k, Foot x.d x.kb x.sb v k → ¬ Foot y.d y.kb y.sb u k
theorem Off.symm {x y : Dp} {v u : Value} (h : Off x v y u) : Off y u x v := fun k h1 h2 => h k h2 h1

/-- Three disks, apart. -/
def At3 (B : Nat) (w : World) (x y z : Dp) (D E F : Dk) : Prop := ∃ v u t, At B w x v D ∧ At B w y u E ∧ At B w z t F ∧ Off x v y u ∧ Off x v z t ∧ Off y u z t

theorem At3.swap {B : Nat} {w : World} {x y z : Dp} {D E F : Dk} (h : At3 B w x y z D E F) : At3 B w y x z E D F := by
  obtain ⟨v, u, t, h1, h2, h3, o1, o2, o3⟩ := h
  exact ⟨u, v, t, h2, h1, h3, o1.symm, o3, o2⟩
theorem At3.turn {B : Nat} {w : World} {x y z : Dp} {D E F : Dk} (h : At3 B w x y z D E F) : At3 B w z x y F D E := by
  obtain ⟨v, u, t, h1, h2, h3, o1, o2, o3⟩ := h
  exact ⟨t, v, u, h3, h1, h2, o2.symm, o3.symm, o1⟩

theorem Off.next {w w' : World} {x y : Dp} {v v' u : Value} {D E : Dk} (h : Off x v y u) (hx : DiskAt w' x.d x.kb x.sb v' D) (hy : DiskAt w y.d y.kb y.sb u E) (hv : v'.ownBlock = v.ownBlock ∨ ∀ k, v'.ownBlock = some k → w.heap.size ≤ k) : Off x v' y u := fun k h1 h2 => by
  rcases h1 with rfl | rfl | rfl | hk
  · exact h _ (.inl rfl) h2
  · exact h _ (.inr (.inl rfl)) h2
  · exact h _ (.inr (.inr (.inl rfl))) h2
  · rcases hv with hv | hv
    · exact h _ (.inr (.inr (.inr (by rw [← hv]; exact hk)))) h2
    · have := hv _ hk
      have := hy.flt h2
      omega

/-- What a method of the first leaves. -/
theorem At3.post {B : Nat} {w w' : World} {x y z : Dp} {D D' E F : Dk} (hw : B ≤ w.heap.size) {v u t : Value} (h : At B w x v D ∧ At B w y u E ∧ At B w z t F ∧ Off x v y u ∧ Off x v z t ∧ Off y u z t) {r : Value} {e : Ending} (hp : DiskPost w x.d x.kb x.sb v D' r e w') :
    e = .returned r ∧ At3 B w' x y z D' E F ∧ Below B w w' := by
  obtain ⟨h1, h2, h3, o1, o2, o3⟩ := h
  obtain ⟨rfl, v', hD, hT, hv⟩ := hp
  refine ⟨rfl, ⟨v', u, t, ⟨hD, h1.2.next hw hv⟩, ⟨h2.1.kept' hT fun k hk => o1 k hk, h2.2⟩, ⟨h3.1.kept' hT fun k hk => o2 k hk, h3.2⟩, o1.next hD h2.1 hv, o2.next hD h3.1 hv, o3⟩, ?_⟩
  exact hT.toBelow hw fun k _ hk => h1.2 k hk

theorem At3.still {B : Nat} {w w' : World} {x y z : Dp} {D E F : Dk} (h : At3 B w x y z D E F) (ht : Turned (fun _ => False) w w') : At3 B w' x y z D E F := by
  obtain ⟨v, u, t, h1, h2, h3, o⟩ := h
  exact ⟨v, u, t, ⟨h1.1.kept' ht (fun _ => False.elim), h1.2⟩, ⟨h2.1.kept' ht (fun _ => False.elim), h2.2⟩, ⟨h3.1.kept' ht (fun _ => False.elim), h3.2⟩, o⟩

section
variable {B : Nat} {w : World} {x y z : Dp} {D E F : Dk}
theorem wr3 (h : At3 B w x y z D E F) (hw : B ≤ w.heap.size) (i : Int) (s : List UInt8) (hu : D.uns.length < 1000000000000) (ho : D.ops < 1000000000000000) :
    Calls Try.prog 19 #[.pointer (some ⟨x.d, 0, none⟩), .int .i64 i, .string ⟨s.toArray⟩] w fun e w' => e = .returned (.int .i64 (D.wrc i s)) ∧ At3 B w' x y z (D.wr i s) E F ∧ Below B w w' := by
  obtain ⟨v, u, t, h⟩ := h
  exact (wr_any h.1.1 i s hu ho).mono fun e w' hp => At3.post hw h hp
theorem sync3 (h : At3 B w x y z D E F) (hw : B ≤ w.heap.size) (ho : D.ops < 1000000000000000) :
    Calls Try.prog 20 #[.pointer (some ⟨x.d, 0, none⟩)] w fun e w' => e = .returned (.int .i64 0) ∧ At3 B w' x y z D.sync E F ∧ Below B w w' := by
  obtain ⟨v, u, t, h⟩ := h
  exact (sync_any h.1.1 ho).mono fun e w' hp => At3.post hw h hp
/-- A crash that keeps nothing. -/
theorem crash3 (h : At3 B w x y z D E F) (hw : B ≤ w.heap.size) :
    Calls Try.prog 21 #[.pointer (some ⟨x.d, 0, none⟩), .slice none 0 0] w fun e w' => e = .returned (.int .i64 0) ∧ At3 B w' x y z (D.crash []) E F ∧ Below B w w' := by
  obtain ⟨v, u, t, h⟩ := h
  exact (crash_any h.1.1 none [] 0 (Nat.zero_le _) (fun hz => absurd rfl hz) (fun b off e => nomatch e) rfl).mono fun e w' hp => At3.post hw h hp
theorem read3 (h : At3 B w x y z D E F) (hw : B ≤ w.heap.size) (i : Nat) (s : List UInt8) (hs : D.seen[i]? = some s) :
    Calls Try.prog 17 #[.pointer (some ⟨x.d, 0, none⟩), .int .i64 i] w fun e w' => e = .returned (.tuple #[.string ⟨s.toArray⟩, .int .i64 0]) ∧ At3 B w' x y z D E F ∧ Below B w w' := by
  obtain ⟨v, u, t, h⟩ := h
  exact (read_any h.1.1 i s hs).mono fun e w' hp => At3.post hw h (DiskPost.same h.1.1 hp)
end

/-! The three disks of the law, round by round: the sector and the bytes of act k. -/
def aD (sec : Nat → Int) (s : Nat → List UInt8) (n : Int) : Nat → Dk
  | 0 => Dk.new 8
  | k + 1 => (if (k : Int) = n then (aD sec s n k).sync else aD sec s n k).wr (sec k) (s k)
def cD (sec : Nat → Int) (s : Nat → List UInt8) (n : Int) : Nat → Dk
  | 0 => Dk.new 8
  | k + 1 => if (k : Int) = n then (cD sec s n k).sync else if (k : Int) < n then (cD sec s n k).wr (sec k) (s k) else cD sec s n k
def dD (sec : Nat → Int) (s : Nat → List UInt8) : Nat → Dk
  | 0 => Dk.new 8
  | k + 1 => (dD sec s k).wr (sec k) (s k)

theorem aD_inv (sec : Nat → Int) (s : Nat → List UInt8) (n : Int) : ∀ k, (aD sec s n k).Inv ∧ (aD sec s n k).kept.length = 8 ∧ (aD sec s n k).seen = (dD sec s k).seen ∧ (dD sec s k).kept.length = 8
  | 0 => ⟨Dk.Inv.new 8, rfl, rfl, rfl⟩
  | k + 1 => by
    obtain ⟨h1, h2, h3, h4⟩ := aD_inv sec s n k
    by_cases hn : (k : Int) = n
    · have hk : (aD sec s n k).sync.kept.length = 8 := by rw [h1.sync_kept, h1.length, h2]
      simp only [aD, dD, hn, if_true]
      exact ⟨h1.sync.wr _ _, by rw [wr_keeps]; exact hk, wr_seen (D := (aD sec s n k).sync) h3 (hk.trans h4.symm) _ _, by rw [wr_keeps]; exact h4⟩
    · simp only [aD, dD, hn, if_false]
      exact ⟨h1.wr _ _, by rw [wr_keeps]; exact h2, wr_seen h3 (h2.trans h4.symm) _ _, by rw [wr_keeps]; exact h4⟩

theorem aD_few (sec : Nat → Int) (s : Nat → List UInt8) (n : Int) : ∀ k, (aD sec s n k).uns.length ≤ k ∧ (aD sec s n k).ops ≤ 2 * k
  | 0 => ⟨Nat.le_refl _, Nat.le_refl _⟩
  | k + 1 => by
    obtain ⟨h1, h2⟩ := aD_few sec s n k
    have hw : ∀ (D : Dk) (i : Int) (b : List UInt8), (D.wr i b).uns.length ≤ D.uns.length + 1 ∧ (D.wr i b).ops ≤ D.ops + 1 := fun D i b => by
      unfold Dk.wr; split
      · simp [Dk.write]
      · omega
    by_cases hn : (k : Int) = n
    · simp only [aD, hn, if_true]
      have := hw (aD sec s n k).sync (sec k) (s k)
      simp only [Dk.sync, List.length_nil] at this
      simp only [Dk.sync]
      omega
    · simp only [aD, hn, if_false]
      have := hw (aD sec s n k) (sec k) (s k)
      omega

theorem cD_inv (sec : Nat → Int) (s : Nat → List UInt8) (n : Int) : ∀ k, (cD sec s n k).Inv ∧ (cD sec s n k).kept.length = 8 ∧ (aD sec s n k).kept = (cD sec s n k).kept ∧ ((k : Int) ≤ n → aD sec s n k = cD sec s n k) ∧ (cD sec s n k).uns.length ≤ k ∧ (cD sec s n k).ops ≤ 2 * k
  | 0 => ⟨Dk.Inv.new 8, rfl, rfl, fun _ => rfl, Nat.le_refl _, Nat.le_refl _⟩
  | k + 1 => by
    obtain ⟨h1, h2, h3, h4, h5, h6⟩ := cD_inv sec s n k
    by_cases hn : (k : Int) = n
    · have e := h4 (by omega)
      have hk : (cD sec s n k).sync.kept.length = 8 := by rw [h1.sync_kept, h1.length, h2]
      simp only [aD, cD, hn, if_true]
      refine ⟨h1.sync, hk, by rw [wr_keeps, e], fun h => absurd h (by omega), Nat.zero_le _, ?_⟩
      simp only [Dk.sync]; omega
    · by_cases hl : (k : Int) < n
      · have e := h4 (by omega)
        simp only [aD, cD, hn, hl, if_true, if_false]
        refine ⟨h1.wr _ _, by rw [wr_keeps]; exact h2, by rw [e], fun _ => by rw [e], ?_⟩
        unfold Dk.wr; split
        · simp [Dk.write]; omega
        · omega
      · simp only [aD, cD, hn, hl, if_false]
        exact ⟨h1, h2, by rw [wr_keeps]; exact h3, fun h => absurd h (by omega), by omega, by omega⟩
end Go.Proofs.Ytlpgffoeohcegaa
