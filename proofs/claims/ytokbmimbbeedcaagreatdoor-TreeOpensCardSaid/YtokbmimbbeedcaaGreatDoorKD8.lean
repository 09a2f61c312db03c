/- The walk of Sync. -/
import Derived.RangeFuncCalls
import Derived.Shelf.Abstract
import Derived.OwnWalkIn
import Derived.TacticsInMore
import Derived.LoopNIn
import Derived.LoopIn
import Derived.Test.YtokbmimbbeedcaaGreatDoorKD4
import Derived.Test.YtokbmimbbeedcaaGreatDoorKR
namespace Go.Proofs.YtokbmimbbeedcaaGreatDoor
open Go.RowKit

theorem keepsFrom_turned {F : Nat → Prop} {B : Nat} {A A' : World} (h : Turned F A A') (hF : ∀ k, F k → k < B ∨ ∃ c t fr, A.heap[k]? = some (.cells c t fr)) : KeepsFrom B A A' :=
  ⟨h.size, fun k o hB hk ho => h.heap hk fun hf => by
    rcases hF k hf with hlt | ⟨c, t, fr, hc⟩
    · omega
    · rw [hc] at hk; cases hk; cases ho⟩
theorem keepsFrom_new {B : Nat} {A A' : World} (h : Turned (fun _ => False) A A') : KeepsFrom B A A' := keepsFrom_turned h fun _ h => h.elim

theorem DiskAt.booked {w w' : World} {d kb sb : Nat} {v : Value} {D : Dk} {B : Nat} (h : DiskAt w d kb sb v D) (hb : Booked B w w') : DiskAt w' d kb sb v D :=
  ⟨h.ok, hb.heap h.box, hb.heap h.kept, hb.heap h.seen, hb.ownsRow h.uns, h.dk, h.ds, h.ks, h.dv, h.kv, h.sv⟩
/-- The kept sectors, so many bytes of each write laid over them. -/
def keepAll (kept : List (List UInt8)) (l : List ((Nat × List UInt8) × Nat)) : List (List UInt8) := l.foldl (fun K x => K.set x.1.1 (tear x.1.2 (K.getD x.1.1 []) x.2)) kept
theorem keepAll_snoc (kept : List (List UInt8)) (l : List ((Nat × List UInt8) × Nat)) (x : (Nat × List UInt8) × Nat) : keepAll kept (l ++ [x]) = (keepAll kept l).set x.1.1 (tear x.1.2 ((keepAll kept l).getD x.1.1 []) x.2) := by simp [keepAll]
theorem length_keepAll (l : List ((Nat × List UInt8) × Nat)) : ∀ kept, (keepAll kept l).length = kept.length := by
  induction l with
  | nil => exact fun _ => rfl
  | cons x l ih => intro kept; show (keepAll _ l).length = _; rw [ih]; simp
theorem keepAll_64 (l : List ((Nat × List UInt8) × Nat)) (hl : ∀ x ∈ l, x.1.2.length = 64 ∧ x.2 ≤ 64) : ∀ kept : List (List UInt8), (∀ x ∈ l, x.1.1 < kept.length) → (∀ s ∈ kept, s.length = 64) → ∀ s ∈ keepAll kept l, s.length = 64 := by
  induction l with
  | nil => exact fun kept _ hk => hk
  | cons x l ih =>
    intro kept hlt hk
    refine ih (fun y hy => hl y (List.mem_cons_of_mem _ hy)) _ (fun y hy => by simpa using hlt y (List.mem_cons_of_mem _ hy)) ?_
    intro s hs
    rcases List.mem_or_eq_of_mem_set hs with hs | rfl
    · exact hk s hs
    · have h1 := hl x List.mem_cons_self
      have h2 := hlt x List.mem_cons_self
      refine length_tear h1.1 (hk _ ?_) h1.2
      simp [List.getD, h2]
def all64 (l : List (Nat × List UInt8)) : List ((Nat × List UInt8) × Nat) := l.map fun x => (x, 64)

end Go.Proofs.YtokbmimbbeedcaaGreatDoor

/- The walk of Crash. -/
namespace Go.Proofs.YtokbmimbbeedcaaGreatDoor
open Go.RowKit
attribute [local go_sem] Oper.semAt_some

/-- A list reads as it did in a world in which its block lies as it lay. -/
theorem Ints.kept {w w' : World} {p : Option Addr} {zs : List Int} (h : Ints w p zs) (hb : ∀ b off, p = some ⟨b, off, none⟩ → w'.heap[b]? = w.heap[b]?) : Ints w' p zs := fun hz => by
  obtain ⟨b, off, hp, hc⟩ := h hz
  exact ⟨b, off, hp, fun i hi => by rw [World.cell?_of_block (w := w) (hb b off hp)]; exact hc i hi⟩

end Go.Proofs.YtokbmimbbeedcaaGreatDoor

/- The walk of Crash, where it is one. -/
namespace Go.Proofs.YtokbmimbbeedcaaGreatDoor
open Go.RowKit
attribute [local go_sem] Oper.semAt_some

/-- Between two rounds of either loop. -/
structure CrashI (w : World) (d kb sb : Nat) (v : Value) (D : Dk) (Bp Bk Bx : Nat) (s : Value) (kept seen : List (List UInt8)) (A : World) : Prop where
  disk : DiskAt A d kb sb v { D with kept := kept, seen := seen }
  bp : A.heap[Bp]? = some (.cells #[.pointer (some ⟨d, 0, none⟩)] 25 (0, 0))
  bk : A.heap[Bk]? = some (.cells #[s] 115 (0, 0))
  bx : A.heap[Bx]? = some (.cells #[.pointer (some ⟨d, 0, none⟩)] 25 (0, 0))
  turned : Turned (Foot d kb sb v) w A
theorem CrashI.booked {w : World} {d kb sb : Nat} {v : Value} {D : Dk} {Bp Bk Bx : Nat} {s : Value} {kept seen : List (List UInt8)} {A A' : World} {B : Nat} (h : CrashI w d kb sb v D Bp Bk Bx s kept seen A) (hb : Booked B A A') (hB : w.heap.size ≤ B) : CrashI w d kb sb v D Bp Bk Bx s kept seen A' :=
  ⟨h.disk.booked hb, hb.heap h.bp, hb.heap h.bk, hb.heap h.bx, hb.turned h.turned hB⟩
theorem CrashI.new {w : World} {d kb sb : Nat} {v : Value} {D : Dk} {Bp Bk Bx : Nat} {s : Value} {kept seen : List (List UInt8)} {A A' : World} (h : CrashI w d kb sb v D Bp Bk Bx s kept seen A) (hb : Turned (fun _ => False) A A') : CrashI w d kb sb v D Bp Bk Bx s kept seen A' :=
  ⟨h.disk.kept' hb (fun _ => False.elim), hb.heap h.bp (fun h => h), hb.heap h.bk (fun h => h), hb.heap h.bx (fun h => h), h.turned.trans (hb.wider fun _ _ h => h.elim)⟩

end Go.Proofs.YtokbmimbbeedcaaGreatDoor

/- Write where it is refused; and the law's own example. -/
namespace Go.Proofs.YtokbmimbbeedcaaGreatDoor
open Go.RowKit

/-- All blocks of the disk lie from B on. -/
def From (B d kb sb : Nat) (v : Value) : Prop := ∀ k, Foot d kb sb v k → B ≤ k
theorem From.next {B d kb sb : Nat} {v v' : Value} {w : World} (h : From B d kb sb v) (hB : B ≤ w.heap.size) (hv : v'.ownBlock = v.ownBlock ∨ ∀ k, v'.ownBlock = some k → w.heap.size ≤ k) : From B d kb sb v' := fun k hk => by
  rcases hk with rfl | rfl | rfl | hk
  · exact h _ (.inl rfl)
  · exact h _ (.inr (.inl rfl))
  · exact h _ (.inr (.inr (.inl rfl)))
  · rcases hv with hv | hv
    · exact h _ (.inr (.inr (.inr (by rw [← hv]; exact hk))))
    · exact Nat.le_trans hB (hv k hk)
theorem From.new {B d kb sb : Nat} (hd : B ≤ d) (hk : B ≤ kb) (hs : B ≤ sb) : From B d kb sb (.slice none 0 0) := fun k h => by
  rcases h with rfl | rfl | rfl | h
  · exact hd
  · exact hk
  · exact hs
  · simp [Value.ownBlock] at h
theorem From.below {B d kb sb : Nat} {v : Value} {w0 w w' : World} (h : From B d kb sb v) (hb : Below B w0 w) (hB : B ≤ w0.heap.size) (ht : Turned (Foot d kb sb v) w w') : Below B w0 w' :=
  hb.trans (ht.toBelow (Nat.le_trans hB hb.size) fun k _ hk => h k hk)

end Go.Proofs.YtokbmimbbeedcaaGreatDoor

/- Texts and lists, cut; a write, whatever it is; acts in memory. -/
namespace Go.Proofs.YtokbmimbbeedcaaGreatDoor
open Go.RowKit

def Dk.wr (D : Dk) (i : Int) (s : List UInt8) : Dk := if 0 ≤ i ∧ i < D.kept.length ∧ s.length ≤ 64 then D.write i.toNat s else D
theorem DiskPost.same {w w' : World} {d kb sb : Nat} {v : Value} {D : Dk} (h : DiskAt w d kb sb v D) {r : Value} {e : Ending} (hb : e = .returned r ∧ Below w.heap.size w w') : DiskPost w d kb sb v D r e w' :=
  ⟨hb.1, v, h.kept' (F := fun _ => False) (Turned.new hb.2) (fun _ => False.elim), Turned.new hb.2, .inl rfl⟩

/-- An act, and a list of them in memory. -/
structure A where
  act : Int
  sec : Int
  s : ByteArray
  kp : Option Addr
  kn : Nat
  kc : Nat

def Acts (w : World) (p : Option Addr) (l : List A) : Prop :=
  l ≠ [] → ∃ b off, p = some ⟨b, off, none⟩ ∧ ∀ i x, l[i]? = some x → x.s.size ≤ 9223372036854775807 ∧ w.cell? ⟨b, off + i * 4, none⟩ = some (.int .i64 x.act) ∧ w.cell? ⟨b, off + i * 4 + 1, none⟩ = some (.int .i64 x.sec)
    ∧ w.cell? ⟨b, off + i * 4 + 2, none⟩ = some (.string x.s) ∧ w.cell? ⟨b, off + i * 4 + 3, none⟩ = some (.slice x.kp x.kn x.kc)

theorem Acts.kept {w w' : World} {p : Option Addr} {l : List A} (h : Acts w p l) (hb : ∀ b off, p = some ⟨b, off, none⟩ → w'.heap[b]? = w.heap[b]?) : Acts w' p l := fun hz => by
  obtain ⟨b, off, hp, hc⟩ := h hz
  exact ⟨b, off, hp, fun i x hx => by
    have := hc i x hx
    have e : ∀ o, w'.cell? ⟨b, o, none⟩ = w.cell? ⟨b, o, none⟩ := fun o => World.cell?_of_block (w := w) (hb b off hp)
    rw [e, e, e, e]; exact this⟩
end Go.Proofs.YtokbmimbbeedcaaGreatDoor

/- The disk's model alone: what is seen is what is kept, the unsynced writes laid over it. -/
namespace Go.Proofs.YtokbmimbbeedcaaGreatDoor

/-- What is seen is what a sync would keep. -/
structure Dk.Inv (D : Dk) : Prop where
  seen : D.seen = keepAll D.kept (all64 D.uns)
  k64 : ∀ s ∈ D.kept, s.length = 64
  u64 : ∀ x ∈ D.uns, x.1 < D.kept.length ∧ x.2.length = 64

theorem tear_all {bs old : List UInt8} (hb : bs.length = 64) (ho : old.length = 64) : tear bs old 64 = bs := by
  simp [tear, hb, ho, List.take_of_length_le, List.drop_of_length_le]

theorem Dk.Inv.new (n : Nat) : (Dk.new n).Inv := ⟨rfl, fun s hs => by obtain ⟨-, rfl⟩ := List.mem_replicate.1 hs; rfl, fun x hx => nomatch hx⟩

theorem Dk.Inv.length {D : Dk} (h : D.Inv) : D.seen.length = D.kept.length := by rw [h.seen, length_keepAll]

theorem Dk.Inv.write {D : Dk} (h : D.Inv) (i : Nat) (s : List UInt8) (hi : i < D.kept.length) (hs : s.length ≤ 64) : (D.write i s).Inv := by
  refine ⟨?_, h.k64, fun x hx => ?_⟩
  · show D.seen.set i (pad s) = keepAll D.kept (all64 (D.uns ++ [(i, pad s)]))
    have e : all64 (D.uns ++ [(i, pad s)]) = all64 D.uns ++ [((i, pad s), 64)] := by simp [all64]
    rw [e, keepAll_snoc, ← h.seen]
    have hl : (D.seen.getD i []).length = 64 := by
      have hm : D.seen.getD i [] ∈ D.seen := by
        have : i < D.seen.length := by rw [h.length]; exact hi
        simp [List.getD, this]
      rw [h.seen] at hm ⊢
      exact keepAll_64 (all64 D.uns) (fun x hx => by
        simp only [all64, List.mem_map] at hx
        obtain ⟨y, hy, rfl⟩ := hx
        exact ⟨(h.u64 y hy).2, Nat.le_refl _⟩) D.kept (fun x hx => by
        simp only [all64, List.mem_map] at hx
        obtain ⟨y, hy, rfl⟩ := hx
        exact (h.u64 y hy).1) h.k64 _ hm
    show _ = D.seen.set i (tear (pad s) _ 64)
    rw [tear_all (length_pad hs) hl]
  · rcases List.mem_append.1 hx with hx | hx
    · exact h.u64 x hx
    · obtain rfl := List.mem_singleton.1 hx
      exact ⟨hi, length_pad hs⟩

theorem Dk.Inv.wr {D : Dk} (h : D.Inv) (i : Int) (s : List UInt8) : (D.wr i s).Inv := by
  unfold Dk.wr
  split
  · rename_i hh
    exact h.write _ _ (by omega) hh.2.2
  · exact h

end Go.Proofs.YtokbmimbbeedcaaGreatDoor
