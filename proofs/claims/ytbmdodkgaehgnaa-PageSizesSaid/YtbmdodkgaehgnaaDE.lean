/- Texts and lists, cut; a write, whatever it is; acts in memory. -/
import Derived.Test.YtbmdodkgaehgnaaDC
namespace Go.Proofs.Ytbmdodkgaehgnaa
open Go.RowKit

theorem extract_list (s : ByteArray) (k : Nat) : s.extract 0 k = ⟨(s.data.toList.take k).toArray⟩ := by
  have h : (s.extract 0 k).data = (s.data.toList.take k).toArray := by
    rw [ByteArray.data_extract]
    cases s with | mk a => cases a; simp
  cases h' : s.extract 0 k
  rw [h'] at h
  exact congrArg ByteArray.mk h

theorem text_any (s : ByteArray) (w : World) (hs : s.size ≤ 9223372036854775807) : Calls Try.prog 49 #[.string s] w fun e w' => e = .returned (.string ⟨(s.data.toList.take 70).toArray⟩) ∧ w = w' := by
  go_enter Try.func49, Try.ntmps49
  go_wp2
  case inl => go_ret; exact ⟨congrArg (fun x => Ending.returned (Value.string x)) (extract_list s 70), rfl⟩
  case inr =>
    go_ret
    have e : s.data.toList.take 70 = s.data.toList := List.take_of_length_le (by rw [Array.length_toList]; show s.size ≤ 70; omega)
    exact ⟨congrArg (fun x : List UInt8 => Ending.returned (Value.string ⟨x.toArray⟩)) e.symm, rfl⟩

def Dk.wr (D : Dk) (i : Int) (s : List UInt8) : Dk := if 0 ≤ i ∧ i < D.kept.length ∧ s.length ≤ 64 then D.write i.toNat s else D
def Dk.wrc (D : Dk) (i : Int) (s : List UInt8) : Int := if 0 ≤ i ∧ i < D.kept.length then (if s.length ≤ 64 then 0 else 2) else 10

theorem DiskPost.same {w w' : World} {d kb sb : Nat} {v : Value} {D : Dk} (h : DiskAt w d kb sb v D) {r : Value} {e : Ending} (hb : e = .returned r ∧ Below w.heap.size w w') : DiskPost w d kb sb v D r e w' :=
  ⟨hb.1, v, h.kept' (F := fun _ => False) (Turned.new hb.2) (fun _ => False.elim), Turned.new hb.2, .inl rfl⟩

theorem wr_any {w : World} {d kb sb : Nat} {v : Value} {D : Dk} (h : DiskAt w d kb sb v D) (i : Int) (s : List UInt8) (hu : D.uns.length < 1000000000000) (ho : D.ops < 1000000000000000) :
    Calls Try.prog 43 #[.pointer (some ⟨d, 0, none⟩), .int .i64 i, .string ⟨s.toArray⟩] w (DiskPost w d kb sb v (D.wr i s) (.int .i64 (D.wrc i s))) := by
  by_cases h1 : 0 ≤ i ∧ i < D.kept.length
  · by_cases h2 : s.length ≤ 64
    · have e1 : D.wr i s = D.write i.toNat s := if_pos ⟨h1.1, h1.2, h2⟩
      have e2 : D.wrc i s = 0 := by rw [Dk.wrc, if_pos h1, if_pos h2]
      rw [e1, e2]
      have := write_any h i.toNat s (by omega) h2 hu ho
      rw [Int.toNat_of_nonneg h1.1] at this
      exact this
    · have e1 : D.wr i s = D := if_neg fun hh => h2 hh.2.2
      have e2 : D.wrc i s = 2 := by rw [Dk.wrc, if_pos h1, if_neg h2]
      rw [e1, e2]
      exact (write_long h i _ h1.1 h1.2 (by show 64 < s.toArray.size; simp; omega)).mono fun e w' hb => DiskPost.same h hb
  · have e1 : D.wr i s = D := if_neg fun hh => h1 ⟨hh.1, hh.2.1⟩
    have e2 : D.wrc i s = 10 := by rw [Dk.wrc, if_neg h1]
    rw [e1, e2]
    exact (write_sector h i _ (by omega)).mono fun e w' hb => DiskPost.same h hb

/-- An act, and a list of them in memory. -/
structure A where
  act : Int
  sec : Int
  s : ByteArray
  kp : Option Addr
  kn : Nat
  kc : Nat

def Acts (w : World) (p : Option Addr) (l : List A) : Prop :=
  l ≠ [] → ∃ b off, p = some ⟨b, off, none⟩ ∧ ∀ i x, l[i]? = some x → x.s.size ≤ 9223372036854775807 ∧ w.cell? ⟨b, off + i * 4, none⟩ = some (.int .i64 x.act) ∧ w.cell? ⟨b, off + i * 4 + 1, none⟩ = some (.int .i64 x.sec)
    ∧ w.cell? ⟨b, off + i * 4 + 2, none⟩ = some (.string x.s) ∧ w.cell? ⟨b, off + i * 4 + 3, none⟩ = some (.slice x.kp x.kn x.kc)

theorem Acts.kept {w w' : World} {p : Option Addr} {l : List A} (h : Acts w p l) (hb : ∀ b off, p = some ⟨b, off, none⟩ → w'.heap[b]? = w.heap[b]?) : Acts w' p l := fun hz => by
  obtain ⟨b, off, hp, hc⟩ := h hz
  exact ⟨b, off, hp, fun i x hx => by
    have := hc i x hx
    have e : ∀ o, w'.cell? ⟨b, o, none⟩ = w.cell? ⟨b, o, none⟩ := fun o => World.cell?_of_block (w := w) (hb b off hp)
    rw [e, e, e, e]; exact this⟩
end Go.Proofs.Ytbmdodkgaehgnaa
