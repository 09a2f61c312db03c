/- Money: amounts' bytes, the amounts of bytes: the document's own Bytes, Parse, Same. -/
import Derived.Test.YtckkiilbabbeaaaDoorKC1
import Derived.Test.YtckkiilbabbeaaaDoorKN0
import Derived.Test.YtckkiilbabbeaaaDoorKF1
namespace Go.Proofs.YtckkiilbabbeaaaDoor
open Go Go.RowKit Sm
attribute [local go_sem] Oper.semAt_some

def elL : El Int where
  enc n := [.int .i64 n]
  z := 1
  ty := 2
  sl := 59
  bytes := 8
  zero := .int .i64 0
  d := 0
  len _ := rfl
  one x v hv := by
    simp only [List.mem_cons, List.not_mem_nil, or_false] at hv
    subst hv; rfl
  pos := by decide
  under := by kernel_rfl
  info := by kernel_rfl
  zlen := rfl
  few := by decide

def bytesM (l : List Int) : List UInt8 := l.flatMap fun n => putB n.toNat 8
def bytesR (l : List Int) : List UInt8 × Int := if l.all amt then (bytesM l, 0) else ([], 110)
def eightM (s : List UInt8) (i : Nat) : Nat := getB ((s.drop (8 * i)).take 8)
def eightsM (s : List UInt8) : List Nat := (List.range (s.length / 8)).map (eightM s)
def isM (s : List UInt8) : Bool := decide (s.length % 8 = 0) && (eightsM s).all fun n => decide (n ≤ 1152921504606846976)
def parseR (s : List UInt8) : List Int × Int := if isM s then ((eightsM s).map fun (n : Nat) => (n : Int), 0) else ([], 110)

theorem bytesM_take (l : List Int) (k : Nat) (h : k < l.length) : bytesM (l.take (k + 1)) = bytesM (l.take k) ++ putB (l.getD k 0).toNat 8 := by
  unfold bytesM
  rw [List.take_succ_eq_append_getElem h, List.flatMap_append]
  simp [List.getD, h]
theorem bytesM_len (l : List Int) : (bytesM l).length = 8 * l.length := by
  induction l with
  | nil => rfl
  | cons a r ih => simp only [bytesM, List.flatMap_cons, List.length_append, List.length_cons] at ih ⊢; rw [ih]; simp [putB]; omega
theorem allA_take (l : List Int) (k : Nat) (h : k < l.length) : (l.take (k + 1)).all amt = ((l.take k).all amt && amt (l.getD k 0)) := by
  rw [List.take_succ_eq_append_getElem h, List.all_append]
  simp [List.getD, h]
theorem allA_out (l : List Int) (k : Nat) (h : k < l.length) (hf : amt (l.getD k 0) = false) : l.all amt = false := by
  rw [List.all_eq_false]
  refine ⟨l[k], List.getElem_mem h, ?_⟩
  have : l.getD k 0 = l[k] := by simp [List.getD, h]
  rw [← this, hf]; decide

def LsPost (w : World) (L : List Int) (c : Int) (e : Ending) (w' : World) : Prop := ∃ p cp, e = .returned (.tuple #[.slice p L.length cp, .int .i64 c]) ∧ Els elL w' p L ∧ L.length ≤ cp ∧ Below w.heap.size w w'

theorem els_load {w : World} {p : Option Addr} {L : List Int} (h : Els elL w p L) {k : Nat} (hk : k < L.length) : ∃ b o, p = some ⟨b, o, none⟩ ∧ w.cell? ⟨b, o + k, none⟩ = some (.int .i64 (L.getD k 0)) := by
  obtain ⟨b, o, hp, hc⟩ := h (by rintro rfl; simp at hk)
  refine ⟨b, o, hp, ?_⟩
  have := hc k 0 hk (by decide)
  rw [show elL.z = 1 from rfl, Nat.mul_one, Nat.add_zero] at this
  exact this

theorem own_cap {α : Type} {E : El α} {w : World} {B : Nat} {p : Option Addr} {c : Nat} {L : List α} (h : OwnE E w B (.slice p L.length c) L) : L.length ≤ c := by
  obtain ⟨-, h2⟩ := h
  rcases h2 with ⟨h, h0⟩ | ⟨g, cap, cur, hv, hg, hh, hn, hc, hs, ht⟩
  · rw [h0]; exact Nat.zero_le _
  · simp only [Value.slice.injEq] at hv
    omega
theorem eightsM_len (s : List UInt8) : (eightsM s).length = s.length / 8 := by simp [eightsM]
theorem eightsM_at (s : List UInt8) (k : Nat) (h : k < s.length / 8) : (eightsM s)[k]? = some (eightM s k) := by simp [eightsM, h]
theorem mapM_take (s : List UInt8) (k : Nat) (h : k < s.length / 8) : ((eightsM s).map fun (n : Nat) => (n : Int)).take (k + 1) = ((eightsM s).map fun (n : Nat) => (n : Int)).take k ++ [(eightM s k : Int)] := by
  rw [← List.map_take, ← List.map_take, List.take_succ_eq_append_getElem (by rw [eightsM_len]; exact h), List.map_append]
  congr 1
  have h1 := eightsM_at s k h
  have h2 : k < (eightsM s).length := by rw [eightsM_len]; exact h
  rw [List.getElem?_eq_getElem h2] at h1
  simp [Option.some.inj h1]
theorem allM_take (s : List UInt8) (k : Nat) (h : k < s.length / 8) : ((eightsM s).take (k + 1)).all (fun n => decide (n ≤ 1152921504606846976)) = (((eightsM s).take k).all (fun n => decide (n ≤ 1152921504606846976)) && decide (eightM s k ≤ 1152921504606846976)) := by
  have h2 : k < (eightsM s).length := by rw [eightsM_len]; exact h
  have h1 := eightsM_at s k h
  rw [List.getElem?_eq_getElem h2] at h1
  rw [List.take_succ_eq_append_getElem h2, List.all_append, Option.some.inj h1]
  simp
theorem allM_out (s : List UInt8) (k : Nat) (h : k < s.length / 8) (hf : ¬ eightM s k ≤ 1152921504606846976) : (eightsM s).all (fun n => decide (n ≤ 1152921504606846976)) = false := by
  rw [List.all_eq_false]
  have h2 : k < (eightsM s).length := by rw [eightsM_len]; exact h
  have h1 := eightsM_at s k h
  rw [List.getElem?_eq_getElem h2] at h1
  exact ⟨_, List.getElem_mem h2, by rw [Option.some.inj h1]; simpa using hf⟩

end Go.Proofs.YtckkiilbabbeaaaDoor
