/- The law that what is written is read: PageKeeps. -/
import Derived.BigQuiet
import Derived.Test.YtapmppiiphbcpaaKPQ
import Derived.Test.YtapmppiiphbcpaaKMB
namespace Go.Proofs.Ytapmppiiphbcpaa
open Go Go.RowKit Sm
attribute [local go_sem] Oper.semAt_some

/-- Pages side by side in a block. -/
def pcells (p : Pg) : List Value := [.int .i64 p.kind, .int .u32 p.id, .int .u64 p.tx, .string ⟨p.body.toArray⟩]
def wcellsP (Ws : List Pg) : List Value := Ws.flatMap pcells
theorem wcellsP_get : ∀ (Ws : List Pg) (k j : Nat), k < Ws.length → j < 4 → (wcellsP Ws)[k * 4 + j]? = (pcells (Ws.getD k Pg.zero))[j]?
  | [], k, j, hk, _ => absurd hk (by simp)
  | p :: Ws, 0, j, _, hj => by
    show (pcells p ++ wcellsP Ws)[0 * 4 + j]? = _
    rw [List.getElem?_append_left (by simp [pcells]; omega)]
    simp
  | p :: Ws, k + 1, j, hk, hj => by
    show (pcells p ++ wcellsP Ws)[(k + 1) * 4 + j]? = _
    rw [List.getElem?_append_right (by simp [pcells]; omega)]
    rw [show (k + 1) * 4 + j - (pcells p).length = k * 4 + j by simp [pcells]; omega]
    exact wcellsP_get Ws k j (by simpa using hk) hj
theorem wcellsP_len (Ws : List Pg) : (wcellsP Ws).length = Ws.length * 4 := by
  induction Ws with
  | nil => rfl
  | cons p Ws ih => simp only [wcellsP, List.flatMap_cons, List.length_append, List.length_cons] at *; rw [ih]; simp [pcells]; omega
theorem wcellsP_set : ∀ (Ws : List Pg) (k : Nat) (p : Pg), k < Ws.length → ((((wcellsP Ws).set (k * 4) (.int .i64 p.kind)).set (k * 4 + 1) (.int .u32 p.id)).set (k * 4 + 2) (.int .u64 p.tx)).set (k * 4 + 3) (.string ⟨p.body.toArray⟩) = wcellsP (Ws.set k p)
  | [], k, _, hk => absurd hk (by simp)
  | q :: Ws, 0, p, _ => by rfl
  | q :: Ws, k + 1, p, hk => by
    show (((((pcells q ++ wcellsP Ws).set ((k + 1) * 4) _).set ((k + 1) * 4 + 1) _).set ((k + 1) * 4 + 2) _).set ((k + 1) * 4 + 3) _) = pcells q ++ wcellsP (Ws.set k p)
    rw [← wcellsP_set Ws k p (by simpa using hk)]
    have e : ∀ (i : Nat) (v : Value) (L : List Value), (pcells q ++ L).set ((k + 1) * 4 + i) v = pcells q ++ L.set (k * 4 + i) v := fun i v L => by
      rw [List.set_append_right _ _ (by simp [pcells]; omega)]
      congr 2
      simp [pcells]
      omega
    have e0 : ∀ (v : Value) (L : List Value), (pcells q ++ L).set ((k + 1) * 4) v = pcells q ++ L.set (k * 4) v := fun v L => e 0 v L
    rw [e0, e 1, e 2, e 3]

/-- The law's array in memory. -/
def WantAt (B : Nat) (Ws : List Pg) (A : World) : Prop := ∃ T fr, A.heap[B]? = some (.cells (wcellsP Ws).toArray T (0, fr)) ∧ fr = 0
theorem want_cells {B : Nat} {Ws : List Pg} {A : World} (h : WantAt B Ws A) (k : Nat) (hk : k < Ws.length) :
    A.cell? ⟨B, k * 4, none⟩ = some (.int .i64 (Ws.getD k Pg.zero).kind) ∧ A.cell? ⟨B, k * 4 + 1, none⟩ = some (.int .u32 (Ws.getD k Pg.zero).id) ∧ A.cell? ⟨B, k * 4 + 2, none⟩ = some (.int .u64 (Ws.getD k Pg.zero).tx) ∧ A.cell? ⟨B, k * 4 + 3, none⟩ = some (.string ⟨(Ws.getD k Pg.zero).body.toArray⟩) := by
  obtain ⟨T, fr, hh, rfl⟩ := h
  refine ⟨?_, ?_, ?_, ?_⟩
  · have := wcellsP_get Ws k 0 hk (by decide)
    rw [cell_whole hh, ← Nat.add_zero (k * 4), this]; rfl
  · rw [cell_whole hh, wcellsP_get Ws k 1 hk (by decide)]; rfl
  · rw [cell_whole hh, wcellsP_get Ws k 2 hk (by decide)]; rfl
  · rw [cell_whole hh, wcellsP_get Ws k 3 hk (by decide)]; rfl
theorem want_frozen {B : Nat} {Ws : List Pg} {A : World} (h : WantAt B Ws A) (o : Nat) : A.frozen? ⟨B, o, none⟩ = false := by
  obtain ⟨T, fr, hh, rfl⟩ := h
  exact frozen_whole hh _
theorem want_set {B : Nat} {Ws : List Pg} {A : World} (h : WantAt B Ws A) (k : Nat) (hk : k < Ws.length) (p : Pg) :
    WantAt B (Ws.set k p) ((((A.setCell ⟨B, k * 4, none⟩ (.int .i64 p.kind)).setCell ⟨B, k * 4 + 1, none⟩ (.int .u32 p.id)).setCell ⟨B, k * 4 + 2, none⟩ (.int .u64 p.tx)).setCell ⟨B, k * 4 + 3, none⟩ (.string ⟨p.body.toArray⟩)) := by
  obtain ⟨T, fr, hh, rfl⟩ := h
  refine ⟨T, 0, ?_, rfl⟩
  rw [← wcellsP_set Ws k p hk]
  have := heap_setCell_at (heap_setCell_at (heap_setCell_at (heap_setCell_at hh (k * 4) (.int .i64 p.kind)) (k * 4 + 1) (.int .u32 p.id)) (k * 4 + 2) (.int .u64 p.tx)) (k * 4 + 3) (.string ⟨p.body.toArray⟩)
  simpa only [List.setIfInBounds_toArray] using this
theorem want_block {B : Nat} {Ws : List Pg} {A A' : World} (h : WantAt B Ws A) (hb : A'.heap[B]? = A.heap[B]?) : WantAt B Ws A' := by
  obtain ⟨T, fr, hh, rfl⟩ := h
  exact ⟨T, 0, hb.trans hh, rfl⟩
theorem want_lt {B : Nat} {Ws : List Pg} {A : World} (h : WantAt B Ws A) : B < A.heap.size := by
  obtain ⟨T, fr, hh, rfl⟩ := h
  exact lt_of_heap hh

section
variable {w A : World} {d kb sb : Nat} {D : Dk} {P : Nat → Prop}
theorem pwrite_p (h : MyP w d kb sb P D A) (p : Pg) (hp : p.Ok) (hu : D.uns.length + 4 < 1000000000000) (ho : D.ops + 4 < 1000000000000000) :
    Calls Try.prog 25 #[.pointer (some ⟨d, 0, none⟩), p.v] A fun e w' => e = .returned (.int .i64 (if p.right then wrCode D p.id else 30)) ∧ MyP w d kb sb P (if p.right then wrs D p.id p.enc 4 else D) w' ∧ ∀ k, P k → w'.heap[k]? = A.heap[k]? := by
  obtain ⟨v, hD, hF, hB, hP⟩ := h
  cases hr : p.right
  · refine (pwrite_bad hD p hp hr).mono fun e w' ⟨he, hb⟩ => ⟨he, MyP.below ⟨v, hD, hF, hB, hP⟩ hb, fun k hk => hb.block k (hP k hk).1⟩
  · exact (pwrite_good hD p hp hr hu ho).mono fun e w' hp => MyP.post hD hF hB hP hp
theorem pread_p (h : MyP w d kb sb P D A) (id : Nat) (hid : id < 4294967296) : Calls Try.prog 27 #[.pointer (some ⟨d, 0, none⟩), .int .u32 id] A fun e w' => e = .returned (rdV D id) ∧ MyP w d kb sb P D w' ∧ Below A.heap.size A w' := by
  obtain ⟨v, hD, hF, hB, hP⟩ := h
  exact (pread_any hD id hid).mono fun e w' ⟨he, hb⟩ => ⟨he, MyP.below ⟨v, hD, hF, hB, hP⟩ hb, hb⟩
end

/-- A slice of pages in memory. -/
def Pages (w : World) (p : Option Addr) (l : List Pg) : Prop :=
  l ≠ [] → ∃ b off, p = some ⟨b, off, none⟩ ∧ ∀ i x, l[i]? = some x → x.In ∧ w.cell? ⟨b, off + i * 4, none⟩ = some (.int .i64 x.kind) ∧ w.cell? ⟨b, off + i * 4 + 1, none⟩ = some (.int .u32 x.id) ∧ w.cell? ⟨b, off + i * 4 + 2, none⟩ = some (.int .u64 x.tx) ∧ w.cell? ⟨b, off + i * 4 + 3, none⟩ = some (.string ⟨x.body.toArray⟩)

def KeepsI (w : World) (d kb sb B k : Nat) (A : World) : Prop := ∃ D Ws, MyP w d kb sb (· = B) D A ∧ PgKeep D Ws ∧ D.uns.length ≤ 4 * k ∧ D.ops ≤ 4 * k ∧ WantAt B Ws A

end Go.Proofs.Ytapmppiiphbcpaa
