/- The law that what is written is read: PageKeeps. -/
import Derived.BigQuiet
import Derived.Test.YtghpcjkjhbafnaaKPQ
import Derived.Test.YtghpcjkjhbafnaaKMI
namespace Go.Proofs.Ytghpcjkjhbafnaa
open Go Go.RowKit Sm
attribute [local go_sem] Oper.semAt_some

/-- Pages side by side in a block. -/
def pcells (p : Pg) : List Value := [.int .i64 p.kind, .int .u32 p.id, .int .u64 p.tx, .string ⟨p.body.toArray⟩]
def wcellsP (Ws : List Pg) : List Value := Ws.flatMap pcells
theorem wcellsP_get : ∀ (Ws : List Pg) (k j : Nat), k < Ws.length → j < 4 → (wcellsP Ws)[k * 4 + j]? = (pcells (Ws.getD k Pg.zero))[j]?
  | [], k, j, hk, _ => absurd hk (by simp)
  | p :: Ws, 0, j, _, hj => by
    show (pcells p ++ wcellsP Ws)[0 * 4 + j]? = _
    rw [List.getElem?_append_left (by simp [pcells]; omega)]
    simp
  | p :: Ws, k + 1, j, hk, hj => by
    show (pcells p ++ wcellsP Ws)[(k + 1) * 4 + j]? = _
    rw [List.getElem?_append_right (by simp [pcells]; omega)]
    rw [show (k + 1) * 4 + j - (pcells p).length = k * 4 + j by simp [pcells]; omega]
    exact wcellsP_get Ws k j (by simpa using hk) hj
theorem wcellsP_len (Ws : List Pg) : (wcellsP Ws).length = Ws.length * 4 := by
  induction Ws with
  | nil => rfl
  | cons p Ws ih => simp only [wcellsP, List.flatMap_cons, List.length_append, List.length_cons] at *; rw [ih]; simp [pcells]; omega
theorem wcellsP_set : ∀ (Ws : List Pg) (k : Nat) (p : Pg), k < Ws.length → ((((wcellsP Ws).set (k * 4) (.int .i64 p.kind)).set (k * 4 + 1) (.int .u32 p.id)).set (k * 4 + 2) (.int .u64 p.tx)).set (k * 4 + 3) (.string ⟨p.body.toArray⟩) = wcellsP (Ws.set k p)
  | [], k, _, hk => absurd hk (by simp)
  | q :: Ws, 0, p, _ => by rfl
  | q :: Ws, k + 1, p, hk => by
    show (((((pcells q ++ wcellsP Ws).set ((k + 1) * 4) _).set ((k + 1) * 4 + 1) _).set ((k + 1) * 4 + 2) _).set ((k + 1) * 4 + 3) _) = pcells q ++ wcellsP (Ws.set k p)
    rw [← wcellsP_set Ws k p (by simpa using hk)]
    have e : ∀ (i : Nat) (v : Value) (L : List Value), (pcells q ++ L).set ((k + 1) * 4 + i) v = pcells q ++ L.set (k * 4 + i) v := fun i v L => by
      rw [List.set_append_right _ _ (by simp [pcells]; omega)]
      congr 2
      simp [pcells]
      omega
    have e0 : ∀ (v : Value) (L : List Value), (pcells q ++ L).set ((k + 1) * 4) v = pcells q ++ L.set (k * 4) v := fun v L => e 0 v L
    rw [e0, e 1, e 2, e 3]

/-- The law's array in memory. -/
def WantAt (B : Nat) (Ws : List Pg) (A : World) : Prop := ∃ T fr, A.heap[B]? = some (.cells (wcellsP Ws).toArray T (0, fr)) ∧ fr = 0
theorem want_cells {B : Nat} {Ws : List Pg} {A : World} (h : WantAt B Ws A) (k : Nat) (hk : k < Ws.length) :
    A.cell? ⟨B, k * 4, none⟩ = some (.int .i64 (Ws.getD k Pg.zero).kind) ∧ A.cell? ⟨B, k * 4 + 1, none⟩ = some (.int .u32 (Ws.getD k Pg.zero).id) ∧ A.cell? ⟨B, k * 4 + 2, none⟩ = some (.int .u64 (Ws.getD k Pg.zero).tx) ∧ A.cell? ⟨B, k * 4 + 3, none⟩ = some (.string ⟨(Ws.getD k Pg.zero).body.toArray⟩) := by
  obtain ⟨T, fr, hh, rfl⟩ := h
  refine ⟨?_, ?_, ?_, ?_⟩
  · have := wcellsP_get Ws k 0 hk (by decide)
    rw [cell_whole hh, ← Nat.add_zero (k * 4), this]; rfl
  · rw [cell_whole hh, wcellsP_get Ws k 1 hk (by decide)]; rfl
  · rw [cell_whole hh, wcellsP_get Ws k 2 hk (by decide)]; rfl
  · rw [cell_whole hh, wcellsP_get Ws k 3 hk (by decide)]; rfl
theorem want_frozen {B : Nat} {Ws : List Pg} {A : World} (h : WantAt B Ws A) (o : Nat) : A.frozen? ⟨B, o, none⟩ = false := by
  obtain ⟨T, fr, hh, rfl⟩ := h
  exact frozen_whole hh _
theorem want_set {B : Nat} {Ws : List Pg} {A : World} (h : WantAt B Ws A) (k : Nat) (hk : k < Ws.length) (p : Pg) :
    WantAt B (Ws.set k p) ((((A.setCell ⟨B, k * 4, none⟩ (.int .i64 p.kind)).setCell ⟨B, k * 4 + 1, none⟩ (.int .u32 p.id)).setCell ⟨B, k * 4 + 2, none⟩ (.int .u64 p.tx)).setCell ⟨B, k * 4 + 3, none⟩ (.string ⟨p.body.toArray⟩)) := by
  obtain ⟨T, fr, hh, rfl⟩ := h
  refine ⟨T, 0, ?_, rfl⟩
  rw [← wcellsP_set Ws k p hk]
  have := heap_setCell_at (heap_setCell_at (heap_setCell_at (heap_setCell_at hh (k * 4) (.int .i64 p.kind)) (k * 4 + 1) (.int .u32 p.id)) (k * 4 + 2) (.int .u64 p.tx)) (k * 4 + 3) (.string ⟨p.body.toArray⟩)
  simpa only [List.setIfInBounds_toArray] using this
theorem want_block {B : Nat} {Ws : List Pg} {A A' : World} (h : WantAt B Ws A) (hb : A'.heap[B]? = A.heap[B]?) : WantAt B Ws A' := by
  obtain ⟨T, fr, hh, rfl⟩ := h
  exact ⟨T, 0, hb.trans hh, rfl⟩
theorem want_lt {B : Nat} {Ws : List Pg} {A : World} (h : WantAt B Ws A) : B < A.heap.size := by
  obtain ⟨T, fr, hh, rfl⟩ := h
  exact lt_of_heap hh

section
variable {w A : World} {d kb sb : Nat} {D : Dk} {P : Nat → Prop}
theorem pwrite_p (h : MyP w d kb sb P D A) (p : Pg) (hp : p.Ok) (hu : D.uns.length + 4 < 1000000000000) (ho : D.ops + 4 < 1000000000000000) :
    Calls Try.prog 25 #[.pointer (some ⟨d, 0, none⟩), p.v] A fun e w' => e = .returned (.int .i64 (if p.right then wrCode D p.id else 30)) ∧ MyP w d kb sb P (if p.right then wrs D p.id p.enc 4 else D) w' ∧ ∀ k, P k → w'.heap[k]? = A.heap[k]? := by
  obtain ⟨v, hD, hF, hB, hP⟩ := h
  cases hr : p.right
  · refine (pwrite_bad hD p hp hr).mono fun e w' ⟨he, hb⟩ => ⟨he, MyP.below ⟨v, hD, hF, hB, hP⟩ hb, fun k hk => hb.block k (hP k hk).1⟩
  · exact (pwrite_good hD p hp hr hu ho).mono fun e w' hp => MyP.post hD hF hB hP hp
theorem pread_p (h : MyP w d kb sb P D A) (id : Nat) (hid : id < 4294967296) : Calls Try.prog 27 #[.pointer (some ⟨d, 0, none⟩), .int .u32 id] A fun e w' => e = .returned (rdV D id) ∧ MyP w d kb sb P D w' ∧ Below A.heap.size A w' := by
  obtain ⟨v, hD, hF, hB, hP⟩ := h
  exact (pread_any hD id hid).mono fun e w' ⟨he, hb⟩ => ⟨he, MyP.below ⟨v, hD, hF, hB, hP⟩ hb, hb⟩
end

/-- A slice of pages in memory. -/
def Pages (w : World) (p : Option Addr) (l : List Pg) : Prop :=
  l ≠ [] → ∃ b off, p = some ⟨b, off, none⟩ ∧ ∀ i x, l[i]? = some x → x.In ∧ w.cell? ⟨b, off + i * 4, none⟩ = some (.int .i64 x.kind) ∧ w.cell? ⟨b, off + i * 4 + 1, none⟩ = some (.int .u32 x.id) ∧ w.cell? ⟨b, off + i * 4 + 2, none⟩ = some (.int .u64 x.tx) ∧ w.cell? ⟨b, off + i * 4 + 3, none⟩ = some (.string ⟨x.body.toArray⟩)

def KeepsI (w : World) (d kb sb B k : Nat) (A : World) : Prop := ∃ D Ws, MyP w d kb sb (· = B) D A ∧ PgKeep D Ws ∧ D.uns.length ≤ 4 * k ∧ D.ops ≤ 4 * k ∧ WantAt B Ws A

set_option maxRecDepth 20000 in
set_option maxHeartbeats 8000000 in
theorem pageKeeps_any (p : Option Addr) (l : List Pg) (lc : Nat) (w : World) (hA : Pages w p l) (hp : ∀ a, p = some a → a.block < w.heap.size) :
    Calls Try.prog 5 #[.slice p l.length lc] w fun e w' => e = .returned (.bool true) ∧ Below w.heap.size w w' := by
  have HA := Lib.hid hA
  have HP := Lib.hid hp
  clear hA hp
  go_enter Try.func5, Try.ntmps5
  go_wp2_with (first
    | (go_at_call 23; refine (shown3_any _).mono ?_; rintro e w1 ⟨rfl, hb1⟩)
    | (go_at_call 14; refine (new_any 40 (by decide) (by decide) _).mono ?_; intro e w2 hp2; obtain ⟨d, kb, sb, rfl, hM2, -⟩ := MyD.new hb1 hp2; have HM2 : Veil _ := ⟨hM2⟩; clear hM2 hp2)
    | fail)
  obtain ⟨B, hBe⟩ : ∃ B, w2.heap.size = B := ⟨_, rfl⟩
  have hM3 : ∀ o, MyP w d kb sb (· = B) (Dk.new 40) (w2.alloc o) := fun o => by
    rw [← hBe]
    exact (HM2.out.guard.add _).less fun k hk => .inr hk
  have hWB : w.heap.size ≤ B := by rw [← hBe]; exact HM2.out.in.size
  obtain ⟨W3, hW3⟩ : ∃ W3, w2.alloc (.cells #[.int .i64 0, .int .u32 0, .int .u64 0, .string ⟨#[]⟩, .int .i64 0, .int .u32 0, .int .u64 0, .string ⟨#[]⟩, .int .i64 0, .int .u32 0, .int .u64 0, .string ⟨#[]⟩, .int .i64 0, .int .u32 0, .int .u64 0, .string ⟨#[]⟩, .int .i64 0, .int .u32 0, .int .u64 0, .string ⟨#[]⟩, .int .i64 0, .int .u32 0, .int .u64 0, .string ⟨#[]⟩, .int .i64 0, .int .u32 0, .int .u64 0, .string ⟨#[]⟩, .int .i64 0, .int .u32 0, .int .u64 0, .string ⟨#[]⟩, .int .i64 0, .int .u32 0, .int .u64 0, .string ⟨#[]⟩, .int .i64 0, .int .u32 0, .int .u64 0, .string ⟨#[]⟩] 57) = W3 := ⟨_, rfl⟩
  have hW0 : WantAt B (List.replicate 10 Pg.zero) W3 := by
    rw [← hW3, ← hBe]
    exact ⟨57, 0, heap_alloc_new _ _, rfl⟩
  have HI : Veil (KeepsI w d kb sb B 0 W3) := ⟨_, _, by rw [← hW3]; exact hM3 _, pgKeep_new, Nat.le_refl _, Nat.le_refl _, hW0⟩
  have HWB : Veil _ := ⟨hWB⟩
  rw [hBe, hW3]
  clear hM3 hW0 hW3 hBe HM2 hb1 hWB
  go_loopw [7] (fun i w' => ∃ k : Nat, k ≤ l.length ∧ k ≤ 20 ∧ i = .int .i64 k ∧ Veil (KeepsI w d kb sb B k w')) (fun i _ => 20 - (intOf i).toNat)
  case atStart => exact ⟨0, Nat.zero_le _, Nat.zero_le _, rfl, HI⟩
  case round =>
    obtain ⟨k, hk, hk8, rfl, hI⟩ := hrel
    clear HI
    by_cases hin : k < l.length ∧ k < 20
    · obtain ⟨h1, h2⟩ := hin
      obtain ⟨b, off, rfl, hc⟩ := HA.out (by intro h; simp [h] at h1)
      have hbl := HP.out _ rfl
      have hc' := hc k l[k] (List.getElem?_eq_getElem h1)
      generalize l[k] = x at hc'
      obtain ⟨D, Ws, hM, hPK, hu, ho, hW⟩ := hI.out
      have e : ∀ o, wr.cell? ⟨b, o, none⟩ = w.cell? ⟨b, o, none⟩ := fun o => World.cell?_of_block (hM.in.block b hbl)
      rw [← e, ← e, ← e, ← e] at hc'
      obtain ⟨hxi, c0, c1, c2, c3⟩ := hc'
      have SM : Veil (∀ w, Calls Try.prog 24 #[x.v] w fun e w' => e = .returned x.small.v ∧ Below w.heap.size w w') := ⟨small_any x hxi.b⟩
      obtain ⟨j, hj⟩ : ∃ j, 2 + x.id % 8 = j := ⟨_, rfl⟩
      have hj2 : 2 ≤ j := by omega
      have hj10 : j < 10 := by omega
      have hqo : (⟨x.kind, j, x.tx, x.body.take 250⟩ : Pg).Ok := ⟨hxi.k1, hxi.k2, by show j < 4294967296; omega, hxi.tx, by show (x.body.take 250).length ≤ 1000000; simp; omega⟩
      have HWr : Veil (∀ (A : World) (c : Array Value) (Ty : TypeId), MyP w d kb sb (· = B) D A → WantAt B Ws A → Calls Try.prog 25 #[.pointer (some ⟨d, 0, none⟩), (⟨x.kind, j, x.tx, x.body.take 250⟩ : Pg).v] (A.alloc (.cells c Ty)) fun e w' => e = .returned (.int .i64 (if (⟨x.kind, j, x.tx, x.body.take 250⟩ : Pg).right then 0 else 30)) ∧ MyP w d kb sb (· = B) (if (⟨x.kind, j, x.tx, x.body.take 250⟩ : Pg).right then wrs D j (⟨x.kind, j, x.tx, x.body.take 250⟩ : Pg).enc 4 else D) w' ∧ WantAt B Ws w' ∧ w'.heap[A.heap.size]? = some (.cells c Ty (0, 0))) := ⟨fun A c Ty h hw => by
        have h2 := h.add (.cells c Ty)
        refine (pwrite_p h2 _ hqo (by omega) (by omega)).mono ?_
        rintro e w' ⟨rfl, hM', hP'⟩
        refine ⟨?_, hM'.less fun k hk => .inl hk, want_block hw ((hP' B (.inl rfl)).trans (Below.heap_alloc _ _ _ (want_lt hw))), (hP' _ (.inr rfl)).trans (heap_alloc_new _ _)⟩
        cases hr : (⟨x.kind, j, x.tx, x.body.take 250⟩ : Pg).right
        · rfl
        · have := (hPK.write hM.my.ok.len _ hqo hr hj2 hj10).2
          show Ending.returned (Value.int .i64 (wrCode D j)) = _
          rw [this]; rfl⟩
      have hfew := wrs_few D j (⟨x.kind, j, x.tx, x.body.take 250⟩ : Pg).enc 4
      have HPKw : Veil ((⟨x.kind, j, x.tx, x.body.take 250⟩ : Pg).right = true → PgKeep (wrs D j (⟨x.kind, j, x.tx, x.body.take 250⟩ : Pg).enc 4) (Ws.set j ⟨x.kind, j, x.tx, x.body.take 250⟩)) := ⟨fun hr => (hPK.write hM.my.ok.len _ hqo hr hj2 hj10).1⟩
      have HPK : Veil _ := ⟨hPK⟩
      have HM : Veil _ := ⟨hM⟩
      have HW : Veil _ := ⟨hW⟩
      have HF : Veil (D.uns.length ≤ 4 * k ∧ D.ops ≤ 4 * k ∧ (wrs D j (⟨x.kind, j, x.tx, x.body.take 250⟩ : Pg).enc 4).uns.length ≤ 4 * (k + 1) ∧ (wrs D j (⟨x.kind, j, x.tx, x.body.take 250⟩ : Pg).enc 4).ops ≤ 4 * (k + 1)) := ⟨hu, ho, by omega, by omega⟩
      have e0 : ((x.id : Nat) : Int).tmod 8 = ((x.id % 8 : Nat) : Int) := by rw [Int.tmod_eq_emod_of_nonneg (by omega)]; omega
      have e1 : IntKind.u32.wrap (((x.id % 8 : Nat)) : Int) = ((x.id % 8 : Nat) : Int) := by rw [IntKind.wrap_u32']; omega
      have e2 : (2 : Int) + ((x.id % 8 : Nat) : Int) = (j : Int) := by omega
      have e3 : IntKind.u32.wrap (j : Int) = (j : Int) := by rw [IntKind.wrap_u32']; omega
      have hWl : j < Ws.length := by rw [hPK.len]; exact hj10
      clear hc e hbl hM hPK hu ho hW hqo hI hxi hj hfew
      generalize (⟨x.kind, j, x.tx, x.body.take 250⟩ : Pg).enc = E at *
      cases hr : (⟨x.kind, j, x.tx, x.body.take 250⟩ : Pg).right
      · rw [hr] at HWr
        clear HPKw hr
        obtain ⟨kd, id, tx, bd⟩ := x
        unfold Pg.small Pg.v at *
        dsimp only at *
        generalize id % 8 = r at *
        generalize bd.take 250 = bs at *
        go_wp2_with (first
          | (go_at_call 24; refine (SM.out _).mono ?_; rintro e w3 ⟨rfl, hb3⟩; have HM3 : Veil _ := ⟨HM.out.below hb3⟩; have HW3 : Veil _ := ⟨want_block HW.out (hb3.block B (want_lt HW.out))⟩)
          | (go_at_call 25; refine (HWr.out _ _ _ HM3.out HW3.out).mono ?_; rintro e w4 ⟨rfl, hM4, hW4, -⟩; have HM4 : Veil _ := ⟨hM4⟩; have HW4 : Veil _ := ⟨hW4⟩; clear hM4 hW4))
        have HM5 := HM4
        have HW5 := HW4
        have HK5 := HPK
        have HF5 : Veil (D.uns.length ≤ 4 * (k + 1) ∧ D.ops ≤ 4 * (k + 1)) := ⟨by have := HF.out; omega, by have := HF.out; omega⟩
        generalize D = D5 at *
        generalize Ws = Ws5 at *
        clear HM4 HW4 HPK HF HM HW SM HWr
        go_loopw [9] (fun kk w' => ∃ m : Nat, 2 ≤ m ∧ m ≤ 10 ∧ kk = .int .u32 m ∧ Veil (MyP w d kb sb (· = B) D5 w' ∧ WantAt B Ws5 w')) (fun kk _ => 10 - (intOf kk).toNat)
        case atStart => exact ⟨2, by decide, by decide, rfl, ⟨HM5.out, HW5.out⟩⟩
        case round =>
          obtain ⟨m, hm2, hm10, rfl, hMW⟩ := hrel
          by_cases hm : m < 10
          · have hat := HK5.out.at' m hm2 hm
            have hml : m < Ws5.length := by rw [HK5.out.len]; exact hm
            have hwm : IntKind.u32.wrap ((m : Int) + 1) = (m : Int) + 1 := by rw [IntKind.wrap_u32']; omega
            rcases hat with ⟨h0, hv⟩ | ⟨h1, hv⟩
            · have HR : Veil (∀ A, MyP w d kb sb (· = B) D5 A → Calls Try.prog 27 #[.pointer (some ⟨d, 0, none⟩), .int .u32 m] A fun e w' => e = .returned (.tuple #[.agg #[.int .i64 0, .int .u32 0, .int .u64 0, .string ⟨#[]⟩], .int .i64 30]) ∧ MyP w d kb sb (· = B) D5 w' ∧ Below A.heap.size A w') := ⟨fun A h => by have := pread_p h m (by omega); rwa [hv] at this⟩
              clear hv
              go_wp2_with (go_at_call 27; refine (HR.out _ hMW.out.1).mono ?_; rintro e w7 ⟨rfl, hM7, hb7⟩; have HM7 : Veil _ := ⟨hM7⟩; have HW7 : Veil _ := ⟨want_block hMW.out.2 (hb7.block B (want_lt hMW.out.2))⟩; have hl7 : B < w7.heap.size := want_lt HW7.out; obtain ⟨z0, z1, z2, z3⟩ := want_cells HW7.out m hml; rw [h0] at z0 z1 z2 z3; clear hM7 hb7)
              have z2' : w7.cell? ⟨B, m * 4 + 2, none⟩ = some (.int .u64 0) := z2
              clear z0 z1 z2 z3
              go_quiet (fail)
              go_wp2
              go_roundw
              case rel => exact ⟨m + 1, by omega, by omega, by go_num, ⟨(HM7.out.below (below_al (Below.refl _ _) _)).below (blw_drewN nq (Below.refl _ _)), want_block HW7.out (Below.heap_alloc _ _ _ hl7)⟩⟩
              case measure => simp [intOf]; omega
            · obtain ⟨q, hq⟩ : ∃ q, Ws5.getD m Pg.zero = q := ⟨_, rfl⟩
              rw [hq] at h1 hv
              have HR : Veil (∀ A, MyP w d kb sb (· = B) D5 A → Calls Try.prog 27 #[.pointer (some ⟨d, 0, none⟩), .int .u32 m] A fun e w' => e = .returned (.tuple #[q.v, .int .i64 0]) ∧ MyP w d kb sb (· = B) D5 w' ∧ Below A.heap.size A w') := ⟨fun A h => by have := pread_p h m (by omega); rwa [hv] at this⟩
              clear hv
              obtain ⟨qk, qi, qt, qb⟩ := q
              have hqt : ((qt : Int) == 0) = false := by have h1 : 1 ≤ qt := h1; simp; omega
              have hqt2 : ((qt : Int) != 0) = true := by have h1 : 1 ≤ qt := h1; simp; omega
              clear h1
              unfold Pg.v at HR
              dsimp only at HR
              go_wp2_with (go_at_call 27; refine (HR.out _ hMW.out.1).mono ?_; rintro e w7 ⟨rfl, hM7, hb7⟩; have HM7 : Veil _ := ⟨hM7⟩; have HW7 : Veil _ := ⟨want_block hMW.out.2 (hb7.block B (want_lt hMW.out.2))⟩; have hl7 : B < w7.heap.size := want_lt HW7.out; obtain ⟨z0, z1, z2, z3⟩ := want_cells HW7.out m hml; rw [hq] at z0 z1 z2 z3; dsimp only at z0 z1 z2 z3; clear hM7 hb7)
              clear hq
              go_quiet (fail)
              go_wp2
              go_roundw
              case rel => exact ⟨m + 1, by omega, by omega, by go_num, ⟨(HM7.out.below (below_al (Below.refl _ _) _)).below (blw_drewN nq (Below.refl _ _)), want_block HW7.out (Below.heap_alloc _ _ _ hl7)⟩⟩
              case measure => simp [intOf]; omega
          · obtain rfl : m = 10 := by omega
            go_wp2
            go_roundw
            case rel => exact ⟨k + 1, by omega, by omega, by go_num, ⟨D5, Ws5, hMW.out.1, HK5.out, HF5.out.1, HF5.out.2, hMW.out.2⟩⟩
            case measure => simp [intOf]; omega
      · rw [hr] at HWr
        have HPK2 : Veil _ := ⟨HPKw.out hr⟩
        clear HPKw hr
        obtain ⟨kd, id, tx, bd⟩ := x
        unfold Pg.small Pg.v at *
        dsimp only at *
        generalize id % 8 = r at *
        generalize bd.take 250 = bs at *
        go_wp2_with (first
          | (go_at_call 24; refine (SM.out _).mono ?_; rintro e w3 ⟨rfl, hb3⟩; have HM3 : Veil _ := ⟨HM.out.below hb3⟩; have HW3 : Veil _ := ⟨want_block HW.out (hb3.block B (want_lt HW.out))⟩)
          | (go_at_call 25; refine (HWr.out _ _ _ HM3.out HW3.out).mono ?_; rintro e w4 ⟨rfl, hM4, hW4, hX4⟩; have HM4 : Veil _ := ⟨hM4⟩; have HW4 : Veil _ := ⟨hW4⟩; obtain ⟨⟨y0, y1, y2, y3⟩, -⟩ := pack4 hX4; obtain ⟨z0, z1, z2, z3⟩ := want_cells hW4 j hWl; have g0 := want_frozen hW4 (j * 4); have g1 := want_frozen hW4 (j * 4 + 1); have g2 := want_frozen hW4 (j * 4 + 2); have g3 := want_frozen hW4 (j * 4 + 3); clear hM4 hW4 hX4))
        have HM5 := (⟨HM4.out.turned ((((((Turned.refl (· = B) w4).setCell (p := ⟨B, j * 4, none⟩) rfl (.int .i64 kd)).setCell (p := ⟨B, j * 4 + 1, none⟩) rfl (.int .u32 j)).setCell (p := ⟨B, j * 4 + 2, none⟩) rfl (.int .u64 tx)).setCell (p := ⟨B, j * 4 + 3, none⟩) rfl (.string ⟨bs.toArray⟩))) (fun k hk => ⟨hk, Nat.le_trans HWB.out (Nat.le_of_eq hk.symm)⟩)⟩ : Veil (MyP w d kb sb (· = B) _ _))
        have HW5 := (⟨want_set HW4.out j hWl ⟨kd, j, tx, bs⟩⟩ : Veil _)
        have HK5 := HPK2
        have HF5 : Veil ((wrs D j E 4).uns.length ≤ 4 * (k + 1) ∧ (wrs D j E 4).ops ≤ 4 * (k + 1)) := ⟨HF.out.2.2.1, HF.out.2.2.2⟩
        dsimp only at HW5
        simp only [if_true] at HM5
        clear HM4 HW4 HPK HPK2 HF HM HW SM HWr z0 z1 z2 z3 g0 g1 g2 g3 y0 y1 y2 y3
        generalize wrs D j E 4 = D5 at *
        generalize Ws.set j ⟨kd, j, tx, bs⟩ = Ws5 at *
        generalize (((w4.setCell ⟨B, j * 4, none⟩ (.int .i64 kd)).setCell ⟨B, j * 4 + 1, none⟩ (.int .u32 j)).setCell ⟨B, j * 4 + 2, none⟩ (.int .u64 tx)).setCell ⟨B, j * 4 + 3, none⟩ (.string ⟨bs.toArray⟩) = W5 at *
        go_loopw [9] (fun kk w' => ∃ m : Nat, 2 ≤ m ∧ m ≤ 10 ∧ kk = .int .u32 m ∧ Veil (MyP w d kb sb (· = B) D5 w' ∧ WantAt B Ws5 w')) (fun kk _ => 10 - (intOf kk).toNat)
        case atStart => exact ⟨2, by decide, by decide, rfl, ⟨HM5.out, HW5.out⟩⟩
        case round =>
          obtain ⟨m, hm2, hm10, rfl, hMW⟩ := hrel
          by_cases hm : m < 10
          · have hat := HK5.out.at' m hm2 hm
            have hml : m < Ws5.length := by rw [HK5.out.len]; exact hm
            have hwm : IntKind.u32.wrap ((m : Int) + 1) = (m : Int) + 1 := by rw [IntKind.wrap_u32']; omega
            rcases hat with ⟨h0, hv⟩ | ⟨h1, hv⟩
            · have HR : Veil (∀ A, MyP w d kb sb (· = B) D5 A → Calls Try.prog 27 #[.pointer (some ⟨d, 0, none⟩), .int .u32 m] A fun e w' => e = .returned (.tuple #[.agg #[.int .i64 0, .int .u32 0, .int .u64 0, .string ⟨#[]⟩], .int .i64 30]) ∧ MyP w d kb sb (· = B) D5 w' ∧ Below A.heap.size A w') := ⟨fun A h => by have := pread_p h m (by omega); rwa [hv] at this⟩
              clear hv
              go_wp2_with (go_at_call 27; refine (HR.out _ hMW.out.1).mono ?_; rintro e w7 ⟨rfl, hM7, hb7⟩; have HM7 : Veil _ := ⟨hM7⟩; have HW7 : Veil _ := ⟨want_block hMW.out.2 (hb7.block B (want_lt hMW.out.2))⟩; have hl7 : B < w7.heap.size := want_lt HW7.out; obtain ⟨z0, z1, z2, z3⟩ := want_cells HW7.out m hml; rw [h0] at z0 z1 z2 z3; clear hM7 hb7)
              have z2' : w7.cell? ⟨B, m * 4 + 2, none⟩ = some (.int .u64 0) := z2
              clear z0 z1 z2 z3
              go_quiet (fail)
              go_wp2
              go_roundw
              case rel => exact ⟨m + 1, by omega, by omega, by go_num, ⟨(HM7.out.below (below_al (Below.refl _ _) _)).below (blw_drewN nq (Below.refl _ _)), want_block HW7.out (Below.heap_alloc _ _ _ hl7)⟩⟩
              case measure => simp [intOf]; omega
            · obtain ⟨q, hq⟩ : ∃ q, Ws5.getD m Pg.zero = q := ⟨_, rfl⟩
              rw [hq] at h1 hv
              have HR : Veil (∀ A, MyP w d kb sb (· = B) D5 A → Calls Try.prog 27 #[.pointer (some ⟨d, 0, none⟩), .int .u32 m] A fun e w' => e = .returned (.tuple #[q.v, .int .i64 0]) ∧ MyP w d kb sb (· = B) D5 w' ∧ Below A.heap.size A w') := ⟨fun A h => by have := pread_p h m (by omega); rwa [hv] at this⟩
              clear hv
              obtain ⟨qk, qi, qt, qb⟩ := q
              have hqt : ((qt : Int) == 0) = false := by have h1 : 1 ≤ qt := h1; simp; omega
              have hqt2 : ((qt : Int) != 0) = true := by have h1 : 1 ≤ qt := h1; simp; omega
              clear h1
              unfold Pg.v at HR
              dsimp only at HR
              go_wp2_with (go_at_call 27; refine (HR.out _ hMW.out.1).mono ?_; rintro e w7 ⟨rfl, hM7, hb7⟩; have HM7 : Veil _ := ⟨hM7⟩; have HW7 : Veil _ := ⟨want_block hMW.out.2 (hb7.block B (want_lt hMW.out.2))⟩; have hl7 : B < w7.heap.size := want_lt HW7.out; obtain ⟨z0, z1, z2, z3⟩ := want_cells HW7.out m hml; rw [hq] at z0 z1 z2 z3; dsimp only at z0 z1 z2 z3; clear hM7 hb7)
              clear hq
              go_quiet (fail)
              go_wp2
              go_roundw
              case rel => exact ⟨m + 1, by omega, by omega, by go_num, ⟨(HM7.out.below (below_al (Below.refl _ _) _)).below (blw_drewN nq (Below.refl _ _)), want_block HW7.out (Below.heap_alloc _ _ _ hl7)⟩⟩
              case measure => simp [intOf]; omega
          · obtain rfl : m = 10 := by omega
            go_wp2
            go_roundw
            case rel => exact ⟨k + 1, by omega, by omega, by go_num, ⟨D5, Ws5, hMW.out.1, HK5.out, HF5.out.1, HF5.out.2, hMW.out.2⟩⟩
            case measure => simp [intOf]; omega
    have hend : (¬ k < l.length) ∨ (k < l.length ∧ ¬ k < 20) := by omega
    clear hin
    rcases hend with h1 | ⟨h1, h2⟩
    all_goals
      obtain ⟨D, Ws, hM, -⟩ := hI.out
      go_wp2
      go_ret
      exact ⟨rfl, hM.in⟩
end Go.Proofs.Ytghpcjkjhbafnaa
