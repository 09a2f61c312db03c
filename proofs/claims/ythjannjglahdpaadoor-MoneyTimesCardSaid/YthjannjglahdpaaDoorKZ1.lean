/- Money: the program's sentinels, its Right, an error's number, what its checks tell, one by one. -/
import Derived.Test.YthjannjglahdpaaDoorKC2
import Derived.Test.YthjannjglahdpaaDoorKZ0
namespace Go.Proofs.YthjannjglahdpaaDoor
open Go Go.RowKit Sm
attribute [local go_sem] Oper.semAt_some

/-- The three sentinels of money: M 0 an amount is none, M 1 it is more than one, M 2 there is less. -/
structure MSen (w : World) (M : Nat → Addr) : Prop where
  am : Sen w 2 (M 0)
  mo : Sen w 0 (M 1)
  le : Sen w 1 (M 2)
  n01 : M 0 ≠ M 1
  n02 : M 0 ≠ M 2
  n12 : M 1 ≠ M 2
theorem MSen.below {w w' : World} {M : Nat → Addr} (h : MSen w M) (hb : Below w.heap.size w w') : MSen w' M :=
  ⟨h.am.below (Nat.le_refl _) hb, h.mo.below (Nat.le_refl _) hb, h.le.below (Nat.le_refl _) hb, h.n01, h.n02, h.n12⟩
def MSent (w : World) : Prop := ∃ M, MSen w M
theorem MSent.below {w w' : World} (h : MSent w) (hb : Below w.heap.size w w') : MSent w' := h.elim fun M hM => ⟨M, hM.below hb⟩

theorem moright_of (n : Int) (w : World) : Calls Tryd.prog 19 #[.int .i64 n] w fun e w' => e = .returned (.bool (amt n)) ∧ Below w.heap.size w w' := by
  have HR : Veil _ := ⟨amt_iff n⟩
  obtain ⟨r, hr⟩ : ∃ r, amt n = r := ⟨_, rfl⟩
  rw [hr] at HR ⊢
  clear hr
  go_enter Tryd.func19, Tryd.ntmps19
  go_wp2
  all_goals
    go_ret
    refine ⟨?_, Below.refl _ _⟩
    refine (show Ending.returned (Value.bool _) = Ending.returned (Value.bool _) from congrArg (fun x => Ending.returned (Value.bool x)) ?_)
    have hr := HR.out
    cases r <;> simp at hr ⊢ <;> omega
theorem moright_any (n : Int) (_ : I64 n) (w : World) : Calls Tryd.prog 19 #[.int .i64 n] w fun e w' => e = .returned (.bool (amt n)) ∧ Below w.heap.size w w' := moright_of n w

/-- An error's number. -/
theorem monum_0 (a0 a1 a2 : Addr) (c0 c1 c2 : Array Value) (t0 t1 t2 : TypeId) (w : World) (g0 : w.cell? ⟨2, 0, none⟩ = some (.iface 75 (.pointer (some a0)))) (g1 : w.cell? ⟨0, 0, none⟩ = some (.iface 75 (.pointer (some a1)))) (g2 : w.cell? ⟨1, 0, none⟩ = some (.iface 75 (.pointer (some a2))))
    (_ : Veil (w.heap[a0.block]? = some (.cells c0 t0 (0, 0)) ∧ w.heap[a1.block]? = some (.cells c1 t1 (0, 0)) ∧ w.heap[a2.block]? = some (.cells c2 t2 (0, 0)))) (_ : Veil (a0 ≠ a1 ∧ a0 ≠ a2 ∧ a1 ≠ a2)) :
    Calls Tryd.prog 36 #[.iface 75 (.pointer (some a0))] w fun e w' => e = .returned (.int .i64 110) ∧ w' = w := by
  have HI : Veil _ := ⟨is_same a0 w⟩
  go_enter Tryd.func36, Tryd.ntmps36
  go_wp2_with (first
    | (go_at_call 39; with_reducible refine HI.out.mono ?_; rintro e w' ⟨rfl, rfl⟩))
  go_ret
  exact ⟨rfl, rfl⟩
theorem monum_1 (a0 a1 a2 : Addr) (c0 c1 c2 : Array Value) (t0 t1 t2 : TypeId) (w : World) (g0 : w.cell? ⟨2, 0, none⟩ = some (.iface 75 (.pointer (some a0)))) (g1 : w.cell? ⟨0, 0, none⟩ = some (.iface 75 (.pointer (some a1)))) (g2 : w.cell? ⟨1, 0, none⟩ = some (.iface 75 (.pointer (some a2))))
    (HQ : Veil (w.heap[a0.block]? = some (.cells c0 t0 (0, 0)) ∧ w.heap[a1.block]? = some (.cells c1 t1 (0, 0)) ∧ w.heap[a2.block]? = some (.cells c2 t2 (0, 0)))) (HN : Veil (a0 ≠ a1 ∧ a0 ≠ a2 ∧ a1 ≠ a2)) :
    Calls Tryd.prog 36 #[.iface 75 (.pointer (some a1))] w fun e w' => e = .returned (.int .i64 111) ∧ w' = w := by
  have HI : Veil _ := ⟨is_same a1 w⟩
  have HO0 : Veil _ := ⟨is_other a1 a0 _ _ _ _ w HN.out.1.symm HQ.out.2.1 HQ.out.1⟩
  clear HQ HN
  go_enter Tryd.func36, Tryd.ntmps36
  go_wp2_with (first
    | (go_at_call 39; with_reducible refine HI.out.mono ?_; rintro e w' ⟨rfl, rfl⟩)
    | (go_at_call 39; with_reducible refine HO0.out.mono ?_; rintro e w' ⟨rfl, rfl⟩))
  go_ret
  exact ⟨rfl, rfl⟩
theorem monum_2 (a0 a1 a2 : Addr) (c0 c1 c2 : Array Value) (t0 t1 t2 : TypeId) (w : World) (g0 : w.cell? ⟨2, 0, none⟩ = some (.iface 75 (.pointer (some a0)))) (g1 : w.cell? ⟨0, 0, none⟩ = some (.iface 75 (.pointer (some a1)))) (g2 : w.cell? ⟨1, 0, none⟩ = some (.iface 75 (.pointer (some a2))))
    (HQ : Veil (w.heap[a0.block]? = some (.cells c0 t0 (0, 0)) ∧ w.heap[a1.block]? = some (.cells c1 t1 (0, 0)) ∧ w.heap[a2.block]? = some (.cells c2 t2 (0, 0)))) (HN : Veil (a0 ≠ a1 ∧ a0 ≠ a2 ∧ a1 ≠ a2)) :
    Calls Tryd.prog 36 #[.iface 75 (.pointer (some a2))] w fun e w' => e = .returned (.int .i64 112) ∧ w' = w := by
  have HI : Veil _ := ⟨is_same a2 w⟩
  have HO0 : Veil _ := ⟨is_other a2 a0 _ _ _ _ w HN.out.2.1.symm HQ.out.2.2 HQ.out.1⟩
  have HO1 : Veil _ := ⟨is_other a2 a1 _ _ _ _ w HN.out.2.2.symm HQ.out.2.2 HQ.out.2.1⟩
  clear HQ HN
  go_enter Tryd.func36, Tryd.ntmps36
  go_wp2_with (first
    | (go_at_call 39; with_reducible refine HI.out.mono ?_; rintro e w' ⟨rfl, rfl⟩)
    | (go_at_call 39; with_reducible refine HO0.out.mono ?_; rintro e w' ⟨rfl, rfl⟩)
    | (go_at_call 39; with_reducible refine HO1.out.mono ?_; rintro e w' ⟨rfl, rfl⟩))
  go_ret
  exact ⟨rfl, rfl⟩
theorem monumber_any (M : Nat → Addr) (k : Nat) (hk : k < 3) (w : World) (hS : MSen w M) : Calls Tryd.prog 36 #[.iface 75 (.pointer (some (M k)))] w fun e w' => e = .returned (.int .i64 (110 + k)) ∧ Below w.heap.size w w' := by
  obtain ⟨c0, t0, r0⟩ := hS.am.row
  obtain ⟨c1, t1, r1⟩ := hS.mo.row
  obtain ⟨c2, t2, r2⟩ := hS.le.row
  match k, hk with
  | 0, _ => exact (monum_0 _ _ _ _ _ _ _ _ _ w hS.am.cell hS.mo.cell hS.le.cell ⟨⟨r0, r1, r2⟩⟩ ⟨⟨hS.n01, hS.n02, hS.n12⟩⟩).mono fun e w' h => ⟨h.1, by rw [h.2]; exact Below.refl _ _⟩
  | 1, _ => exact (monum_1 _ _ _ _ _ _ _ _ _ w hS.am.cell hS.mo.cell hS.le.cell ⟨⟨r0, r1, r2⟩⟩ ⟨⟨hS.n01, hS.n02, hS.n12⟩⟩).mono fun e w' h => ⟨h.1, by rw [h.2]; exact Below.refl _ _⟩
  | 2, _ => exact (monum_2 _ _ _ _ _ _ _ _ _ w hS.am.cell hS.mo.cell hS.le.cell ⟨⟨r0, r1, r2⟩⟩ ⟨⟨hS.n01, hS.n02, hS.n12⟩⟩).mono fun e w' h => ⟨h.1, by rw [h.2]; exact Below.refl _ _⟩

/-- What a check tells: amounts all, or a number that is at most another one. -/
inductive Ck
  | am (l : List Int)
  | at (n most : Nat) (k : Nat)
def Ck.ok : Ck → Bool
  | .am l => l.all amt
  | .at n m _ => decide (n ≤ m)
def Ck.no : Ck → Nat
  | .am _ => 0
  | .at _ _ k => k
def firstC : List Ck → Int
  | [] => 0
  | c :: r => if c.ok then firstC r else 110 + c.no
def Ck.fine : Ck → Prop
  | .am l => l.length ≤ 1000
  | .at n m k => n < 18446744073709551616 ∧ m < 18446744073709551616 ∧ k < 3
def errW (M : Nat → Addr) (k : Nat) : Value := .iface 75 (.pointer (some (M k)))
/-- A check, as a value. -/
def CkAt (M : Nat → Addr) (w : World) (v : Value) : Ck → Prop
  | .am l => ∃ B p c, v = .func (.func 34) #[] #[.pointer (some ⟨B, 0, none⟩)] ∧ w.cell? ⟨B, 0, none⟩ = some (.slice p l.length c) ∧ Els elL w p l
  | .at n m k => ∃ B1 B2 B3, v = .func (.func 35) #[] #[.pointer (some ⟨B1, 0, none⟩), .pointer (some ⟨B2, 0, none⟩), .pointer (some ⟨B3, 0, none⟩)] ∧
    w.cell? ⟨B1, 0, none⟩ = some (.int .u64 n) ∧ w.cell? ⟨B2, 0, none⟩ = some (.int .u64 m) ∧ w.cell? ⟨B3, 0, none⟩ = some (errW M k)
theorem cell_below {w w' : World} {a : Addr} {v : Value} (h : w.cell? a = some v) (hb : Below w.heap.size w w') : w'.cell? a = some v := (hb.cell (World.block_lt_of_cell? _ _ h)).trans h
theorem CkAt.below {M : Nat → Addr} {w w' : World} {v : Value} : ∀ {k : Ck}, CkAt M w v k → Below w.heap.size w w' → CkAt M w' v k
  | .am _, ⟨B, p, c, h1, h2, h3⟩, hb => ⟨B, p, c, h1, cell_below h2 hb, h3.below hb⟩
  | .at _ _ _, ⟨B1, B2, B3, h1, h2, h3, h4⟩, hb => ⟨B1, B2, B3, h1, cell_below h2 hb, cell_below h3 hb, cell_below h4 hb⟩
def CksAt (M : Nat → Addr) (w : World) (p : Option Addr) (L : List Ck) : Prop := ∃ b o, p = some ⟨b, o, none⟩ ∧ ∀ k (h : k < L.length), ∃ v, w.cell? ⟨b, o + k, none⟩ = some v ∧ CkAt M w v L[k]
theorem CksAt.below {M : Nat → Addr} {w w' : World} {p : Option Addr} {L : List Ck} (h : CksAt M w p L) (hb : Below w.heap.size w w') : CksAt M w' p L := by
  obtain ⟨b, o, hp, h⟩ := h
  refine ⟨b, o, hp, fun k hk => ?_⟩
  obtain ⟨v, h1, h2⟩ := h k hk
  exact ⟨v, cell_below h1 hb, h2.below hb⟩

set_option maxRecDepth 20000 in
theorem moam_any {M : Nat → Addr} {w : World} {B : Nat} {p : Option Addr} {c : Nat} (l : List Int) (hl : l.length ≤ 1000) (hS : MSen w M) (hB : w.cell? ⟨B, 0, none⟩ = some (.slice p l.length c)) (hE : Els elL w p l) :
    Calls Tryd.prog 34 #[.pointer (some ⟨B, 0, none⟩)] w fun e w' => e = .returned (if l.all amt then .nilIface else errW M 0) ∧ Below w.heap.size w w' := by
  obtain ⟨r, hr⟩ : ∃ r, l.all amt = r := ⟨_, rfl⟩
  have HR : Veil _ := ⟨hr⟩
  rw [hr]
  clear hr
  have HH : Veil _ := ⟨hE⟩
  have HS : Veil _ := ⟨hS⟩
  clear hE hS
  unfold errW
  go_enter Tryd.func34, Tryd.ntmps34
  go_wp2
  go_loopw [6] (fun i wr => ∃ k : Nat, k ≤ l.length ∧ i = .int .i64 k ∧ Veil ((l.take k).all amt = true ∧ Below w.heap.size w wr)) (fun i _ => l.length - (intOf i).toNat)
  case atStart => exact ⟨0, Nat.zero_le _, rfl, ⟨rfl, Below.refl _ _⟩⟩
  case round =>
    obtain ⟨k, hk, rfl, hJ⟩ := hrel
    obtain ⟨hA, hBl⟩ := hJ.out
    have HB : Veil _ := ⟨hBl⟩
    have HA : Veil _ := ⟨hA⟩
    clear hA hBl hJ
    by_cases hlt : k < l.length
    · obtain ⟨b, o, rfl, hc⟩ := els_load (HH.out.below HB.out) hlt
      have HT2 : Veil _ := ⟨allA_take l k hlt⟩
      have HT3 : Veil _ := ⟨allA_out l k hlt⟩
      revert hc HT2 HT3
      generalize l.getD k 0 = x
      intro hc HT2 HT3
      have HC : Veil _ := ⟨fun w => moright_of x w⟩
      by_cases hx : amt x = true
      · rw [hx] at HC
        have HX : Veil _ := ⟨hx⟩
        clear hx
        go_wp2_with (go_at_call 19; refine (HC.out _).mono ?_; rintro e w2 ⟨rfl, hb2⟩)
        refine ⟨⟨k + 1, by omega, by go_num, ⟨?_, ?_⟩⟩, ?_⟩
        · rw [HT2.out, HA.out, HX.out]; rfl
        · exact bc_then HB.out hb2
        · simp only [intOf]; omega
      · have hxf : amt x = false := by simpa using hx
        rw [hxf] at HC
        have hr : r = false := HR.out.symm.trans (HT3.out hxf)
        subst hr
        clear hx hxf
        go_wp2_with (go_at_call 19; refine (HC.out _).mono ?_; rintro e w2 ⟨rfl, hb2⟩; have g0 := (HS.out.below (bc_then HB.out hb2)).am.cell)
        go_ret
        exact ⟨rfl, bc_then HB.out hb2⟩
    · obtain rfl : k = l.length := by omega
      have hr : r = true := by rw [List.take_of_length_le (Nat.le_refl _)] at HA; exact HR.out.symm.trans HA.out
      subst hr
      go_wp2
      go_ret
      exact ⟨rfl, HB.out⟩
theorem moat_any {M : Nat → Addr} {w : World} {B1 B2 B3 n m k : Nat} (h1 : w.cell? ⟨B1, 0, none⟩ = some (.int .u64 n)) (h2 : w.cell? ⟨B2, 0, none⟩ = some (.int .u64 m)) (h3 : w.cell? ⟨B3, 0, none⟩ = some (errW M k)) :
    Calls Tryd.prog 35 #[.pointer (some ⟨B1, 0, none⟩), .pointer (some ⟨B2, 0, none⟩), .pointer (some ⟨B3, 0, none⟩)] w fun e w' => e = .returned (if n ≤ m then .nilIface else errW M k) ∧ Below w.heap.size w w' := by
  generalize errW M k = E at *
  by_cases hle : n ≤ m
  · rw [if_pos hle]
    go_enter Tryd.func35, Tryd.ntmps35
    go_wp2
    go_ret
    exact ⟨rfl, Below.refl _ _⟩
  · rw [if_neg hle]
    go_enter Tryd.func35, Tryd.ntmps35
    go_wp2
    go_ret
    exact ⟨rfl, Below.refl _ _⟩
/-- What makes the checks. -/
theorem moamounts_any {M : Nat → Addr} {w : World} {p : Option Addr} {c : Nat} (l : List Int) (hE : Els elL w p l) :
    Calls Tryd.prog 27 #[.slice p l.length c] w fun e w' => ∃ v, e = .returned v ∧ CkAt M w' v (.am l) ∧ Below w.heap.size w w' := by
  have HH : Veil _ := ⟨hE⟩
  clear hE
  go_enter Tryd.func27, Tryd.ntmps27
  go_wp2
  go_ret
  exact ⟨_, rfl, ⟨w.heap.size, p, c, rfl, by simp, HH.out.below (below_al (Below.refl _ _) _)⟩, below_al (Below.refl _ _) _⟩
theorem moatmost_any {M : Nat → Addr} (n m k : Nat) (w : World) :
    Calls Tryd.prog 28 #[.int .u64 n, .int .u64 m, errW M k] w fun e w' => ∃ v, e = .returned v ∧ CkAt M w' v (.at n m k) ∧ Below w.heap.size w w' := by
  obtain ⟨a, ha⟩ : ∃ a, M k = a := ⟨_, rfl⟩
  have HE : Veil _ := ⟨ha⟩
  unfold errW
  rw [ha]
  clear ha
  go_enter Tryd.func28, Tryd.ntmps28
  go_wp2
  go_ret
  refine ⟨_, rfl, ⟨w.heap.size, w.heap.size + 1, w.heap.size + 1 + 1, rfl, by go_simp, by go_simp, by unfold errW; rw [HE.out]; go_simp⟩, below_al (below_al (below_al (Below.refl _ _) _) _) _⟩
end Go.Proofs.YthjannjglahdpaaDoor

/- Money: the first check that finds something wrong; a number that passes all checks. -/
namespace Go.Proofs.YthjannjglahdpaaDoor
open Go Go.RowKit Sm
attribute [local go_sem] Oper.semAt_some

theorem firstC_take : ∀ (L : List Ck) (k : Nat), (L.take k).all Ck.ok = true → firstC L = firstC (L.drop k)
  | _, 0, _ => rfl
  | [], _ + 1, _ => rfl
  | c :: r, k + 1, h => by
    rw [List.take_succ_cons, List.all_cons, Bool.and_eq_true] at h
    rw [List.drop_succ_cons, firstC, if_pos h.1]
    exact firstC_take r k h.2
theorem firstC_bad (L : List Ck) (k : Nat) (hk : k < L.length) (h : (L.take k).all Ck.ok = true) (hb : L[k].ok = false) : firstC L = 110 + L[k].no := by
  rw [firstC_take L k h, List.drop_eq_getElem_cons hk, firstC, if_neg (by rw [hb]; decide)]
theorem firstC_end (L : List Ck) (h : L.all Ck.ok = true) : firstC L = 0 := by
  rw [firstC_take L L.length (by rw [List.take_length]; exact h), List.drop_length]; rfl
theorem allC_take (L : List Ck) (k : Nat) (hk : k < L.length) : (L.take (k + 1)).all Ck.ok = ((L.take k).all Ck.ok && L[k].ok) := by
  rw [List.take_succ_eq_append_getElem hk, List.all_append]
  simp

set_option maxRecDepth 20000 in
theorem mofirst_any {M : Nat → Addr} {w : World} {p : Option Addr} {c : Nat} (L : List Ck) (hl : L.length ≤ 1000) (hF : ∀ k ∈ L, k.fine) (hS : MSen w M) (hE : CksAt M w p L) :
    Calls Tryd.prog 30 #[.slice p L.length c] w fun e w' => e = .returned (.int .i64 (firstC L)) ∧ Below w.heap.size w w' := by
  obtain ⟨r, hr⟩ : ∃ r, firstC L = r := ⟨_, rfl⟩
  have HR : Veil _ := ⟨hr⟩
  rw [hr]
  clear hr
  have HH : Veil _ := ⟨hE⟩
  have HS : Veil _ := ⟨hS⟩
  have HF : Veil _ := ⟨hF⟩
  clear hE hS hF
  go_enter Tryd.func30, Tryd.ntmps30
  go_wp2
  go_loopw [8] (fun i wr => ∃ k : Nat, k ≤ L.length ∧ i = .int .i64 k ∧ Veil ((L.take k).all Ck.ok = true ∧ Below w.heap.size w wr)) (fun i _ => L.length - (intOf i).toNat)
  case atStart => exact ⟨0, Nat.zero_le _, rfl, ⟨rfl, Below.refl _ _⟩⟩
  case round =>
    obtain ⟨k, hk, rfl, hJ⟩ := hrel
    obtain ⟨hA, hBl⟩ := hJ.out
    have HB : Veil _ := ⟨hBl⟩
    have HA : Veil _ := ⟨hA⟩
    clear hA hBl hJ
    by_cases hlt : k < L.length
    · obtain ⟨b, o, rfl, hc⟩ := HH.out.below HB.out
      obtain ⟨v, hv, hC⟩ := hc k hlt
      have hf := HF.out _ (List.getElem_mem hlt)
      have HT : Veil _ := ⟨allC_take L k hlt⟩
      have HT3 : Veil _ := ⟨firstC_bad L k hlt HA.out⟩
      clear hc
      revert hC hf HT HT3
      generalize L[k] = q
      intro hC hf HT HT3
      have HN : Veil (∀ j w', j < 3 → Below w.heap.size w w' → Calls Tryd.prog 36 #[errW M j] w' fun e w2 => e = .returned (.int .i64 (110 + j)) ∧ Below w'.heap.size w' w2) := ⟨fun j w' hj hb => monumber_any M j hj w' (HS.out.below hb)⟩
      cases q with
      | am l =>
        obtain ⟨B, p', c', rfl, hB, hE⟩ := hC
        have HQ : Veil _ := ⟨moam_any l hf (HS.out.below HB.out) hB hE⟩
        clear hB hE hf
        by_cases hx : l.all amt = true
        · rw [if_pos hx] at HQ
          have HX : Veil (Ck.ok (.am l) = true) := ⟨hx⟩
          clear hx
          go_wp2_with (go_at_call 34; refine HQ.out.mono ?_; rintro e w2 ⟨rfl, hb2⟩)
          refine ⟨⟨k + 1, by omega, by go_num, ⟨?_, ?_⟩⟩, ?_⟩
          · rw [HT.out, HA.out, HX.out]; rfl
          · exact bc_then HB.out hb2
          · simp only [intOf]; omega
        · rw [if_neg hx] at HQ
          have hr : r = 110 + ((0 : Nat) : Int) := HR.out.symm.trans (HT3.out (by simpa [Ck.ok] using hx))
          have HN0 : Veil _ := ⟨fun w' hb => HN.out 0 w' (by decide) hb⟩
          rw [← hr] at HN0
          clear hx hr
          unfold errW at HQ HN0
          go_wp2_with (first
            | (go_at_call 36; refine (HN0.out _ (bc_then HB.out hb2)).mono ?_; rintro e w3 ⟨rfl, hb3⟩)
            | (go_at_call 34; refine HQ.out.mono ?_; rintro e w2 ⟨rfl, hb2⟩))
          go_ret
          exact ⟨rfl, bc_then (bc_then HB.out hb2) hb3⟩
      | «at» n m j =>
        obtain ⟨B1, B2, B3, rfl, hB1, hB2, hB3⟩ := hC
        have HQ : Veil _ := ⟨moat_any hB1 hB2 hB3⟩
        have hj : j < 3 := hf.2.2
        clear hB1 hB2 hB3 hf
        by_cases hx : n ≤ m
        · rw [if_pos hx] at HQ
          have HX : Veil (Ck.ok (.at n m j) = true) := ⟨decide_eq_true hx⟩
          clear hx
          go_wp2_with (go_at_call 35; refine HQ.out.mono ?_; rintro e w2 ⟨rfl, hb2⟩)
          refine ⟨⟨k + 1, by omega, by go_num, ⟨?_, ?_⟩⟩, ?_⟩
          · rw [HT.out, HA.out, HX.out]; rfl
          · exact bc_then HB.out hb2
          · simp only [intOf]; omega
        · rw [if_neg hx] at HQ
          have hr : r = 110 + (j : Int) := HR.out.symm.trans (HT3.out (by simpa [Ck.ok] using hx))
          have HN0 : Veil _ := ⟨fun w' hb => HN.out j w' hj hb⟩
          rw [← hr] at HN0
          clear hx hr hj
          unfold errW at HQ HN0
          go_wp2_with (first
            | (go_at_call 36; refine (HN0.out _ (bc_then HB.out hb2)).mono ?_; rintro e w3 ⟨rfl, hb3⟩)
            | (go_at_call 35; refine HQ.out.mono ?_; rintro e w2 ⟨rfl, hb2⟩))
          go_ret
          exact ⟨rfl, bc_then (bc_then HB.out hb2) hb3⟩
    · obtain rfl : k = L.length := by omega
      have hr : r = 0 := by rw [List.take_of_length_le (Nat.le_refl _)] at HA; exact HR.out.symm.trans (firstC_end L HA.out)
      subst hr
      go_wp2
      go_ret
      exact ⟨rfl, HB.out⟩

theorem mochecked_any {M : Nat → Addr} {w : World} {p : Option Addr} {c : Nat} (n : Int) (L : List Ck) (hl : L.length ≤ 1000) (hF : ∀ k ∈ L, k.fine) (hS : MSen w M) (hE : CksAt M w p L) :
    Calls Tryd.prog 26 #[.int .i64 n, .slice p L.length c] w fun e w' => e = .returned (.tuple #[.int .i64 (if firstC L = 0 then n else 0), .int .i64 (firstC L)]) ∧ Below w.heap.size w w' := by
  have HC : Veil _ := ⟨mofirst_any (c := c) L hl hF hS hE⟩
  revert HC
  generalize firstC L = r
  intro HC
  clear hE hS hF
  by_cases hr : r = 0
  · subst hr
    rw [if_pos rfl]
    go_enter Tryd.func26, Tryd.ntmps26
    go_wp2_with (go_at_call 30; refine HC.out.mono ?_; rintro e w2 ⟨rfl, hb2⟩)
    go_ret2
    exact ⟨rfl, hb2⟩
  · rw [if_neg hr]
    go_enter Tryd.func26, Tryd.ntmps26
    go_wp2_with (go_at_call 30; refine HC.out.mono ?_; rintro e w2 ⟨rfl, hb2⟩)
    go_ret2
    exact ⟨rfl, hb2⟩
end Go.Proofs.YthjannjglahdpaaDoor
