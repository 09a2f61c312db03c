/- Money: the program's sentinels, its Right, an error's number, what its checks tell, one by one. -/
import Derived.Test.YtckkiilbabbeaaaDoorKC2
import Derived.Test.YtckkiilbabbeaaaDoorKZ0
import Derived.Test.YtckkiilbabbeaaaDoorKS6
namespace Go.Proofs.YtckkiilbabbeaaaDoor
open Go Go.RowKit Sm
attribute [local go_sem] Oper.semAt_some

/-- The three sentinels of money: M 0 an amount is none, M 1 it is more than one, M 2 there is less. -/
structure MSen (w : World) (M : Nat → Addr) : Prop where
  am : Sen w 0 (M 0)
  mo : Sen w 1 (M 1)
  le : Sen w 2 (M 2)
  n01 : M 0 ≠ M 1
  n02 : M 0 ≠ M 2
  n12 : M 1 ≠ M 2
theorem MSen.below {w w' : World} {M : Nat → Addr} (h : MSen w M) (hb : Below w.heap.size w w') : MSen w' M :=
  ⟨h.am.below (Nat.le_refl _) hb, h.mo.below (Nat.le_refl _) hb, h.le.below (Nat.le_refl _) hb, h.n01, h.n02, h.n12⟩
def MSent (w : World) : Prop := ∃ M, MSen w M
theorem MSent.below {w w' : World} (h : MSent w) (hb : Below w.heap.size w w') : MSent w' := h.elim fun M hM => ⟨M, hM.below hb⟩

theorem moright_of (n : Int) (w : World) : Calls Tryd.prog 32 #[.int .i64 n] w fun e w' => e = .returned (.bool (amt n)) ∧ Below w.heap.size w w' := by
  have HR : Veil _ := ⟨amt_iff n⟩
  obtain ⟨r, hr⟩ : ∃ r, amt n = r := ⟨_, rfl⟩
  rw [hr] at HR ⊢
  clear hr
  go_enter Tryd.func32, Tryd.ntmps32
  go_wp2
  all_goals
    go_ret
    refine ⟨?_, Below.refl _ _⟩
    refine (show Ending.returned (Value.bool _) = Ending.returned (Value.bool _) from congrArg (fun x => Ending.returned (Value.bool x)) ?_)
    have hr := HR.out
    cases r <;> simp at hr ⊢ <;> omega
theorem moright_any (n : Int) (_ : I64 n) (w : World) : Calls Tryd.prog 32 #[.int .i64 n] w fun e w' => e = .returned (.bool (amt n)) ∧ Below w.heap.size w w' := moright_of n w

/-- An error's number. -/
theorem monum_0 (a0 a1 a2 : Addr) (c0 c1 c2 : Array Value) (t0 t1 t2 : TypeId) (w : World) (g0 : w.cell? ⟨0, 0, none⟩ = some (.iface 136 (.pointer (some a0)))) (g1 : w.cell? ⟨1, 0, none⟩ = some (.iface 136 (.pointer (some a1)))) (g2 : w.cell? ⟨2, 0, none⟩ = some (.iface 136 (.pointer (some a2))))
    (_ : Veil (w.heap[a0.block]? = some (.cells c0 t0 (0, 0)) ∧ w.heap[a1.block]? = some (.cells c1 t1 (0, 0)) ∧ w.heap[a2.block]? = some (.cells c2 t2 (0, 0)))) (_ : Veil (a0 ≠ a1 ∧ a0 ≠ a2 ∧ a1 ≠ a2)) :
    Calls Tryd.prog 59 #[.iface 136 (.pointer (some a0))] w fun e w' => e = .returned (.int .i64 110) ∧ w' = w := by
  have HI : Veil _ := ⟨is_same a0 w⟩
  go_enter Tryd.func59, Tryd.ntmps59
  go_wp2_with (first
    | (go_at_call 73; with_reducible refine HI.out.mono ?_; rintro e w' ⟨rfl, rfl⟩))
  go_ret
  exact ⟨rfl, rfl⟩
theorem monum_1 (a0 a1 a2 : Addr) (c0 c1 c2 : Array Value) (t0 t1 t2 : TypeId) (w : World) (g0 : w.cell? ⟨0, 0, none⟩ = some (.iface 136 (.pointer (some a0)))) (g1 : w.cell? ⟨1, 0, none⟩ = some (.iface 136 (.pointer (some a1)))) (g2 : w.cell? ⟨2, 0, none⟩ = some (.iface 136 (.pointer (some a2))))
    (HQ : Veil (w.heap[a0.block]? = some (.cells c0 t0 (0, 0)) ∧ w.heap[a1.block]? = some (.cells c1 t1 (0, 0)) ∧ w.heap[a2.block]? = some (.cells c2 t2 (0, 0)))) (HN : Veil (a0 ≠ a1 ∧ a0 ≠ a2 ∧ a1 ≠ a2)) :
    Calls Tryd.prog 59 #[.iface 136 (.pointer (some a1))] w fun e w' => e = .returned (.int .i64 111) ∧ w' = w := by
  have HI : Veil _ := ⟨is_same a1 w⟩
  have HO0 : Veil _ := ⟨is_other a1 a0 _ _ _ _ w HN.out.1.symm HQ.out.2.1 HQ.out.1⟩
  clear HQ HN
  go_enter Tryd.func59, Tryd.ntmps59
  go_wp2_with (first
    | (go_at_call 73; with_reducible refine HI.out.mono ?_; rintro e w' ⟨rfl, rfl⟩)
    | (go_at_call 73; with_reducible refine HO0.out.mono ?_; rintro e w' ⟨rfl, rfl⟩))
  go_ret
  exact ⟨rfl, rfl⟩
theorem monum_2 (a0 a1 a2 : Addr) (c0 c1 c2 : Array Value) (t0 t1 t2 : TypeId) (w : World) (g0 : w.cell? ⟨0, 0, none⟩ = some (.iface 136 (.pointer (some a0)))) (g1 : w.cell? ⟨1, 0, none⟩ = some (.iface 136 (.pointer (some a1)))) (g2 : w.cell? ⟨2, 0, none⟩ = some (.iface 136 (.pointer (some a2))))
    (HQ : Veil (w.heap[a0.block]? = some (.cells c0 t0 (0, 0)) ∧ w.heap[a1.block]? = some (.cells c1 t1 (0, 0)) ∧ w.heap[a2.block]? = some (.cells c2 t2 (0, 0)))) (HN : Veil (a0 ≠ a1 ∧ a0 ≠ a2 ∧ a1 ≠ a2)) :
    Calls Tryd.prog 59 #[.iface 136 (.pointer (some a2))] w fun e w' => e = .returned (.int .i64 112) ∧ w' = w := by
  have HI : Veil _ := ⟨is_same a2 w⟩
  have HO0 : Veil _ := ⟨is_other a2 a0 _ _ _ _ w HN.out.2.1.symm HQ.out.2.2 HQ.out.1⟩
  have HO1 : Veil _ := ⟨is_other a2 a1 _ _ _ _ w HN.out.2.2.symm HQ.out.2.2 HQ.out.2.1⟩
  clear HQ HN
  go_enter Tryd.func59, Tryd.ntmps59
  go_wp2_with (first
    | (go_at_call 73; with_reducible refine HI.out.mono ?_; rintro e w' ⟨rfl, rfl⟩)
    | (go_at_call 73; with_reducible refine HO0.out.mono ?_; rintro e w' ⟨rfl, rfl⟩)
    | (go_at_call 73; with_reducible refine HO1.out.mono ?_; rintro e w' ⟨rfl, rfl⟩))
  go_ret
  exact ⟨rfl, rfl⟩
theorem monumber_any (M : Nat → Addr) (k : Nat) (hk : k < 3) (w : World) (hS : MSen w M) : Calls Tryd.prog 59 #[.iface 136 (.pointer (some (M k)))] w fun e w' => e = .returned (.int .i64 (110 + k)) ∧ Below w.heap.size w w' := by
  obtain ⟨c0, t0, r0⟩ := hS.am.row
  obtain ⟨c1, t1, r1⟩ := hS.mo.row
  obtain ⟨c2, t2, r2⟩ := hS.le.row
  match k, hk with
  | 0, _ => exact (monum_0 _ _ _ _ _ _ _ _ _ w hS.am.cell hS.mo.cell hS.le.cell ⟨⟨r0, r1, r2⟩⟩ ⟨⟨hS.n01, hS.n02, hS.n12⟩⟩).mono fun e w' h => ⟨h.1, by rw [h.2]; exact Below.refl _ _⟩
  | 1, _ => exact (monum_1 _ _ _ _ _ _ _ _ _ w hS.am.cell hS.mo.cell hS.le.cell ⟨⟨r0, r1, r2⟩⟩ ⟨⟨hS.n01, hS.n02, hS.n12⟩⟩).mono fun e w' h => ⟨h.1, by rw [h.2]; exact Below.refl _ _⟩
  | 2, _ => exact (monum_2 _ _ _ _ _ _ _ _ _ w hS.am.cell hS.mo.cell hS.le.cell ⟨⟨r0, r1, r2⟩⟩ ⟨⟨hS.n01, hS.n02, hS.n12⟩⟩).mono fun e w' h => ⟨h.1, by rw [h.2]; exact Below.refl _ _⟩

/-- What a check tells: amounts all, or a number that is at most another one. -/
inductive Ck
  | am (l : List Int)
  | at (n most : Nat) (k : Nat)
def Ck.ok : Ck → Bool
  | .am l => l.all amt
  | .at n m _ => decide (n ≤ m)
def Ck.no : Ck → Nat
  | .am _ => 0
  | .at _ _ k => k
def firstC : List Ck → Int
  | [] => 0
  | c :: r => if c.ok then firstC r else 110 + c.no
def Ck.fine : Ck → Prop
  | .am l => l.length ≤ 1000
  | .at n m k => n < 18446744073709551616 ∧ m < 18446744073709551616 ∧ k < 3
def errW (M : Nat → Addr) (k : Nat) : Value := .iface 136 (.pointer (some (M k)))
/-- A check, as a value. -/
def CkAt (M : Nat → Addr) (w : World) (v : Value) : Ck → Prop
  | .am l => ∃ B p c, v = .func (.func 60) #[] #[.pointer (some ⟨B, 0, none⟩)] ∧ w.cell? ⟨B, 0, none⟩ = some (.slice p l.length c) ∧ Els elL w p l
  | .at n m k => ∃ B1 B2 B3, v = .func (.func 92) #[] #[.pointer (some ⟨B1, 0, none⟩), .pointer (some ⟨B2, 0, none⟩), .pointer (some ⟨B3, 0, none⟩)] ∧
    w.cell? ⟨B1, 0, none⟩ = some (.int .u64 n) ∧ w.cell? ⟨B2, 0, none⟩ = some (.int .u64 m) ∧ w.cell? ⟨B3, 0, none⟩ = some (errW M k)
theorem cell_below {w w' : World} {a : Addr} {v : Value} (h : w.cell? a = some v) (hb : Below w.heap.size w w') : w'.cell? a = some v := (hb.cell (World.block_lt_of_cell? _ _ h)).trans h
theorem CkAt.below {M : Nat → Addr} {w w' : World} {v : Value} : ∀ {k : Ck}, CkAt M w v k → Below w.heap.size w w' → CkAt M w' v k
  | .am _, ⟨B, p, c, h1, h2, h3⟩, hb => ⟨B, p, c, h1, cell_below h2 hb, h3.below hb⟩
  | .at _ _ _, ⟨B1, B2, B3, h1, h2, h3, h4⟩, hb => ⟨B1, B2, B3, h1, cell_below h2 hb, cell_below h3 hb, cell_below h4 hb⟩
def CksAt (M : Nat → Addr) (w : World) (p : Option Addr) (L : List Ck) : Prop := ∃ b o, p = some ⟨b, o, none⟩ ∧ ∀ k (h : k < L.length), ∃ v, w.cell? ⟨b, o + k, none⟩ = some v ∧ CkAt M w v L[k]
theorem CksAt.below {M : Nat → Addr} {w w' : World} {p : Option Addr} {L : List Ck} (h : CksAt M w p L) (hb : Below w.heap.size w w') : CksAt M w' p L := by
  obtain ⟨b, o, hp, h⟩ := h
  refine ⟨b, o, hp, fun k hk => ?_⟩
  obtain ⟨v, h1, h2⟩ := h k hk
  exact ⟨v, cell_below h1 hb, h2.below hb⟩

set_option maxRecDepth 20000 in
theorem moam_any {M : Nat → Addr} {w : World} {B : Nat} {p : Option Addr} {c : Nat} (l : List Int) (hl : l.length ≤ 1000) (hS : MSen w M) (hB : w.cell? ⟨B, 0, none⟩ = some (.slice p l.length c)) (hE : Els elL w p l) :
    Calls Tryd.prog 60 #[.pointer (some ⟨B, 0, none⟩)] w fun e w' => e = .returned (if l.all amt then .nilIface else errW M 0) ∧ Below w.heap.size w w' := by
  obtain ⟨r, hr⟩ : ∃ r, l.all amt = r := ⟨_, rfl⟩
  have HR : Veil _ := ⟨hr⟩
  rw [hr]
  clear hr
  have HH : Veil _ := ⟨hE⟩
  have HS : Veil _ := ⟨hS⟩
  clear hE hS
  unfold errW
  go_enter Tryd.func60, Tryd.ntmps60
  go_wp2
  go_loopw [6] (fun i wr => ∃ k : Nat, k ≤ l.length ∧ i = .int .i64 k ∧ Veil ((l.take k).all amt = true ∧ Below w.heap.size w wr)) (fun i _ => l.length - (intOf i).toNat)
  case atStart => exact ⟨0, Nat.zero_le _, rfl, ⟨rfl, Below.refl _ _⟩⟩
  case round =>
    obtain ⟨k, hk, rfl, hJ⟩ := hrel
    obtain ⟨hA, hBl⟩ := hJ.out
    have HB : Veil _ := ⟨hBl⟩
    have HA : Veil _ := ⟨hA⟩
    clear hA hBl hJ
    by_cases hlt : k < l.length
    · obtain ⟨b, o, rfl, hc⟩ := els_load (HH.out.below HB.out) hlt
      have HT2 : Veil _ := ⟨allA_take l k hlt⟩
      have HT3 : Veil _ := ⟨allA_out l k hlt⟩
      revert hc HT2 HT3
      generalize l.getD k 0 = x
      intro hc HT2 HT3
      have HC : Veil _ := ⟨fun w => moright_of x w⟩
      by_cases hx : amt x = true
      · rw [hx] at HC
        have HX : Veil _ := ⟨hx⟩
        clear hx
        go_wp2_with (go_at_call 32; refine (HC.out _).mono ?_; rintro e w2 ⟨rfl, hb2⟩)
        refine ⟨⟨k + 1, by omega, by go_num, ⟨?_, ?_⟩⟩, ?_⟩
        · rw [HT2.out, HA.out, HX.out]; rfl
        · exact bc_then HB.out hb2
        · simp only [intOf]; omega
      · have hxf : amt x = false := by simpa using hx
        rw [hxf] at HC
        have hr : r = false := HR.out.symm.trans (HT3.out hxf)
        subst hr
        clear hx hxf
        go_wp2_with (go_at_call 32; refine (HC.out _).mono ?_; rintro e w2 ⟨rfl, hb2⟩; have g0 := (HS.out.below (bc_then HB.out hb2)).am.cell)
        go_ret
        exact ⟨rfl, bc_then HB.out hb2⟩
    · obtain rfl : k = l.length := by omega
      have hr : r = true := by rw [List.take_of_length_le (Nat.le_refl _)] at HA; exact HR.out.symm.trans HA.out
      subst hr
      go_wp2
      go_ret
      exact ⟨rfl, HB.out⟩
theorem moat_any {M : Nat → Addr} {w : World} {B1 B2 B3 n m k : Nat} (h1 : w.cell? ⟨B1, 0, none⟩ = some (.int .u64 n)) (h2 : w.cell? ⟨B2, 0, none⟩ = some (.int .u64 m)) (h3 : w.cell? ⟨B3, 0, none⟩ = some (errW M k)) :
    Calls Tryd.prog 92 #[.pointer (some ⟨B1, 0, none⟩), .pointer (some ⟨B2, 0, none⟩), .pointer (some ⟨B3, 0, none⟩)] w fun e w' => e = .returned (if n ≤ m then .nilIface else errW M k) ∧ Below w.heap.size w w' := by
  generalize errW M k = E at *
  by_cases hle : n ≤ m
  · rw [if_pos hle]
    go_enter Tryd.func92, Tryd.ntmps92
    go_wp2
    go_ret
    exact ⟨rfl, Below.refl _ _⟩
  · rw [if_neg hle]
    go_enter Tryd.func92, Tryd.ntmps92
    go_wp2
    go_ret
    exact ⟨rfl, Below.refl _ _⟩
/-- What makes the checks. -/
theorem moamounts_any {M : Nat → Addr} {w : World} {p : Option Addr} {c : Nat} (l : List Int) (hE : Els elL w p l) :
    Calls Tryd.prog 44 #[.slice p l.length c] w fun e w' => ∃ v, e = .returned v ∧ CkAt M w' v (.am l) ∧ Below w.heap.size w w' := by
  have HH : Veil _ := ⟨hE⟩
  clear hE
  go_enter Tryd.func44, Tryd.ntmps44
  go_wp2
  go_ret
  exact ⟨_, rfl, ⟨w.heap.size, p, c, rfl, by simp, HH.out.below (below_al (Below.refl _ _) _)⟩, below_al (Below.refl _ _) _⟩
theorem moatmost_any {M : Nat → Addr} (n m k : Nat) (w : World) :
    Calls Tryd.prog 83 #[.int .u64 n, .int .u64 m, errW M k] w fun e w' => ∃ v, e = .returned v ∧ CkAt M w' v (.at n m k) ∧ Below w.heap.size w w' := by
  obtain ⟨a, ha⟩ : ∃ a, M k = a := ⟨_, rfl⟩
  have HE : Veil _ := ⟨ha⟩
  unfold errW
  rw [ha]
  clear ha
  go_enter Tryd.func83, Tryd.ntmps83
  go_wp2
  go_ret
  refine ⟨_, rfl, ⟨w.heap.size, w.heap.size + 1, w.heap.size + 1 + 1, rfl, by go_simp, by go_simp, by unfold errW; rw [HE.out]; go_simp⟩, below_al (below_al (below_al (Below.refl _ _) _) _) _⟩
end Go.Proofs.YtckkiilbabbeaaaDoor

/- Money: the first check that finds something wrong; a number that passes all checks. -/
namespace Go.Proofs.YtckkiilbabbeaaaDoor
open Go Go.RowKit Sm
attribute [local go_sem] Oper.semAt_some

theorem firstC_take : ∀ (L : List Ck) (k : Nat), (L.take k).all Ck.ok = true → firstC L = firstC (L.drop k)
  | _, 0, _ => rfl
  | [], _ + 1, _ => rfl
  | c :: r, k + 1, h => by
    rw [List.take_succ_cons, List.all_cons, Bool.and_eq_true] at h
    rw [List.drop_succ_cons, firstC, if_pos h.1]
    exact firstC_take r k h.2
theorem firstC_bad (L : List Ck) (k : Nat) (hk : k < L.length) (h : (L.take k).all Ck.ok = true) (hb : L[k].ok = false) : firstC L = 110 + L[k].no := by
  rw [firstC_take L k h, List.drop_eq_getElem_cons hk, firstC, if_neg (by rw [hb]; decide)]
theorem firstC_end (L : List Ck) (h : L.all Ck.ok = true) : firstC L = 0 := by
  rw [firstC_take L L.length (by rw [List.take_length]; exact h), List.drop_length]; rfl
theorem allC_take (L : List Ck) (k : Nat) (hk : k < L.length) : (L.take (k + 1)).all Ck.ok = ((L.take k).all Ck.ok && L[k].ok) := by
  rw [List.take_succ_eq_append_getElem hk, List.all_append]
  simp

set_option maxRecDepth 20000 in
theorem mofirst_any {M : Nat → Addr} {w : World} {p : Option Addr} {c : Nat} (L : List Ck) (hl : L.length ≤ 1000) (hF : ∀ k ∈ L, k.fine) (hS : MSen w M) (hE : CksAt M w p L) :
    Calls Tryd.prog 43 #[.slice p L.length c] w fun e w' => e = .returned (.int .i64 (firstC L)) ∧ Below w.heap.size w w' := by
  obtain ⟨r, hr⟩ : ∃ r, firstC L = r := ⟨_, rfl⟩
  have HR : Veil _ := ⟨hr⟩
  rw [hr]
  clear hr
  have HH : Veil _ := ⟨hE⟩
  have HS : Veil _ := ⟨hS⟩
  have HF : Veil _ := ⟨hF⟩
  clear hE hS hF
  go_enter Tryd.func43, Tryd.ntmps43
  go_wp2
  go_loopw [8] (fun i wr => ∃ k : Nat, k ≤ L.length ∧ i = .int .i64 k ∧ Veil ((L.take k).all Ck.ok = true ∧ Below w.heap.size w wr)) (fun i _ => L.length - (intOf i).toNat)
  case atStart => exact ⟨0, Nat.zero_le _, rfl, ⟨rfl, Below.refl _ _⟩⟩
  case round =>
    obtain ⟨k, hk, rfl, hJ⟩ := hrel
    obtain ⟨hA, hBl⟩ := hJ.out
    have HB : Veil _ := ⟨hBl⟩
    have HA : Veil _ := ⟨hA⟩
    clear hA hBl hJ
    by_cases hlt : k < L.length
    · obtain ⟨b, o, rfl, hc⟩ := HH.out.below HB.out
      obtain ⟨v, hv, hC⟩ := hc k hlt
      have hf := HF.out _ (List.getElem_mem hlt)
      have HT : Veil _ := ⟨allC_take L k hlt⟩
      have HT3 : Veil _ := ⟨firstC_bad L k hlt HA.out⟩
      clear hc
      revert hC hf HT HT3
      generalize L[k] = q
      intro hC hf HT HT3
      have HN : Veil (∀ j w', j < 3 → Below w.heap.size w w' → Calls Tryd.prog 59 #[errW M j] w' fun e w2 => e = .returned (.int .i64 (110 + j)) ∧ Below w'.heap.size w' w2) := ⟨fun j w' hj hb => monumber_any M j hj w' (HS.out.below hb)⟩
      cases q with
      | am l =>
        obtain ⟨B, p', c', rfl, hB, hE⟩ := hC
        have HQ : Veil _ := ⟨moam_any l hf (HS.out.below HB.out) hB hE⟩
        clear hB hE hf
        by_cases hx : l.all amt = true
        · rw [if_pos hx] at HQ
          have HX : Veil (Ck.ok (.am l) = true) := ⟨hx⟩
          clear hx
          go_wp2_with (go_at_call 60; refine HQ.out.mono ?_; rintro e w2 ⟨rfl, hb2⟩)
          refine ⟨⟨k + 1, by omega, by go_num, ⟨?_, ?_⟩⟩, ?_⟩
          · rw [HT.out, HA.out, HX.out]; rfl
          · exact bc_then HB.out hb2
          · simp only [intOf]; omega
        · rw [if_neg hx] at HQ
          have hr : r = 110 + ((0 : Nat) : Int) := HR.out.symm.trans (HT3.out (by simpa [Ck.ok] using hx))
          have HN0 : Veil _ := ⟨fun w' hb => HN.out 0 w' (by decide) hb⟩
          rw [← hr] at HN0
          clear hx hr
          unfold errW at HQ HN0
          go_wp2_with (first
            | (go_at_call 59; refine (HN0.out _ (bc_then HB.out hb2)).mono ?_; rintro e w3 ⟨rfl, hb3⟩)
            | (go_at_call 60; refine HQ.out.mono ?_; rintro e w2 ⟨rfl, hb2⟩))
          go_ret
          exact ⟨rfl, bc_then (bc_then HB.out hb2) hb3⟩
      | «at» n m j =>
        obtain ⟨B1, B2, B3, rfl, hB1, hB2, hB3⟩ := hC
        have HQ : Veil _ := ⟨moat_any hB1 hB2 hB3⟩
        have hj : j < 3 := hf.2.2
        clear hB1 hB2 hB3 hf
        by_cases hx : n ≤ m
        · rw [if_pos hx] at HQ
          have HX : Veil (Ck.ok (.at n m j) = true) := ⟨decide_eq_true hx⟩
          clear hx
          go_wp2_with (go_at_call 92; refine HQ.out.mono ?_; rintro e w2 ⟨rfl, hb2⟩)
          refine ⟨⟨k + 1, by omega, by go_num, ⟨?_, ?_⟩⟩, ?_⟩
          · rw [HT.out, HA.out, HX.out]; rfl
          · exact bc_then HB.out hb2
          · simp only [intOf]; omega
        · rw [if_neg hx] at HQ
          have hr : r = 110 + (j : Int) := HR.out.symm.trans (HT3.out (by simpa [Ck.ok] using hx))
          have HN0 : Veil _ := ⟨fun w' hb => HN.out j w' hj hb⟩
          rw [← hr] at HN0
          clear hx hr hj
          unfold errW at HQ HN0
          go_wp2_with (first
            | (go_at_call 59; refine (HN0.out _ (bc_then HB.out hb2)).mono ?_; rintro e w3 ⟨rfl, hb3⟩)
            | (go_at_call 92; refine HQ.out.mono ?_; rintro e w2 ⟨rfl, hb2⟩))
          go_ret
          exact ⟨rfl, bc_then (bc_then HB.out hb2) hb3⟩
    · obtain rfl : k = L.length := by omega
      have hr : r = 0 := by rw [List.take_of_length_le (Nat.le_refl _)] at HA; exact HR.out.symm.trans (firstC_end L HA.out)
      subst hr
      go_wp2
      go_ret
      exact ⟨rfl, HB.out⟩

theorem mochecked_any {M : Nat → Addr} {w : World} {p : Option Addr} {c : Nat} (n : Int) (L : List Ck) (hl : L.length ≤ 1000) (hF : ∀ k ∈ L, k.fine) (hS : MSen w M) (hE : CksAt M w p L) :
    Calls Tryd.prog 82 #[.int .i64 n, .slice p L.length c] w fun e w' => e = .returned (.tuple #[.int .i64 (if firstC L = 0 then n else 0), .int .i64 (firstC L)]) ∧ Below w.heap.size w w' := by
  have HC : Veil _ := ⟨mofirst_any (c := c) L hl hF hS hE⟩
  revert HC
  generalize firstC L = r
  intro HC
  clear hE hS hF
  by_cases hr : r = 0
  · subst hr
    rw [if_pos rfl]
    go_enter Tryd.func82, Tryd.ntmps82
    go_wp2_with (go_at_call 43; refine HC.out.mono ?_; rintro e w2 ⟨rfl, hb2⟩)
    go_ret2
    exact ⟨rfl, hb2⟩
  · rw [if_neg hr]
    go_enter Tryd.func82, Tryd.ntmps82
    go_wp2_with (go_at_call 43; refine HC.out.mono ?_; rintro e w2 ⟨rfl, hb2⟩)
    go_ret2
    exact ⟨rfl, hb2⟩
end Go.Proofs.YtckkiilbabbeaaaDoor

/- Money: the program's Right, Add, Sub, Mul, Move. -/
namespace Go.Proofs.YtckkiilbabbeaaaDoor
open Go Go.RowKit Sm
attribute [local go_sem] Oper.semAt_some

theorem els_two (w : World) (a b : Int) (t : TypeId) : Els elL (w.alloc (.cells #[.int .i64 a, .int .i64 b] t)) (some ⟨w.heap.size, 0, none⟩) [a, b] := by
  intro _
  refine ⟨_, _, rfl, ?_⟩
  intro k j hk hj
  have hj0 : j = 0 := Nat.lt_one_iff.1 hj
  subst hj0
  simp only [List.length_cons, List.length_nil] at hk
  match k, hk with
  | 0, _ => show _ = some (Value.int .i64 a); rw [show elL.z = 1 from rfl]; go_simp
  | 1, _ => show _ = some (Value.int .i64 b); rw [show elL.z = 1 from rfl]; go_simp
theorem cks_two {M : Nat → Addr} {w : World} {v1 v2 : Value} {k1 k2 : Ck} {t : TypeId} (h1 : CkAt M w v1 k1) (h2 : CkAt M w v2 k2) : CksAt M (w.alloc (.cells #[v1, v2] t)) (some ⟨w.heap.size, 0, none⟩) [k1, k2] := by
  refine ⟨_, _, rfl, fun k hk => ?_⟩
  simp only [List.length_cons, List.length_nil] at hk
  match k, hk with
  | 0, _ => exact ⟨v1, by go_simp, h1.below (below_al (Below.refl _ _) _)⟩
  | 1, _ => exact ⟨v2, by go_simp, h2.below (below_al (Below.refl _ _) _)⟩
theorem cks_three {M : Nat → Addr} {w : World} {v1 v2 v3 : Value} {k1 k2 k3 : Ck} {t : TypeId} (h1 : CkAt M w v1 k1) (h2 : CkAt M w v2 k2) (h3 : CkAt M w v3 k3) : CksAt M (w.alloc (.cells #[v1, v2, v3] t)) (some ⟨w.heap.size, 0, none⟩) [k1, k2, k3] := by
  refine ⟨_, _, rfl, fun k hk => ?_⟩
  simp only [List.length_cons, List.length_nil] at hk
  match k, hk with
  | 0, _ => exact ⟨v1, by go_simp, h1.below (below_al (Below.refl _ _) _)⟩
  | 1, _ => exact ⟨v2, by go_simp, h2.below (below_al (Below.refl _ _) _)⟩
  | 2, _ => exact ⟨v3, by go_simp, h3.below (below_al (Below.refl _ _) _)⟩
theorem CkAt.func {M : Nat → Addr} {w : World} {v : Value} : ∀ {k : Ck}, CkAt M w v k → ∃ f b, v = .func (.func f) #[] b
  | .am _, ⟨_, _, _, h, _⟩ => ⟨_, _, h⟩
  | .at _ _ _, ⟨_, _, _, h, _⟩ => ⟨_, _, h⟩
theorem moatmost_int {M : Nat → Addr} (N m : Int) (k : Nat) (h0 : 0 ≤ N) (h1 : 0 ≤ m) (w : World) :
    Calls Tryd.prog 83 #[.int .u64 N, .int .u64 m, errW M k] w fun e w' => ∃ v, e = .returned v ∧ CkAt M w' v (.at N.toNat m.toNat k) ∧ Below w.heap.size w w' := by
  obtain ⟨n, rfl⟩ : ∃ n : Nat, N = n := ⟨N.toNat, by omega⟩
  obtain ⟨m, rfl⟩ : ∃ n : Nat, m = n := ⟨m.toNat, by omega⟩
  exact moatmost_any n m k w
theorem ok_am2 (a b : Int) (k : Nat) (n m : Nat) : firstC [.am [a, b], .at n m k] = if amt a && amt b then (if n ≤ m then 0 else 110 + (k : Int)) else 110 := by
  have e1 : (Ck.am [a, b]).ok = (amt a && amt b) := by simp only [Ck.ok, List.all_cons, List.all_nil, Bool.and_true]
  have e2 : (Ck.at n m k).ok = decide (n ≤ m) := rfl
  unfold firstC firstC firstC
  rw [e1, e2]
  by_cases h1 : (amt a && amt b) = true
  · rw [if_pos h1, if_pos h1]
    by_cases h2 : n ≤ m
    · rw [if_pos h2, if_pos (decide_eq_true h2)]
    · rw [if_neg h2, if_neg (by rw [decide_eq_true_iff]; exact h2)]; rfl
  · rw [if_neg h1, if_neg h1]; rfl
/-- What Add's checks come to. -/
theorem add_checks (a b : Int) (_ : I64 a) (_ : I64 b) : (if firstC [.am [a, b], .at (wrap64 (a + b) % 18446744073709551616).toNat 1152921504606846976 1] = 0 then wrap64 (a + b) else 0, firstC [.am [a, b], .at (wrap64 (a + b) % 18446744073709551616).toNat 1152921504606846976 1]) = addA a b := by
  rw [ok_am2]
  unfold addA
  by_cases h1 : (amt a && amt b) = true
  · rw [if_pos h1, if_pos h1]
    rw [Bool.and_eq_true, amt_iff, amt_iff] at h1
    have hw : wrap64 (a + b) = a + b := by unfold wrap64; omega
    rw [hw]
    by_cases h2 : amt (a + b) = true
    · rw [if_pos h2]
      rw [amt_iff] at h2
      rw [show (if ((a + b) % 18446744073709551616).toNat ≤ 1152921504606846976 then (0 : Int) else 110 + ((1 : Nat) : Int)) = 0 from if_pos (by omega), if_pos rfl]
    · rw [if_neg h2]
      rw [amt_iff] at h2
      rw [show (if ((a + b) % 18446744073709551616).toNat ≤ 1152921504606846976 then (0 : Int) else 110 + ((1 : Nat) : Int)) = 111 from if_neg (by omega), if_neg (by decide)]
  · rw [if_neg h1, if_neg h1, if_neg (by decide)]
theorem sub_checks (a b : Int) (_ : I64 a) (_ : I64 b) : (if firstC [.am [a, b], .at (b % 18446744073709551616).toNat (a % 18446744073709551616).toNat 2] = 0 then wrap64 (a - b) else 0, firstC [.am [a, b], .at (b % 18446744073709551616).toNat (a % 18446744073709551616).toNat 2]) = subA a b := by
  rw [ok_am2]
  unfold subA
  by_cases h1 : (amt a && amt b) = true
  · rw [if_pos h1, if_pos h1]
    rw [Bool.and_eq_true, amt_iff, amt_iff] at h1
    have hw : wrap64 (a - b) = a - b := by unfold wrap64; omega
    rw [hw]
    by_cases h2 : b ≤ a
    · rw [if_pos h2, show (if (b % 18446744073709551616).toNat ≤ (a % 18446744073709551616).toNat then (0 : Int) else 110 + ((2 : Nat) : Int)) = 0 from if_pos (by omega), if_pos rfl]
    · rw [if_neg h2, show (if (b % 18446744073709551616).toNat ≤ (a % 18446744073709551616).toNat then (0 : Int) else 110 + ((2 : Nat) : Int)) = 112 from if_neg (by omega), if_neg (by decide)]
  · rw [if_neg h1, if_neg h1, if_neg (by decide)]

set_option maxRecDepth 20000 in
set_option maxHeartbeats 1000000 in
theorem moadd_any (a b : Int) (ha : I64 a) (hb : I64 b) (w : World) (hS : MSent w) : Calls Tryd.prog 66 #[.int .i64 a, .int .i64 b] w fun e w' => e = .returned (.tuple #[.int .i64 (addA a b).1, .int .i64 (addA a b).2]) ∧ Below w.heap.size w w' := by
  obtain ⟨M, hM⟩ := hS
  have HM : Veil _ := ⟨hM⟩
  clear hM
  obtain ⟨S, hS⟩ : ∃ S, wrap64 (a + b) = S := ⟨_, rfl⟩
  have HE : Veil _ := ⟨add_checks a b ha hb⟩
  rw [hS] at HE
  have HW : Veil _ := ⟨hS⟩
  have HQ : Veil _ := ⟨fun (p : Option Addr) (w' : World) (hM : MSen w' M) (h : CksAt M w' p [.am [a, b], .at (S % 18446744073709551616).toNat 1152921504606846976 1]) => mochecked_any (c := 2) S [.am [a, b], .at (S % 18446744073709551616).toNat 1152921504606846976 1] (show (2 : Nat) ≤ 1000 by decide) (by intro k hk; simp only [List.mem_cons, List.not_mem_nil, or_false] at hk; rcases hk with rfl | rfl; exact (by decide : (2 : Nat) ≤ 1000); all_goals exact ⟨by omega, by omega, by decide⟩) hM h⟩
  revert HE; revert HQ
  generalize firstC [.am [a, b], .at (S % 18446744073709551616).toNat 1152921504606846976 1] = C
  generalize (if C = 0 then S else 0) = V
  generalize addA a b = r
  intro HQ HE
  obtain ⟨v, c⟩ := r
  clear ha hb hS
  go_enter Tryd.func66, Tryd.ntmps66
  go_wp2
  rw [HW.out]
  clear HW
  refine region_new [.is (.int .i64 S), .is (.int .i64 a), .is (.int .i64 b), .gen (fun v W => ∃ p : Option Addr, v = .slice p 2 2 ∧ Els elL W p [a, b]) (fun v W W' hb ⟨p, h, hz⟩ => ⟨p, h, hz.below hb⟩), .gen (fun v W => CkAt M W v (.am [a, b])) (fun v W W' hb h => CkAt.below h hb), .is (.int .i64 S), .is (.int .u64 (S % 18446744073709551616)), .is (errW M 1), .gen (fun v W => CkAt M W v (.at (S % 18446744073709551616).toNat 1152921504606846976 1)) (fun v W W' hb h => CkAt.below h hb), .gen (fun v W => ∃ p : Option Addr, v = .slice p 2 2 ∧ CksAt M W p [.am [a, b], .at (S % 18446744073709551616).toNat 1152921504606846976 1]) (fun v W W' hb ⟨p, h, hz⟩ => ⟨p, h, hz.below hb⟩), .is (.tuple #[.int .i64 V, .int .i64 C]), .is (.int .i64 V), .is (.int .i64 C)]
    [[], [], [], [(1, 11), (2, 12)], [(3, 13)], [], [(5, 15)], [], [(6, 16), (7, 17)], [(4, 14), (8, 18)], [(0, 10), (9, 19)], [(10, 20)], [(10, 20)]]
    [[], [], [], [1, 2], [3], [], [5], [], [4, 6, 7], [4, 8], [0, 8, 9], [10], [10]]
    [(0, 10), (1, 11), (2, 12), (3, 13), (4, 14), (5, 15), (6, 16), (7, 17), (8, 18), (9, 19), (10, 20), (11, 21), (12, 22)] rfl (by kernel_rfl) ⟨?_, ?_, ?_, ?_, ?_, ?_, ?_, ?_, ?_, ?_, ?_, ?_, ?_, trivial⟩ ?_
  · intro vals W hB _
    dsimp only [putsL, slotOf]
    go_wp2
    exact ⟨rfl, Below.refl _ _, rfl⟩
  · intro vals W hB _
    dsimp only [putsL, slotOf]
    go_wp2
    exact ⟨rfl, Below.refl _ _, rfl⟩
  · intro vals W hB _
    dsimp only [putsL, slotOf]
    go_wp2
    exact ⟨rfl, Below.refl _ _, rfl⟩
  · intro vals W hB ⟨h1, h2, _⟩
    have h1 : vals 1 = _ := h1
    have h2 : vals 2 = _ := h2
    dsimp only [putsL, slotOf]
    rw [h1, h2]
    go_wp2
    exact ⟨rfl, below_al (Below.refl _ _) _, ⟨_, rfl, els_two _ _ _ _⟩⟩
  · intro vals W hB ⟨⟨p3, h3, hz3⟩, _⟩
    have h3 : vals 3 = _ := h3
    dsimp only [putsL, slotOf]
    rw [h3]
    go_wp2_with (go_at_call 44; refine (moamounts_any (M := M) [a, b] hz3).mono ?_; rintro e w4 ⟨v4, rfl, hk4, hb4⟩)
    exact ⟨rfl, hb4, hk4⟩
  · intro vals W hB _
    dsimp only [putsL, slotOf]
    go_wp2
    exact ⟨rfl, Below.refl _ _, rfl⟩
  · intro vals W hB ⟨h5, _⟩
    have h5 : vals 5 = _ := h5
    dsimp only [putsL, slotOf]
    rw [h5]
    go_wp2
    exact ⟨rfl, Below.refl _ _, rfl⟩
  · intro vals W hB _
    have g0 := (HM.out.below hB).mo.cell
    dsimp only [putsL, slotOf]
    go_wp2
    exact ⟨rfl, Below.refl _ _, rfl⟩
  · intro vals W hB ⟨hk4, h6, h7, _⟩
    have h6 : vals 6 = _ := h6
    have h7 : vals 7 = _ := h7
    dsimp only [putsL, slotOf]
    rw [h6, h7]
    go_wp2_with (go_at_call 83; refine (moatmost_int (M := M) (S % 18446744073709551616) 1152921504606846976 1 (by omega) (by omega) _).mono ?_; rintro e w4 ⟨v4, rfl, hk4, hb4⟩)
    exact ⟨rfl, hb4, hk4⟩
  · intro vals W hB ⟨hk4, hk8, _⟩
    have hk4 : CkAt M W (vals 4) (.am [a, b]) := hk4
    obtain ⟨f4, b4, e4⟩ := CkAt.func hk4
    rw [e4] at hk4
    have hk8 : CkAt M W (vals 8) (.at (S % 18446744073709551616).toNat 1152921504606846976 1) := hk8
    obtain ⟨f8, b8, e8⟩ := CkAt.func hk8
    rw [e8] at hk8
    dsimp only [putsL, slotOf]
    rw [e4, e8]
    go_wp2
    exact ⟨rfl, below_al (Below.refl _ _) _, ⟨_, rfl, cks_two hk4 hk8⟩⟩
  · intro vals W hB ⟨h0, hk8, ⟨p9, h9, hz9⟩, _⟩
    have h0 : vals 0 = _ := h0
    have h9 : vals 9 = _ := h9
    dsimp only [putsL, slotOf]
    rw [h0, h9]
    go_wp2_with (go_at_call 82; refine (HQ.out _ _ (HM.out.below hB) hz9).mono ?_; rintro e w4 ⟨rfl, hb4⟩)
    exact ⟨rfl, hb4, rfl⟩
  · intro vals W hB ⟨h10, _⟩
    have h10 : vals 10 = _ := h10
    dsimp only [putsL, slotOf]
    rw [h10]
    go_wp2
    exact ⟨rfl, Below.refl _ _, rfl⟩
  · intro vals W hB ⟨h10, _⟩
    have h10 : vals 10 = _ := h10
    dsimp only [putsL, slotOf]
    rw [h10]
    go_wp2
    exact ⟨rfl, Below.refl _ _, rfl⟩
  rintro vals W hB ⟨q0, q1, q2, -, -, q5, q6, q7, -, -, q10, q11, q12, -⟩
  have h0 : vals 0 = _ := q0
  have h1 : vals 1 = _ := q1
  have h2 : vals 2 = _ := q2
  obtain ⟨v3, h3⟩ : ∃ v, vals 3 = v := ⟨_, rfl⟩
  obtain ⟨v4, h4⟩ : ∃ v, vals 4 = v := ⟨_, rfl⟩
  have h5 : vals 5 = _ := q5
  have h6 : vals 6 = _ := q6
  have h7 : vals 7 = _ := q7
  obtain ⟨v8, h8⟩ : ∃ v, vals 8 = v := ⟨_, rfl⟩
  obtain ⟨v9, h9⟩ : ∃ v, vals 9 = v := ⟨_, rfl⟩
  have h10 : vals 10 = _ := q10
  have h11 : vals 11 = _ := q11
  have h12 : vals 12 = _ := q12
  dsimp only [putsL]
  rw [h0, h1, h2, h3, h4, h5, h6, h7, h8, h9, h10, h11, h12]
  clear h0 q0 h1 q1 h2 q2 h3 h4 h5 q5 h6 q6 h7 q7 h8 h9 h10 q10 h11 q11 h12 q12
  simp only [List.length_cons, List.length_nil, Nat.reduceAdd, List.drop_succ_cons, List.drop_zero, List.setIfInBounds_toArray, List.set_cons_succ, List.set_cons_zero]
  have HT : Veil _ := ⟨hB⟩
  clear hB
  go_wp2
  go_ret2
  exact ⟨ret2 HE.out, HT.out⟩

set_option maxRecDepth 20000 in
set_option maxHeartbeats 1000000 in
theorem mosub_any (a b : Int) (ha : I64 a) (hb : I64 b) (w : World) (hS : MSent w) : Calls Tryd.prog 65 #[.int .i64 a, .int .i64 b] w fun e w' => e = .returned (.tuple #[.int .i64 (subA a b).1, .int .i64 (subA a b).2]) ∧ Below w.heap.size w w' := by
  obtain ⟨M, hM⟩ := hS
  have HM : Veil _ := ⟨hM⟩
  clear hM
  obtain ⟨S, hS⟩ : ∃ S, wrap64 (a - b) = S := ⟨_, rfl⟩
  have HE : Veil _ := ⟨sub_checks a b ha hb⟩
  rw [hS] at HE
  have HW : Veil _ := ⟨hS⟩
  have HQ : Veil _ := ⟨fun (p : Option Addr) (w' : World) (hM : MSen w' M) (h : CksAt M w' p [.am [a, b], .at (b % 18446744073709551616).toNat (a % 18446744073709551616).toNat 2]) => mochecked_any (c := 2) S [.am [a, b], .at (b % 18446744073709551616).toNat (a % 18446744073709551616).toNat 2] (show (2 : Nat) ≤ 1000 by decide) (by intro k hk; simp only [List.mem_cons, List.not_mem_nil, or_false] at hk; rcases hk with rfl | rfl; exact (by decide : (2 : Nat) ≤ 1000); all_goals exact ⟨by omega, by omega, by decide⟩) hM h⟩
  revert HE; revert HQ
  generalize firstC [.am [a, b], .at (b % 18446744073709551616).toNat (a % 18446744073709551616).toNat 2] = C
  generalize (if C = 0 then S else 0) = V
  generalize subA a b = r
  intro HQ HE
  obtain ⟨v, c⟩ := r
  clear ha hb hS
  go_enter Tryd.func65, Tryd.ntmps65
  go_wp2
  refine region_new [.is (.int .i64 a), .is (.int .i64 b), .is (.int .i64 S), .is (.int .i64 a), .is (.int .i64 b), .gen (fun v W => ∃ p : Option Addr, v = .slice p 2 2 ∧ Els elL W p [a, b]) (fun v W W' hb ⟨p, h, hz⟩ => ⟨p, h, hz.below hb⟩), .gen (fun v W => CkAt M W v (.am [a, b])) (fun v W W' hb h => CkAt.below h hb), .is (.int .i64 b), .is (.int .u64 (b % 18446744073709551616)), .is (.int .i64 a), .is (.int .u64 (a % 18446744073709551616)), .is (errW M 2), .gen (fun v W => CkAt M W v (.at (b % 18446744073709551616).toNat (a % 18446744073709551616).toNat 2)) (fun v W W' hb h => CkAt.below h hb), .gen (fun v W => ∃ p : Option Addr, v = .slice p 2 2 ∧ CksAt M W p [.am [a, b], .at (b % 18446744073709551616).toNat (a % 18446744073709551616).toNat 2]) (fun v W W' hb ⟨p, h, hz⟩ => ⟨p, h, hz.below hb⟩), .is (.tuple #[.int .i64 V, .int .i64 C]), .is (.int .i64 V), .is (.int .i64 C)]
    [[], [], [(0, 6), (1, 7)], [], [], [(3, 9), (4, 10)], [(5, 11)], [], [(7, 13)], [], [(9, 15)], [], [(8, 14), (10, 16), (11, 17)], [(6, 12), (12, 18)], [(2, 8), (13, 19)], [(14, 20)], [(14, 20)]]
    [[], [], [0, 1], [], [], [3, 4], [5], [], [7], [], [9], [], [6, 8, 10, 11], [6, 12], [2, 12, 13], [14], [14]]
    [(0, 6), (1, 7), (2, 8), (3, 9), (4, 10), (5, 11), (6, 12), (7, 13), (8, 14), (9, 15), (10, 16), (11, 17), (12, 18), (13, 19), (14, 20), (15, 21), (16, 22)] rfl (by kernel_rfl) ⟨?_, ?_, ?_, ?_, ?_, ?_, ?_, ?_, ?_, ?_, ?_, ?_, ?_, ?_, ?_, ?_, ?_, trivial⟩ ?_
  · intro vals W hB _
    dsimp only [putsL, slotOf]
    go_wp2
    exact ⟨rfl, Below.refl _ _, rfl⟩
  · intro vals W hB _
    dsimp only [putsL, slotOf]
    go_wp2
    exact ⟨rfl, Below.refl _ _, rfl⟩
  · intro vals W hB ⟨h0, h1, _⟩
    have h0 : vals 0 = _ := h0
    have h1 : vals 1 = _ := h1
    dsimp only [putsL, slotOf]
    rw [h0, h1]
    go_wp2
    exact ⟨rfl, Below.refl _ _, congrArg (Value.int .i64) HW.out⟩
  · intro vals W hB _
    dsimp only [putsL, slotOf]
    go_wp2
    exact ⟨rfl, Below.refl _ _, rfl⟩
  · intro vals W hB _
    dsimp only [putsL, slotOf]
    go_wp2
    exact ⟨rfl, Below.refl _ _, rfl⟩
  · intro vals W hB ⟨h3, h4, _⟩
    have h3 : vals 3 = _ := h3
    have h4 : vals 4 = _ := h4
    dsimp only [putsL, slotOf]
    rw [h3, h4]
    go_wp2
    exact ⟨rfl, below_al (Below.refl _ _) _, ⟨_, rfl, els_two _ _ _ _⟩⟩
  · intro vals W hB ⟨⟨p5, h5, hz5⟩, _⟩
    have h5 : vals 5 = _ := h5
    dsimp only [putsL, slotOf]
    rw [h5]
    go_wp2_with (go_at_call 44; refine (moamounts_any (M := M) [a, b] hz5).mono ?_; rintro e w4 ⟨v4, rfl, hk4, hb4⟩)
    exact ⟨rfl, hb4, hk4⟩
  · intro vals W hB _
    dsimp only [putsL, slotOf]
    go_wp2
    exact ⟨rfl, Below.refl _ _, rfl⟩
  · intro vals W hB ⟨h7, _⟩
    have h7 : vals 7 = _ := h7
    dsimp only [putsL, slotOf]
    rw [h7]
    go_wp2
    exact ⟨rfl, Below.refl _ _, rfl⟩
  · intro vals W hB _
    dsimp only [putsL, slotOf]
    go_wp2
    exact ⟨rfl, Below.refl _ _, rfl⟩
  · intro vals W hB ⟨h9, _⟩
    have h9 : vals 9 = _ := h9
    dsimp only [putsL, slotOf]
    rw [h9]
    go_wp2
    exact ⟨rfl, Below.refl _ _, rfl⟩
  · intro vals W hB _
    have g0 := (HM.out.below hB).le.cell
    dsimp only [putsL, slotOf]
    go_wp2
    exact ⟨rfl, Below.refl _ _, rfl⟩
  · intro vals W hB ⟨hk6, h8, h10, h11, _⟩
    have h8 : vals 8 = _ := h8
    have h10 : vals 10 = _ := h10
    have h11 : vals 11 = _ := h11
    dsimp only [putsL, slotOf]
    rw [h8, h10, h11]
    go_wp2_with (go_at_call 83; refine (moatmost_int (M := M) (b % 18446744073709551616) (a % 18446744073709551616) 2 (by omega) (by omega) _).mono ?_; rintro e w4 ⟨v4, rfl, hk4, hb4⟩)
    exact ⟨rfl, hb4, hk4⟩
  · intro vals W hB ⟨hk6, hk12, _⟩
    have hk6 : CkAt M W (vals 6) (.am [a, b]) := hk6
    obtain ⟨f6, b6, e6⟩ := CkAt.func hk6
    rw [e6] at hk6
    have hk12 : CkAt M W (vals 12) (.at (b % 18446744073709551616).toNat (a % 18446744073709551616).toNat 2) := hk12
    obtain ⟨f12, b12, e12⟩ := CkAt.func hk12
    rw [e12] at hk12
    dsimp only [putsL, slotOf]
    rw [e6, e12]
    go_wp2
    exact ⟨rfl, below_al (Below.refl _ _) _, ⟨_, rfl, cks_two hk6 hk12⟩⟩
  · intro vals W hB ⟨h2, hk12, ⟨p13, h13, hz13⟩, _⟩
    have h2 : vals 2 = _ := h2
    have h13 : vals 13 = _ := h13
    dsimp only [putsL, slotOf]
    rw [h2, h13]
    go_wp2_with (go_at_call 82; refine (HQ.out _ _ (HM.out.below hB) hz13).mono ?_; rintro e w4 ⟨rfl, hb4⟩)
    exact ⟨rfl, hb4, rfl⟩
  · intro vals W hB ⟨h14, _⟩
    have h14 : vals 14 = _ := h14
    dsimp only [putsL, slotOf]
    rw [h14]
    go_wp2
    exact ⟨rfl, Below.refl _ _, rfl⟩
  · intro vals W hB ⟨h14, _⟩
    have h14 : vals 14 = _ := h14
    dsimp only [putsL, slotOf]
    rw [h14]
    go_wp2
    exact ⟨rfl, Below.refl _ _, rfl⟩
  rintro vals W hB ⟨q0, q1, q2, q3, q4, -, -, q7, q8, q9, q10, q11, -, -, q14, q15, q16, -⟩
  have h0 : vals 0 = _ := q0
  have h1 : vals 1 = _ := q1
  have h2 : vals 2 = _ := q2
  have h3 : vals 3 = _ := q3
  have h4 : vals 4 = _ := q4
  obtain ⟨v5, h5⟩ : ∃ v, vals 5 = v := ⟨_, rfl⟩
  obtain ⟨v6, h6⟩ : ∃ v, vals 6 = v := ⟨_, rfl⟩
  have h7 : vals 7 = _ := q7
  have h8 : vals 8 = _ := q8
  have h9 : vals 9 = _ := q9
  have h10 : vals 10 = _ := q10
  have h11 : vals 11 = _ := q11
  obtain ⟨v12, h12⟩ : ∃ v, vals 12 = v := ⟨_, rfl⟩
  obtain ⟨v13, h13⟩ : ∃ v, vals 13 = v := ⟨_, rfl⟩
  have h14 : vals 14 = _ := q14
  have h15 : vals 15 = _ := q15
  have h16 : vals 16 = _ := q16
  dsimp only [putsL]
  rw [h0, h1, h2, h3, h4, h5, h6, h7, h8, h9, h10, h11, h12, h13, h14, h15, h16]
  clear h0 q0 h1 q1 h2 q2 h3 q3 h4 q4 h5 h6 h7 q7 h8 q8 h9 q9 h10 q10 h11 q11 h12 h13 h14 q14 h15 q15 h16 q16
  simp only [List.length_cons, List.length_nil, Nat.reduceAdd, List.drop_succ_cons, List.drop_zero, List.setIfInBounds_toArray, List.set_cons_succ, List.set_cons_zero]
  have HT : Veil _ := ⟨hB⟩
  clear hB
  go_wp2
  go_ret2
  exact ⟨ret2 HE.out, HT.out⟩
end Go.Proofs.YtckkiilbabbeaaaDoor

/- Money: the program's Move. -/
namespace Go.Proofs.YtckkiilbabbeaaaDoor
open Go Go.RowKit Sm
attribute [local go_sem] Oper.semAt_some

end Go.Proofs.YtckkiilbabbeaaaDoor
