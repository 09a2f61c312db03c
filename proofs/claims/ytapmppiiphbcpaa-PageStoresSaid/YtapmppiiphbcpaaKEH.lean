/- The law on what is written and read of a disk: PageStores. -/
import Derived.Test.YtapmppiiphbcpaaKEF
import Derived.Test.YtapmppiiphbcpaaKEC
import Derived.Test.YtapmppiiphbcpaaKPR
import Derived.Test.YtapmppiiphbcpaaKEJ
import Derived.Test.YtapmppiiphbcpaaKF1
namespace Go.Proofs.Ytapmppiiphbcpaa
open Go Go.RowKit Sm
attribute [local go_sem] Oper.semAt_some

/-- A slice of numbers of thirty-two bits in memory. -/
def U32L (w : World) (p : Option Addr) (l : List Nat) : Prop :=
  l ≠ [] → ∃ b off, p = some ⟨b, off, none⟩ ∧ ∀ (i x : Nat), l[i]? = some x → x < 4294967296 ∧ w.cell? ⟨b, off + i, none⟩ = some (.int .u32 x)
theorem rdV_form (D : Dk) (id : Nat) : ∃ (K I T : Int) (B : List UInt8) (C : Int), rdV D id = .tuple #[.agg #[.int .i64 K, .int .u32 I, .int .u64 T, .string ⟨B.toArray⟩], .int .i64 C] := by
  unfold rdV
  split
  · exact ⟨_, _, _, _, _, rfl⟩
  · exact ⟨_, _, _, [], _, rfl⟩
theorem wrs_inv {D : Dk} (h : D.Inv) (id : Nat) (E : List UInt8) : ∀ k, (wrs D id E k).Inv
  | 0 => h
  | k + 1 => (wrs_inv h id E k).wr _ _
def pwD (D : Dk) (p : Pg) : Dk := if p.right then wrs D p.id p.enc 4 else D
def pwC (D : Dk) (p : Pg) : Int := if p.right then wrCode D p.id else 30
theorem pwD_facts {D : Dk} (p : Pg) (hi : D.Inv) : (pwD D p).uns.length ≤ D.uns.length + 4 ∧ (pwD D p).ops ≤ D.ops + 4 ∧ (pwD D p).Inv := by
  unfold pwD
  split
  · exact ⟨(wrs_few D p.id p.enc 4).1, (wrs_few D p.id p.enc 4).2, wrs_inv hi _ _ 4⟩
  · exact ⟨by omega, by omega, hi⟩
section
variable {w A : World} {d kb sb r : Nat} {P : Nat → Prop} {D R : Dk}
theorem b_pwrite (h : Both w d kb sb r P D R A) (p : Pg) (hp : p.Ok) (hu : D.uns.length + 4 < 1000000000000) (ho : D.ops + 4 < 1000000000000000) :
    Calls Try.prog 25 #[.pointer (some ⟨d, 0, none⟩), p.v] A fun e w' => e = .returned (.int .i64 (pwC D p)) ∧ Both w d kb sb r P (pwD D p) R w' ∧ ∀ k, P k → w'.heap[k]? = A.heap[k]? :=
  both_real h fun v hD => by
    unfold pwC pwD
    cases hr : p.right
    · exact (pwrite_bad hD p hp hr).mono fun e w' hb => DiskPost.same hD hb
    · exact pwrite_good hD p hp hr hu ho
theorem b_prwrite (h : Both w d kb sb r P D R A) (p : Pg) (hp : p.Ok) (hu : R.uns.length + 4 ≤ 1000000) (ho : R.ops + 4 ≤ 1000000) :
    Calls Try.prog 26 #[.pointer (some ⟨r, 0, none⟩), p.v] A fun e w' => e = .returned (.int .i64 (pwC R p)) ∧ Both w d kb sb r P D (pwD R p) w' ∧ ∀ k, P k → w'.heap[k]? = A.heap[k]? :=
  both_ref h fun vs vw vb hR => by
    unfold pwC pwD
    cases hr : p.right
    · exact (rpwrite_bad p hp hr).mono fun e w' ⟨he, hb⟩ => RefPost.same hR he hb
    · exact rpwrite_good hR p hp hr hu ho
theorem b_pread (h : Both w d kb sb r P D R A) (id : Nat) (hid : id < 4294967296) : Calls Try.prog 27 #[.pointer (some ⟨d, 0, none⟩), .int .u32 id] A fun e w' => e = .returned (rdV D id) ∧ Both w d kb sb r P D R w' ∧ Below A.heap.size A w' := by
  have h' := h
  obtain ⟨v, vs, vw, vb, h1, -⟩ := h
  exact (pread_any h1 id hid).mono fun e w' ⟨he, hb⟩ => ⟨he, h'.below hb, hb⟩
theorem b_prread (h : Both w d kb sb r P D R A) (hi : R.Inv) (hok : R.Ok) (hm : R.uns.length ≤ 1000000) (id : Nat) (hid : id < 4294967296) : Calls Try.prog 28 #[.pointer (some ⟨r, 0, none⟩), .int .u32 id] A fun e w' => e = .returned (rdV R id) ∧ Both w d kb sb r P D R w' ∧ Below A.heap.size A w' := by
  have h' := h
  obtain ⟨v, vs, vw, vb, -, h2, -⟩ := h
  exact (rpread_any h2 hi hok hm id hid).mono fun e w' ⟨he, hb⟩ => ⟨he, h'.below hb, hb⟩
theorem b_ops (h : Both w d kb sb r P D R A) : Calls Try.prog 19 #[.pointer (some ⟨d, 0, none⟩)] A fun e w' => e = .returned (.int .i64 D.ops) ∧ A = w' := by
  obtain ⟨v, vs, vw, vb, h1, -⟩ := h
  exact ops_any h1
theorem b_n (h : Both w d kb sb r P D R A) : A.cell? ⟨r, 3, none⟩ = some (.int .i64 R.ops) := by
  obtain ⟨v, vs, vw, vb, -, h2, -⟩ := h
  exact (pack4 h2.box).1.2.2.2
end
/-- The stages of the first statement: nothing is written, the page is written on the one, on both. -/
def StI (w : World) (d kb sb r g : Nat) (c : Array Value) (T : TypeId) (D D1 : Dk) : Nat → World → Prop
  | 0, W => BothG w d kb sb r g c T D D W
  | 1, W => BothG w d kb sb r g c T D1 D W
  | _, W => BothG w d kb sb r g c T D1 D1 W
section
variable {w : World} {d kb sb r g : Nat} {c : Array Value} {T : TypeId} {D D1 : Dk} {s : Nat} {W : World}
theorem StI.zero (h : StI w d kb sb r g c T D D1 s W) (hs : s ≤ 0) : BothG w d kb sb r g c T D D W := by
  obtain rfl : s = 0 := by omega
  exact h
theorem StI.one (h : StI w d kb sb r g c T D D1 s W) (hs : s ≤ 1) (h1 : 1 ≤ s) : BothG w d kb sb r g c T D1 D W := by
  obtain rfl : s = 1 := by omega
  exact h
theorem StI.two (h : StI w d kb sb r g c T D D1 s W) (h1 : 2 ≤ s) : BothG w d kb sb r g c T D1 D1 W := by
  obtain ⟨t, rfl⟩ : ∃ t, s = t + 2 := ⟨s - 2, by omega⟩
  exact h
theorem StI.own (h : StI w d kb sb r g c T D D1 s W) : W.heap[g]? = some (.cells c T (0, 0)) := by
  match s, h with
  | 0, h => exact h.2
  | 1, h => exact h.2
  | _ + 2, h => exact h.2
end
def StoresI (w : World) (d kb sb r k : Nat) (A : World) : Prop := ∃ D, Both w d kb sb r (fun _ => False) D D A ∧ D.uns.length ≤ 4 * k ∧ D.ops ≤ 4 * k ∧ D.Inv

set_option maxRecDepth 20000 in
set_option maxHeartbeats 8000000 in
theorem pageStores_any (z : Int) (p : Option Addr) (l : List Pg) (lc : Nat) (q : Option Addr) (ids : List Nat) (qc : Nat) (w : World) (hA : Pages w p l) (hp : ∀ a, p = some a → a.block < w.heap.size) (hB : U32L w q ids) (hq : ∀ a, q = some a → a.block < w.heap.size) :
    Calls Try.prog 4 #[.int .i64 z, .slice p l.length lc, .slice q ids.length qc] w fun e w' => e = .returned (.bool true) ∧ Below w.heap.size w w' := by
  have HA : Veil _ := ⟨hA⟩
  have HP : Veil _ := ⟨hp⟩
  have HBs : Veil _ := ⟨hB⟩
  have HQ : Veil _ := ⟨hq⟩
  clear hA hp hB hq
  have h3 : z < 1 ∨ (¬ z < 1 ∧ 100 < z) ∨ ∃ n : Nat, 1 ≤ n ∧ n ≤ 100 ∧ z = n := by
    by_cases h1 : z < 1
    · exact .inl h1
    · by_cases h2 : 100 < z
      · exact .inr (.inl ⟨h1, h2⟩)
      · exact .inr (.inr ⟨z.toNat, by omega, by omega, by omega⟩)
  rcases h3 with h1 | ⟨h1, h2⟩ | ⟨n, hn1, hn20, rfl⟩
  · go_enter Try.func4, Try.ntmps4
    go_wp2_with (go_at_call 23; refine (shown3_any _).mono ?_; rintro e w1 ⟨rfl, hb1⟩)
    go_ret
    exact ⟨rfl, hb1⟩
  · go_enter Try.func4, Try.ntmps4
    go_wp2_with (go_at_call 23; refine (shown3_any _).mono ?_; rintro e w1 ⟨rfl, hb1⟩)
    go_ret
    exact ⟨rfl, hb1⟩
  · have hz1 : ¬ (n : Int) < 1 := by omega
    have hz2 : ¬ (100 : Int) < (n : Int) := by omega
    have HNew : Veil (∀ A, Calls Try.prog 14 #[.int .i64 n] A (NewPost A n)) := ⟨new_any n hn1 (by omega)⟩
    have HNewR : Veil _ := ⟨rnew_any n hn1 (by omega)⟩
    clear hn1 hn20
    go_enter Try.func4, Try.ntmps4
    go_wp2_with (first
      | (go_at_call 23; refine (shown3_any _).mono ?_; rintro e w1 ⟨rfl, hb1⟩)
      | (go_at_call 14; refine (HNew.out _).mono ?_; intro e w2 hp2; obtain ⟨d, kb, sb, rfl, hM2, -⟩ := MyD.new hb1 hp2; have HM2 : Veil _ := ⟨hM2⟩; clear hM2 hp2)
      | (go_at_call 15; refine (HNewR.out _).mono ?_; rintro e w3 ⟨r, vs, rfl, hR, hb3, hr1, hr2⟩; have HM3 : Veil _ := ⟨Both.new HM2.out hb3 hR hr1 hr2⟩; clear hR hb3 hr1 hr2)
      | fail)
    have HI : Veil (StoresI w d kb sb r 0 w3) := ⟨_, HM3.out, Nat.le_refl _, Nat.le_refl _, Dk.Inv.new n⟩
    clear HM3 HM2 hb1 HNew HNewR hz1 hz2
    go_loopw [12] (fun i w' => ∃ k : Nat, k ≤ l.length ∧ k ≤ 20 ∧ i = .int .i64 k ∧ Veil (StoresI w d kb sb r k w')) (fun i _ => 20 - (intOf i).toNat)
    case atStart => exact ⟨0, Nat.zero_le _, Nat.zero_le _, rfl, HI⟩
    case round =>
      obtain ⟨k, hk, hk20, rfl, hI⟩ := hrel
      clear HI
      by_cases hin : k < l.length ∧ k < 20
      · obtain ⟨hl, h20⟩ := hin
        obtain ⟨D, hM, hu, ho, hinv⟩ := hI.out
        obtain ⟨b, off, rfl, hc⟩ := HA.out (by intro h; simp [h] at hl)
        have hbl := HP.out _ rfl
        have hc' := hc k l[k] (List.getElem?_eq_getElem hl)
        generalize l[k] = x at hc'
        have e : ∀ o, wr.cell? ⟨b, o, none⟩ = w.cell? ⟨b, o, none⟩ := fun o => World.cell?_of_block (hM.in.block b hbl)
        rw [← e, ← e, ← e, ← e] at hc'
        obtain ⟨hxi, c0, c1, c2, c3⟩ := hc'
        have SM : Veil (∀ w, Calls Try.prog 24 #[x.v] w fun e w' => e = .returned x.small.v ∧ Below w.heap.size w w') := ⟨small_any x hxi.b⟩
        have hXo := hxi.small
        have HM : Veil _ := ⟨hM⟩
        have HF1 := pwD_facts x.small hinv
        have HW : Veil (∀ g c T W, BothG w d kb sb r g c T D D W → Calls Try.prog 25 #[.pointer (some ⟨d, 0, none⟩), x.small.v] W fun e w' => e = .returned (.int .i64 (pwC D x.small)) ∧ BothG w d kb sb r g c T (pwD D x.small) D w') := ⟨fun g c T W h => h.after (b_pwrite h.1 x.small hXo (by omega) (by omega))⟩
        have HWr : Veil (∀ g c T W, BothG w d kb sb r g c T (pwD D x.small) D W → Calls Try.prog 26 #[.pointer (some ⟨r, 0, none⟩), x.small.v] W fun e w' => e = .returned (.int .i64 (pwC D x.small)) ∧ BothG w d kb sb r g c T (pwD D x.small) (pwD D x.small) w') := ⟨fun g c T W h => h.after (b_prwrite h.1 x.small hXo (by omega) (by omega))⟩
        have HF : Veil ((pwD D x.small).uns.length ≤ 4 * (k + 1) ∧ (pwD D x.small).ops ≤ 4 * (k + 1) ∧ (pwD D x.small).Inv ∧ (pwD D x.small).uns.length ≤ 1000000) := ⟨by omega, by omega, HF1.2.2, by omega⟩
        have hsi : x.small.id < 4294967296 := hXo.id
        generalize pwD D x.small = D1 at *
        generalize pwC D x.small = cc at *
        clear hc hbl hM hI hu ho hinv e HF1
        obtain ⟨kd, id, tx, bd⟩ := x
        unfold Pg.small Pg.v at *
        dsimp only at *
        generalize bd.take 250 = bs at *
        have HXo : Veil _ := ⟨hXo⟩
        clear hXo hxi
        go_wp2_with (go_at_call 24; refine (SM.out _).mono ?_; rintro e w4 ⟨rfl, hb4⟩; have HM4 : Veil _ := ⟨HM.out.below hb4⟩; clear hb4)
        have HMG : Veil (BothG w d kb sb r w4.heap.size #[.int .i64 kd, .int .u32 id, .int .u64 tx, .string ⟨bs.toArray⟩] 49 D D (w4.alloc (.cells #[.int .i64 kd, .int .u32 id, .int .u64 tx, .string ⟨bs.toArray⟩] 49))) := ⟨BothG.new HM4.out⟩
        generalize w4.alloc (.cells #[.int .i64 kd, .int .u32 id, .int .u64 tx, .string ⟨bs.toArray⟩] 49) = W4 at *
        generalize w4.heap.size = g at *
        have HOP : Veil (∀ W, BothG w d kb sb r g #[.int .i64 kd, .int .u32 id, .int .u64 tx, .string ⟨bs.toArray⟩] 49 D1 D1 W → Calls Try.prog 19 #[.pointer (some ⟨d, 0, none⟩)] W fun e w' => e = .returned (.int .i64 D1.ops) ∧ W = w') := ⟨fun W h => b_ops h.1⟩
        have HST : Veil ((∀ {s : Nat} {W : World}, StI w d kb sb r g #[.int .i64 kd, .int .u32 id, .int .u64 tx, .string ⟨bs.toArray⟩] 49 D D1 s W → s ≤ 0 → BothG w d kb sb r g #[.int .i64 kd, .int .u32 id, .int .u64 tx, .string ⟨bs.toArray⟩] 49 D D W)
            ∧ (∀ {s : Nat} {W : World}, StI w d kb sb r g #[.int .i64 kd, .int .u32 id, .int .u64 tx, .string ⟨bs.toArray⟩] 49 D D1 s W → s ≤ 1 → 1 ≤ s → BothG w d kb sb r g #[.int .i64 kd, .int .u32 id, .int .u64 tx, .string ⟨bs.toArray⟩] 49 D1 D W)
            ∧ (∀ {s : Nat} {W : World}, StI w d kb sb r g #[.int .i64 kd, .int .u32 id, .int .u64 tx, .string ⟨bs.toArray⟩] 49 D D1 s W → 2 ≤ s → BothG w d kb sb r g #[.int .i64 kd, .int .u32 id, .int .u64 tx, .string ⟨bs.toArray⟩] 49 D1 D1 W)) := ⟨StI.zero, StI.one, StI.two⟩
        have HCE : Veil (∀ s W, StI w d kb sb r g #[.int .i64 kd, .int .u32 id, .int .u64 tx, .string ⟨bs.toArray⟩] 49 D D1 s W → W.cell? ⟨g, 0, none⟩ = some (.int .i64 kd) ∧ W.cell? ⟨g, 1, none⟩ = some (.int .u32 id) ∧ W.cell? ⟨g, 2, none⟩ = some (.int .u64 tx) ∧ W.cell? ⟨g, 3, none⟩ = some (.string ⟨bs.toArray⟩)) := ⟨fun s W h => (pack4 h.own).1⟩
        obtain ⟨no, hno⟩ : ∃ no, D1.ops = no := ⟨_, rfl⟩
        rw [hno] at HOP
        have HNN : Veil (∀ W, BothG w d kb sb r g #[.int .i64 kd, .int .u32 id, .int .u64 tx, .string ⟨bs.toArray⟩] 49 D1 D1 W → W.cell? ⟨r, 3, none⟩ = some (.int .i64 no)) := ⟨fun W h => by rw [b_n h.1, hno]⟩
        have HI0 : Veil (StI w d kb sb r g #[.int .i64 kd, .int .u32 id, .int .u64 tx, .string ⟨bs.toArray⟩] 49 D D1 0 W4.drew) := ⟨HMG.out.below (Below.refl _ _).drew⟩
        clear HM4 HM c0 c1 c2 c3 SM hno
        go_wp2
        refine region_stage 15 [[], [], [(0, 60), (1, 61)], [], [], [(3, 63), (4, 64)], [(2, 62), (5, 65)], [(6, 66)], [(7, 67)], [(7, 67), (8, 68)], [(7, 67)], [(7, 67), (10, 70)], [(7, 67), (11, 71)], [(7, 67), (12, 72)], [(7, 67), (9, 69), (13, 73)]]
          [[], [], [0, 1], [], [], [2, 3, 4], [2, 5], [5, 6], [7], [7, 8], [7], [7, 10], [7, 11], [7, 12], [7, 9, 13]]
          [(0, 60), (1, 61), (2, 62), (3, 63), (4, 64), (5, 65), (6, 66), (7, 67), (8, 68), (9, 69), (10, 70), (11, 71), (12, 72), (13, 73), (14, 74)]
          (StI w d kb sb r g #[.int .i64 kd, .int .u32 id, .int .u64 tx, .string ⟨bs.toArray⟩] 49 D D1)
          (fun i => ([fun v => v = .pointer (some ⟨d, 0, none⟩), fun v => v = .agg #[.int .i64 kd, .int .u32 id, .int .u64 tx, .string ⟨bs.toArray⟩], fun v => v = .int .i64 cc, fun v => v = .pointer (some ⟨r, 0, none⟩), fun v => v = .agg #[.int .i64 kd, .int .u32 id, .int .u64 tx, .string ⟨bs.toArray⟩], fun v => v = .int .i64 cc, fun v => v = .bool false, fun v => v = .bool false, fun v => v = .pointer (some ⟨d, 0, none⟩), fun v => v = .int .i64 no, fun v => v = .pointer (some ⟨r, 0, none⟩), fun v => v = .pointer (some ⟨r, 0, none⟩), fun v => v = .pointer (some ⟨r, 3, none⟩), fun v => v = .int .i64 no, fun v => v = .bool false] : List (Value → Prop)).getD i fun _ => True)
          (fun i => [0, 0, 1, 0, 0, 2, 2, 2, 2, 2, 2, 2, 2, 2, 2].getD i 0) (fun i => [2, 2, 0, 2, 2, 1, 2, 2, 2, 2, 2, 2, 2, 2, 2].getD i 2) rfl (by kernel_rfl) ?_ ⟨?_, ?_, ?_, ?_, ?_, ?_, ?_, ?_, ?_, ?_, ?_, ?_, ?_, ?_, ?_, trivial⟩ ?_
        · exact HI0.out
        · intro vals s W hI hs _
          have hs : s ≤ 2 := hs
          dsimp only [putsL, slotOf]
          go_wp2
          exact ⟨rfl, s, hI, Nat.le_refl _, (by first | exact ⟨rfl, (show 0 ≤ s by omega)⟩ | exact rfl), (by intros; assumption)⟩
        · intro vals s W hI hs _
          have hs : s ≤ 2 := hs
          obtain ⟨z0, z1, z2, z3⟩ := HCE.out s W hI
          dsimp only [putsL, slotOf]
          go_wp2
          exact ⟨rfl, s, hI, Nat.le_refl _, (by first | exact ⟨rfl, (show 0 ≤ s by omega)⟩ | exact rfl), (by intros; assumption)⟩
        · intro vals s W hI hs ⟨⟨h0, l0⟩, ⟨h1, l1⟩, _⟩
          have hs : s ≤ 0 := hs
          have l0 : 0 ≤ s := l0
          have l1 : 0 ≤ s := l1
          have h0 : vals 0 = .pointer (some ⟨d, 0, none⟩) := h0
          have h1 : vals 1 = .agg #[.int .i64 kd, .int .u32 id, .int .u64 tx, .string ⟨bs.toArray⟩] := h1
          dsimp only [putsL, slotOf]
          rw [h0, h1]
          go_wp2_with ((go_at_call 25; refine (HW.out _ _ _ _ (HST.out.1 hI hs)).mono ?_; rintro e w4 ⟨rfl, hI4⟩))
          refine ⟨rfl, 1, hI4, by omega, (by first | exact ⟨rfl, (show 1 ≤ 1 by omega)⟩ | exact rfl), ?_⟩
          refine ub_all ([2, 2, 0, 2, 2, 1, 2, 2, 2, 2, 2, 2, 2, 2, 2] : List Nat) 1 2 2 [0, 1] (by decide) (by decide) s
        · intro vals s W hI hs _
          have hs : s ≤ 2 := hs
          dsimp only [putsL, slotOf]
          go_wp2
          exact ⟨rfl, s, hI, Nat.le_refl _, (by first | exact ⟨rfl, (show 0 ≤ s by omega)⟩ | exact rfl), (by intros; assumption)⟩
        · intro vals s W hI hs _
          have hs : s ≤ 2 := hs
          obtain ⟨z0, z1, z2, z3⟩ := HCE.out s W hI
          dsimp only [putsL, slotOf]
          go_wp2
          exact ⟨rfl, s, hI, Nat.le_refl _, (by first | exact ⟨rfl, (show 0 ≤ s by omega)⟩ | exact rfl), (by intros; assumption)⟩
        · intro vals s W hI hs ⟨⟨h2, l2⟩, ⟨h3, l3⟩, ⟨h4, l4⟩, _⟩
          have hs : s ≤ 1 := hs
          have l2 : 1 ≤ s := l2
          have l3 : 0 ≤ s := l3
          have l4 : 0 ≤ s := l4
          have h3 : vals 3 = .pointer (some ⟨r, 0, none⟩) := h3
          have h4 : vals 4 = .agg #[.int .i64 kd, .int .u32 id, .int .u64 tx, .string ⟨bs.toArray⟩] := h4
          dsimp only [putsL, slotOf]
          rw [h3, h4]
          go_wp2_with ((go_at_call 26; refine (HWr.out _ _ _ _ (HST.out.2.1 hI hs l2)).mono ?_; rintro e w4 ⟨rfl, hI4⟩))
          refine ⟨rfl, 2, hI4, by omega, (by first | exact ⟨rfl, (show 2 ≤ 2 by omega)⟩ | exact rfl), ?_⟩
          refine ub_all ([2, 2, 0, 2, 2, 1, 2, 2, 2, 2, 2, 2, 2, 2, 2] : List Nat) 2 2 5 [2, 3, 4] (by decide) (by decide) s
        · intro vals s W hI hs ⟨⟨h2, l2⟩, ⟨h5, l5⟩, _⟩
          have hs : s ≤ 2 := hs
          have l2 : 1 ≤ s := l2
          have l5 : 2 ≤ s := l5
          have h2 : vals 2 = .int .i64 cc := h2
          have h5 : vals 5 = .int .i64 cc := h5
          dsimp only [putsL, slotOf]
          rw [h2, h5]
          go_wp2
          exact ⟨rfl, s, hI, Nat.le_refl _, (by first | exact ⟨rfl, (show 2 ≤ s by omega)⟩ | exact rfl), (by intros; assumption)⟩
        · intro vals s W hI hs ⟨⟨h5, l5⟩, ⟨h6, l6⟩, _⟩
          have hs : s ≤ 2 := hs
          have l5 : 2 ≤ s := l5
          have l6 : 2 ≤ s := l6
          have h6 : vals 6 = .bool false := h6
          dsimp only [putsL, slotOf]
          rw [h6]
          go_wp2
          exact ⟨rfl, s, hI, Nat.le_refl _, (by first | exact ⟨rfl, (show 2 ≤ s by omega)⟩ | exact rfl), (by intros; assumption)⟩
        · intro vals s W hI hs ⟨⟨h7, l7⟩, _⟩
          have hs : s ≤ 2 := hs
          have l7 : 2 ≤ s := l7
          have h7 : vals 7 = .bool false := h7
          dsimp only [putsL, slotOf]
          rw [h7]
          go_wp2
          exact ⟨rfl, s, hI, Nat.le_refl _, (by first | exact ⟨rfl, (show 2 ≤ s by omega)⟩ | exact rfl), (by intros; assumption)⟩
        · intro vals s W hI hs ⟨⟨h7, l7⟩, ⟨h8, l8⟩, _⟩
          have hs : s ≤ 2 := hs
          have l7 : 2 ≤ s := l7
          have l8 : 2 ≤ s := l8
          have h7 : vals 7 = .bool false := h7
          have h8 : vals 8 = .pointer (some ⟨d, 0, none⟩) := h8
          dsimp only [putsL, slotOf]
          rw [h7, h8]
          go_wp2_with ((go_at_call 19; refine (HOP.out _ (HST.out.2.2 hI l7)).mono ?_; rintro e w4 ⟨rfl, rfl⟩))
          exact ⟨rfl, s, hI, Nat.le_refl _, (by first | exact ⟨rfl, (show 2 ≤ s by omega)⟩ | exact rfl), (by intros; assumption)⟩
        · intro vals s W hI hs ⟨⟨h7, l7⟩, _⟩
          have hs : s ≤ 2 := hs
          have l7 : 2 ≤ s := l7
          have h7 : vals 7 = .bool false := h7
          dsimp only [putsL, slotOf]
          rw [h7]
          go_wp2
          exact ⟨rfl, s, hI, Nat.le_refl _, (by first | exact ⟨rfl, (show 2 ≤ s by omega)⟩ | exact rfl), (by intros; assumption)⟩
        · intro vals s W hI hs ⟨⟨h7, l7⟩, ⟨h10, l10⟩, _⟩
          have hs : s ≤ 2 := hs
          have l7 : 2 ≤ s := l7
          have l10 : 2 ≤ s := l10
          have h7 : vals 7 = .bool false := h7
          have h10 : vals 10 = .pointer (some ⟨r, 0, none⟩) := h10
          dsimp only [putsL, slotOf]
          rw [h7, h10]
          go_wp2
          exact ⟨rfl, s, hI, Nat.le_refl _, (by first | exact ⟨rfl, (show 2 ≤ s by omega)⟩ | exact rfl), (by intros; assumption)⟩
        · intro vals s W hI hs ⟨⟨h7, l7⟩, ⟨h11, l11⟩, _⟩
          have hs : s ≤ 2 := hs
          have l7 : 2 ≤ s := l7
          have l11 : 2 ≤ s := l11
          have h7 : vals 7 = .bool false := h7
          have h11 : vals 11 = .pointer (some ⟨r, 0, none⟩) := h11
          dsimp only [putsL, slotOf]
          rw [h7, h11]
          go_wp2
          exact ⟨rfl, s, hI, Nat.le_refl _, (by first | exact ⟨rfl, (show 2 ≤ s by omega)⟩ | exact rfl), (by intros; assumption)⟩
        · intro vals s W hI hs ⟨⟨h7, l7⟩, ⟨h12, l12⟩, _⟩
          have hs : s ≤ 2 := hs
          have l7 : 2 ≤ s := l7
          have l12 : 2 ≤ s := l12
          have h7 : vals 7 = .bool false := h7
          have h12 : vals 12 = .pointer (some ⟨r, 3, none⟩) := h12
          have z3 := HNN.out W (HST.out.2.2 hI l7)
          dsimp only [putsL, slotOf]
          rw [h7, h12]
          go_wp2
          exact ⟨rfl, s, hI, Nat.le_refl _, (by first | exact ⟨rfl, (show 2 ≤ s by omega)⟩ | exact rfl), (by intros; assumption)⟩
        · intro vals s W hI hs ⟨⟨h7, l7⟩, ⟨h9, l9⟩, ⟨h13, l13⟩, _⟩
          have hs : s ≤ 2 := hs
          have l7 : 2 ≤ s := l7
          have l9 : 2 ≤ s := l9
          have l13 : 2 ≤ s := l13
          have h7 : vals 7 = .bool false := h7
          have h9 : vals 9 = .int .i64 no := h9
          have h13 : vals 13 = .int .i64 no := h13
          dsimp only [putsL, slotOf]
          rw [h7, h9, h13]
          go_wp2
          exact ⟨rfl, s, hI, Nat.le_refl _, (by first | exact ⟨rfl, (show 2 ≤ s by omega)⟩ | exact rfl), (by intros; assumption)⟩
        rintro vals s W hI hq
        have q0 : vals 0 = .pointer (some ⟨d, 0, none⟩) := (hq 0 (by decide)).1
        have q1 : vals 1 = .agg #[.int .i64 kd, .int .u32 id, .int .u64 tx, .string ⟨bs.toArray⟩] := (hq 1 (by decide)).1
        have q2 : vals 2 = .int .i64 cc := (hq 2 (by decide)).1
        have q3 : vals 3 = .pointer (some ⟨r, 0, none⟩) := (hq 3 (by decide)).1
        have q4 : vals 4 = .agg #[.int .i64 kd, .int .u32 id, .int .u64 tx, .string ⟨bs.toArray⟩] := (hq 4 (by decide)).1
        have q5 : vals 5 = .int .i64 cc := (hq 5 (by decide)).1
        have q6 : vals 6 = .bool false := (hq 6 (by decide)).1
        have q7 : vals 7 = .bool false := (hq 7 (by decide)).1
        have q8 : vals 8 = .pointer (some ⟨d, 0, none⟩) := (hq 8 (by decide)).1
        have q9 : vals 9 = .int .i64 no := (hq 9 (by decide)).1
        have q10 : vals 10 = .pointer (some ⟨r, 0, none⟩) := (hq 10 (by decide)).1
        have q11 : vals 11 = .pointer (some ⟨r, 0, none⟩) := (hq 11 (by decide)).1
        have q12 : vals 12 = .pointer (some ⟨r, 3, none⟩) := (hq 12 (by decide)).1
        have q13 : vals 13 = .int .i64 no := (hq 13 (by decide)).1
        have q14 : vals 14 = .bool false := (hq 14 (by decide)).1
        have hs : 2 ≤ s := (hq 5 (by decide)).2
        dsimp only [putsL]
        rw [q0, q1, q2, q3, q4, q5, q6, q7, q8, q9, q10, q11, q12, q13, q14]
        clear hq q0 q1 q2 q3 q4 q5 q6 q7 q8 q9 q10 q11 q12 q13 q14
        simp only [List.drop_succ_cons, List.drop_zero, List.setIfInBounds_toArray, List.set_cons_succ, List.set_cons_zero]
        have HM5 : Veil _ := ⟨HST.out.2.2 hI hs⟩
        clear hI hs HI0 HST HCE HNN HW HWr HOP HMG
        obtain ⟨⟨z0, z1, z2, z3⟩, -⟩ := pack4 HM5.out.2
        have HMB : Veil (Both w d kb sb r (fun _ => False) D1 D1 W) := ⟨HM5.out.done⟩
        have HRD : Veil (∀ (j : Nat), j < 4294967296 → ∃ (K I T : Int) (B : List UInt8) (C : Int), (∀ A, Both w d kb sb r (fun _ => False) D1 D1 A → Calls Try.prog 27 #[.pointer (some ⟨d, 0, none⟩), .int .u32 j] A fun e w' => e = .returned (.tuple #[.agg #[.int .i64 K, .int .u32 I, .int .u64 T, .string ⟨B.toArray⟩], .int .i64 C]) ∧ Both w d kb sb r (fun _ => False) D1 D1 w' ∧ Below A.heap.size A w') ∧
            ∀ A, Both w d kb sb r (fun _ => False) D1 D1 A → Calls Try.prog 28 #[.pointer (some ⟨r, 0, none⟩), .int .u32 j] A fun e w' => e = .returned (.tuple #[.agg #[.int .i64 K, .int .u32 I, .int .u64 T, .string ⟨B.toArray⟩], .int .i64 C]) ∧ Both w d kb sb r (fun _ => False) D1 D1 w' ∧ Below A.heap.size A w') := ⟨fun j hj => by
          obtain ⟨K, I, T, B, C, hf⟩ := rdV_form D1 j
          exact ⟨K, I, T, B, C, fun A hA => by have := b_pread hA j hj; rwa [hf] at this, fun A hA => by have := b_prread hA HF.out.2.2.1 hA.okD HF.out.2.2.2 j hj; rwa [hf] at this⟩⟩
        clear HM5
        by_cases hbb : k < ids.length
        · obtain ⟨b2, off2, rfl, hc2⟩ := HBs.out (by intro h; simp [h] at hbb)
          obtain ⟨hy, hc3⟩ := hc2 k ids[k] (List.getElem?_eq_getElem hbb)
          have hc4 : W.cell? ⟨b2, off2 + k, none⟩ = _ := (World.cell?_of_block (HMB.out.in.block b2 (HQ.out _ rfl))).trans hc3
          revert hy hc4
          generalize ids[k] = y
          intro hy hc4
          have e0 : ((y : Nat) : Int).tmod 32768 = ((y % 32768 : Nat) : Int) := by rw [Int.tmod_eq_emod_of_nonneg (by omega)]; omega
          have hj : y % 32768 < 4294967296 := by omega
          obtain ⟨K, I, T, B, C, hR1, hR2⟩ := HRD.out (y % 32768) hj
          have HR1 : Veil _ := ⟨hR1⟩
          have HR2 : Veil _ := ⟨hR2⟩
          clear hc2 hc3 HRD hR1 hR2
          generalize y % 32768 = j at *
          have e1 : IntKind.u32.wrap (j : Int) = (j : Int) := by rw [IntKind.wrap_u32']; omega
          go_wp2_with (first
              | (go_at_call 27; refine (HR1.out _ HMB.out).mono ?_; rintro e w8 ⟨rfl, hM8, -⟩; have HM8 : Veil _ := ⟨hM8⟩; clear hM8)
              | (go_at_call 28; refine (HR2.out _ (HM8.out.below (below_al (Below.refl _ _) _))).mono ?_; rintro e w9 ⟨rfl, hM9, hb9⟩; have HM9 : Veil _ := ⟨hM9⟩; obtain ⟨hc9, hf9⟩ := bcell hb9; have hz9 : w8.heap.size < w9.heap.size := (by have := hb9.size; simp at this; omega); clear hM9 hb9))
          go_roundw
          case rel => exact ⟨k + 1, by omega, by omega, by go_num, ⟨D1, HM9.out.below (below_al (Below.refl _ _) _), HF.out.1, HF.out.2.1, HF.out.2.2.1⟩⟩
          case measure => simp [intOf]; omega
        · obtain ⟨K, I, T, B, C, hR1, hR2⟩ := HRD.out id hsi
          have HR1 : Veil _ := ⟨hR1⟩
          have HR2 : Veil _ := ⟨hR2⟩
          clear HRD hR1 hR2
          have hbi : ¬ (k : Int) < ids.length := by omega
          go_wp2_with (first
              | (go_at_call 27; refine (HR1.out _ HMB.out).mono ?_; rintro e w8 ⟨rfl, hM8, -⟩; have HM8 : Veil _ := ⟨hM8⟩; clear hM8)
              | (go_at_call 28; refine (HR2.out _ (HM8.out.below (below_al (Below.refl _ _) _))).mono ?_; rintro e w9 ⟨rfl, hM9, hb9⟩; have HM9 : Veil _ := ⟨hM9⟩; obtain ⟨hc9, hf9⟩ := bcell hb9; have hz9 : w8.heap.size < w9.heap.size := (by have := hb9.size; simp at this; omega); clear hM9 hb9))
          go_roundw
          case rel => exact ⟨k + 1, by omega, by omega, by go_num, ⟨D1, HM9.out.below (below_al (Below.refl _ _) _), HF.out.1, HF.out.2.1, HF.out.2.2.1⟩⟩
          case measure => simp [intOf]; omega
      · obtain ⟨D, hM, -⟩ := hI.out
        by_cases h1 : k < l.length
        · have h2 : ¬ (k : Int) < 20 := by omega
          go_wp2
          go_ret
          exact ⟨rfl, hM.in⟩
        · have h2 : ¬ (k : Int) < l.length := by omega
          go_wp2
          go_ret
          exact ⟨rfl, hM.in⟩
end Go.Proofs.Ytapmppiiphbcpaa
