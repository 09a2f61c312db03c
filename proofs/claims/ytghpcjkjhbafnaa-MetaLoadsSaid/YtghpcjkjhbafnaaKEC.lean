/- The law on what is stored and loaded: MetaLoads. -/
import Derived.BigQuiet
import Derived.Test.YtghpcjkjhbafnaaKEB
import Derived.Test.YtghpcjkjhbafnaaKPE
namespace Go.Proofs.Ytghpcjkjhbafnaa
open Go Go.RowKit Sm
attribute [local go_sem] Oper.semAt_some

/-- A slice of texts in memory. -/
def Strs (w : World) (p : Option Addr) (l : List (List UInt8)) : Prop :=
  l ≠ [] → ∃ b off, p = some ⟨b, off, none⟩ ∧ ∀ i x, l[i]? = some x → x.length ≤ 9223372036854775807 ∧ w.cell? ⟨b, off + i, none⟩ = some (.string ⟨x.toArray⟩)

theorem mstore_dp {A : World} {d kb sb : Nat} {v : Value} {D : Dk} (h : DiskAt A d kb sb v D) (m : Mt) (hm : m.Ok) (hu : D.uns.length < 1000000000000) (ho : D.ops < 1000000000000000) :
    Calls Try.prog 36 #[.pointer (some ⟨d, 0, none⟩), m.v] A (DiskPost A d kb sb v (stoD D m) (.int .i64 (stoC D m))) := by
  unfold stoC stoD
  cases hr : m.right
  · exact (mstore_bad m hm hr _ A).mono fun e w' hb => DiskPost.same h hb
  · exact mstore_good h m hm hr hu ho
theorem wr_len (D : Dk) (i : Int) (s : List UInt8) : (D.wr i s).kept.length = D.kept.length := by rw [wr_keeps]
/-- What Load answers, in letters. -/
theorem loadMV_form (D : Dk) : ∃ T A H F C : Int, loadMV D = .tuple #[.agg #[.int .u64 T, .int .u32 A, .int .u32 H, .int .u32 F], .int .i64 C] := by
  unfold loadMV
  split
  · split
    · exact ⟨_, _, _, _, _, rfl⟩
    · exact ⟨_, _, _, _, _, rfl⟩
  · exact ⟨_, _, _, _, _, rfl⟩

def LoadsI (w : World) (d kb sb r n k : Nat) (A : World) : Prop := ∃ D, Both w d kb sb r (fun _ => False) D D A ∧ D.kept.length = n ∧ D.uns.length ≤ 2 * k ∧ D.ops ≤ 2 * k ∧ D.Inv
section
variable {w A : World} {d kb sb r : Nat} {P : Nat → Prop} {D R : Dk}
theorem b_store (h : Both w d kb sb r P D R A) (m : Mt) (hm : m.Ok) (hu : D.uns.length < 1000000000000) (ho : D.ops < 1000000000000000) :
    Calls Try.prog 36 #[.pointer (some ⟨d, 0, none⟩), m.v] A fun e w' => e = .returned (.int .i64 (stoC D m)) ∧ Both w d kb sb r P (stoD D m) R w' :=
  (both_real h fun _ hD => mstore_dp hD m hm hu ho).mono fun _ _ ⟨h1, h2, _⟩ => ⟨h1, h2⟩
theorem b_rstore (h : Both w d kb sb r P D R A) (m : Mt) (hm : m.Ok) (hu : R.uns.length ≤ 1000000) (ho : R.ops ≤ 1000000) :
    Calls Try.prog 37 #[.pointer (some ⟨r, 0, none⟩), m.v] A fun e w' => e = .returned (.int .i64 (stoC R m)) ∧ Both w d kb sb r P D (stoD R m) w' :=
  (both_ref h fun _ _ _ hR => rstore_any hR m hm hu ho).mono fun _ _ ⟨h1, h2, _⟩ => ⟨h1, h2⟩
theorem b_write (h : Both w d kb sb r P D R A) (i : Int) (s : List UInt8) (hu : D.uns.length < 1000000000000) (ho : D.ops < 1000000000000000) :
    Calls Try.prog 38 #[.pointer (some ⟨d, 0, none⟩), .int .i64 i, .string ⟨s.toArray⟩] A fun e w' => e = .returned (.int .i64 (D.wrc i s)) ∧ Both w d kb sb r P (D.wr i s) R w' :=
  (both_real h fun _ hD => wr_any hD i s hu ho).mono fun _ _ ⟨h1, h2, _⟩ => ⟨h1, h2⟩
theorem b_rwrite (h : Both w d kb sb r P D R A) (i : Int) (s : List UInt8) (hu : R.uns.length ≤ 1000000) (ho : R.ops ≤ 1000000) :
    Calls Try.prog 39 #[.pointer (some ⟨r, 0, none⟩), .int .i64 i, .string ⟨s.toArray⟩] A fun e w' => e = .returned (.int .i64 (R.wrc i s)) ∧ Both w d kb sb r P D (R.wr i s) w' :=
  (both_ref h fun _ _ _ hR => rwr_any hR i s hu ho).mono fun _ _ ⟨h1, h2, _⟩ => ⟨h1, h2⟩
theorem b_load (h : Both w d kb sb r P D R A) : Calls Try.prog 40 #[.pointer (some ⟨d, 0, none⟩)] A fun e w' => e = .returned (loadMV D) ∧ Both w d kb sb r P D R w' ∧ Below A.heap.size A w' := by
  have h' := h
  obtain ⟨v, vs, vw, vb, h1, -⟩ := h
  exact (mload_any h1).mono fun e w' ⟨he, hb⟩ => ⟨he, h'.below hb, hb⟩
theorem b_rload (h : Both w d kb sb r P D R A) (hi : R.Inv) (h1L : 1 ≤ R.kept.length) (h64 : ∀ k, k < R.kept.length → (R.seen.getD k []).length ≤ 1000) (hm : R.uns.length ≤ 1000000) : Calls Try.prog 41 #[.pointer (some ⟨r, 0, none⟩)] A fun e w' => e = .returned (loadMV R) ∧ Both w d kb sb r P D R w' ∧ Below A.heap.size A w' := by
  have h' := h
  obtain ⟨v, vs, vw, vb, -, h2, -⟩ := h
  exact (rload_any h2 hi h1L h64 hm).mono fun e w' ⟨he, hb⟩ => ⟨he, h'.below hb, hb⟩
theorem b_64 (h : Both w d kb sb r P D R A) : ∀ k, k < D.kept.length → (D.seen.getD k []).length ≤ 1000 := fun k hk => by
  have ho := h.okD
  have hl : k < D.seen.length := by rw [ho.len]; exact hk
  have := ho.s64 (D.seen.getD k []) (by simp [List.getD, hl])
  omega
end

set_option maxRecDepth 20000 in
set_option maxHeartbeats 8000000 in
theorem metaLoads_any (z : Int) (p : Option Addr) (l : List Mt) (lc : Nat) (q : Option Addr) (bs : List (List UInt8)) (qc : Nat) (w : World) (hA : Metas w p l) (hp : ∀ a, p = some a → a.block < w.heap.size) (hB : Strs w q bs) (hq : ∀ a, q = some a → a.block < w.heap.size) :
    Calls Try.prog 8 #[.int .i64 z, .slice p l.length lc, .slice q bs.length qc] w fun e w' => e = .returned (.bool true) ∧ Below w.heap.size w w' := by
  have HA : Veil _ := ⟨hA⟩
  have HP : Veil _ := ⟨hp⟩
  have HBs : Veil _ := ⟨hB⟩
  have HQ : Veil _ := ⟨hq⟩
  clear hA hp hB hq
  have h3 : z < 1 ∨ (¬ z < 1 ∧ 20 < z) ∨ ∃ n : Nat, 1 ≤ n ∧ n ≤ 20 ∧ z = n := by
    by_cases h1 : z < 1
    · exact .inl h1
    · by_cases h2 : 20 < z
      · exact .inr (.inl ⟨h1, h2⟩)
      · exact .inr (.inr ⟨z.toNat, by omega, by omega, by omega⟩)
  rcases h3 with h1 | ⟨h1, h2⟩ | ⟨n, hn1, hn20, rfl⟩
  · go_enter Try.func8, Try.ntmps8
    go_wp2_with (go_at_call 29; refine (shown4_any _).mono ?_; rintro e w1 ⟨rfl, hb1⟩)
    go_ret
    exact ⟨rfl, hb1⟩
  · go_enter Try.func8, Try.ntmps8
    go_wp2_with (go_at_call 29; refine (shown4_any _).mono ?_; rintro e w1 ⟨rfl, hb1⟩)
    go_ret
    exact ⟨rfl, hb1⟩
  · have hz1 : ¬ (n : Int) < 1 := by omega
    have hz2 : ¬ (20 : Int) < (n : Int) := by omega
    have HN : Veil (1 ≤ n ∧ n ≤ 20) := ⟨hn1, hn20⟩
    have HNew : Veil (∀ A, Calls Try.prog 14 #[.int .i64 n] A (NewPost A n)) := ⟨new_any n hn1 (by omega)⟩
    have HNewR : Veil _ := ⟨rnew_any n hn1 (by omega)⟩
    clear hn1 hn20
    go_enter Try.func8, Try.ntmps8
    go_wp2_with (first
      | (go_at_call 29; refine (shown4_any _).mono ?_; rintro e w1 ⟨rfl, hb1⟩)
      | (go_at_call 14; refine (HNew.out _).mono ?_; intro e w2 hp2; obtain ⟨d, kb, sb, rfl, hM2, -⟩ := MyD.new hb1 hp2; have HM2 : Veil _ := ⟨hM2⟩; clear hM2 hp2)
      | (go_at_call 15; refine (HNewR.out _).mono ?_; rintro e w3 ⟨r, vs, rfl, hR, hb3, hr1, hr2⟩; have HM3 : Veil _ := ⟨Both.new HM2.out hb3 hR hr1 hr2⟩; clear hR hb3 hr1 hr2)
      | fail)
    have HI : Veil (LoadsI w d kb sb r n 0 w3) := ⟨_, HM3.out, by simp [Dk.new], Nat.le_refl _, Nat.le_refl _, Dk.Inv.new n⟩
    clear HM3 HM2 hb1 HNew HNewR hz1 hz2
    go_loopw [12] (fun i w' => ∃ k : Nat, k ≤ 20 ∧ i = .int .i64 k ∧ Veil (LoadsI w d kb sb r n k w')) (fun i _ => 20 - (intOf i).toNat)
    case atStart => exact ⟨0, Nat.zero_le _, rfl, HI⟩
    case round =>
      obtain ⟨k, hk, rfl, hI⟩ := hrel
      clear HI
      by_cases h20 : k < 20
      · obtain ⟨D, hM, hkn, hu, ho, hinv⟩ := hI.out
        have HM : Veil _ := ⟨hM⟩
        have hw0 : Below w.heap.size w wr := hM.in
        by_cases hl : k < l.length
        · obtain ⟨b, off, rfl, hc⟩ := HA.out (by intro h; simp [h] at hl)
          have hbl := HP.out _ rfl
          have hc' := hc k l[k] (List.getElem?_eq_getElem hl)
          generalize l[k] = x at hc'
          obtain ⟨hxo, hc1⟩ := hc'
          have ST : Veil (∀ W, Below w.heap.size w W → W.cell? ⟨b, off + k * 4, none⟩ = some (.int .u64 x.tx) ∧ W.cell? ⟨b, off + k * 4 + 1, none⟩ = some (.int .u32 x.root) ∧ W.cell? ⟨b, off + k * 4 + 2, none⟩ = some (.int .u32 x.high) ∧ W.cell? ⟨b, off + k * 4 + 3, none⟩ = some (.int .u32 x.free)) := ⟨fun W h => by
            have e : ∀ o, W.cell? ⟨b, o, none⟩ = w.cell? ⟨b, o, none⟩ := fun o => World.cell?_of_block (h.block b hbl)
            rw [e, e, e, e]; exact hc1⟩
          have HS : Veil (∀ A', Both w d kb sb r (fun _ => False) D D A' → Calls Try.prog 36 #[.pointer (some ⟨d, 0, none⟩), x.v] A' fun e w' => e = .returned (.int .i64 (stoC D x)) ∧ Both w d kb sb r (fun _ => False) (stoD D x) D w') := ⟨fun A' h => b_store h x hxo (by omega) (by omega)⟩
          have HSr : Veil (∀ A', Both w d kb sb r (fun _ => False) (stoD D x) D A' → Calls Try.prog 37 #[.pointer (some ⟨r, 0, none⟩), x.v] A' fun e w' => e = .returned (.int .i64 (stoC D x)) ∧ Both w d kb sb r (fun _ => False) (stoD D x) (stoD D x) w') := ⟨fun A' h => b_rstore h x hxo (by omega) (by omega)⟩
          have HF1 : Veil ((stoD D x).kept.length = n ∧ (stoD D x).uns.length ≤ 2 * k + 1 ∧ (stoD D x).ops ≤ 2 * k + 1 ∧ (stoD D x).Inv) := ⟨by rw [stoD_kept]; exact hkn, by have := stoD_few D x; omega, by have := stoD_few D x; omega, by
            unfold stoD; split
            · exact hinv.wr _ _
            · exact hinv⟩
          generalize stoD D x = D1 at *
          generalize stoC D x = c1 at *
          clear hc hc1 hbl hxo hkn hu ho hinv hM hI
          obtain ⟨tx, a, hh, f⟩ := x
          unfold Mt.v at *
          dsimp only at *
          go_wp2_with fail
          have hw1 := hw0.drew
          go_region_held3 (fun W => W.cell? ⟨b, off + k * 4, none⟩ = some (.int .u64 tx) ∧ W.cell? ⟨b, off + k * 4 + 1, none⟩ = some (.int .u32 a) ∧ W.cell? ⟨b, off + k * 4 + 2, none⟩ = some (.int .u32 hh) ∧ W.cell? ⟨b, off + k * 4 + 3, none⟩ = some (.int .u32 f) ∧ Below w.heap.size w W) (refine ⟨(ST.out _ ?_).1, (ST.out _ ?_).2.1, (ST.out _ ?_).2.2.1, (ST.out _ ?_).2.2.2, ?_⟩ <;> first | assumption | exact hw1 | exact hw5 | exact hw6) (first
            | (go_at_call 36; refine (HS.out _ (HM.out.below (Below.refl _ _).drew)).mono ?_; rintro e w5 ⟨rfl, hM5⟩; have HM5 : Veil _ := ⟨hM5⟩; have hw5 := hM5.in; clear hM5)
            | (go_at_call 37; refine (HSr.out _ HM5.out).mono ?_; rintro e w6 ⟨rfl, hM6⟩; have HM6 : Veil _ := ⟨hM6⟩; have hw6 := hM6.in; clear hM6))
          obtain ⟨W1, hW1⟩ : ∃ W1, w6 = W1 := ⟨_, rfl⟩
          have HM1 : Veil (Both w d kb sb r (fun _ => False) D1 D1 W1) := ⟨hW1 ▸ HM6.out⟩
          rw [hW1]
          clear hw1 HM6 hW1 hw0 HM HS HSr ST
          by_cases hb : k < bs.length
          · obtain ⟨b2, off2, rfl, hc2⟩ := HBs.out (by intro h; simp [h] at hb)
            have hc3 := hc2 k bs[k] (List.getElem?_eq_getElem hb)
            generalize bs[k] = s at hc3
            obtain ⟨hsl, hsc⟩ := hc3
            have hs1 : W1.cell? ⟨b2, off2 + k, none⟩ = some (.string ⟨s.toArray⟩) := (World.cell?_of_block (HM1.out.in.block b2 (HQ.out _ rfl))).trans hsc
            clear hc2 hsc
            by_cases he : s = []
            · subst he
              have HF2 : Veil (D1.kept.length = n ∧ D1.uns.length ≤ 2 * k + 2 ∧ D1.ops ≤ 2 * k + 2 ∧ D1.Inv) := ⟨HF1.out.1, by have := HF1.out; omega, by have := HF1.out; omega, HF1.out.2.2.2⟩
              obtain ⟨T, A, H, F, C, hfm⟩ := loadMV_form D1
              have HL : Veil (∀ A', Both w d kb sb r (fun _ => False) D1 D1 A' → Calls Try.prog 40 #[.pointer (some ⟨d, 0, none⟩)] A' fun e w' => e = .returned (.tuple #[.agg #[.int .u64 T, .int .u32 A, .int .u32 H, .int .u32 F], .int .i64 C]) ∧ Both w d kb sb r (fun _ => False) D1 D1 w' ∧ Below A'.heap.size A' w') := ⟨fun A' h => by have := b_load h; rwa [hfm] at this⟩
              have HLr : Veil (∀ A', Both w d kb sb r (fun _ => False) D1 D1 A' → Calls Try.prog 41 #[.pointer (some ⟨r, 0, none⟩)] A' fun e w' => e = .returned (.tuple #[.agg #[.int .u64 T, .int .u32 A, .int .u32 H, .int .u32 F], .int .i64 C]) ∧ Both w d kb sb r (fun _ => False) D1 D1 w' ∧ Below A'.heap.size A' w') := ⟨fun A' h => by have := b_rload h HF2.out.2.2.2 (by have := HF2.out; have := HN.out; omega) (b_64 h) (by have := HF2.out; omega); rwa [hfm] at this⟩
              clear hfm
              go_wp2_with (first
                | (go_at_call 40; refine (HL.out _ HM1.out).mono ?_; rintro e w8 ⟨rfl, hM8, -⟩; have HM8 : Veil _ := ⟨hM8⟩; clear hM8)
                | (go_at_call 41; refine (HLr.out _ (HM8.out.below (below_al (Below.refl _ _) _))).mono ?_; rintro e w9 ⟨rfl, hM9, hb9⟩; have HM9 : Veil _ := ⟨hM9⟩; obtain ⟨hc9, hf9⟩ := bcell hb9; have hz9 : w8.heap.size < w9.heap.size := (by have := hb9.size; simp at this; omega); clear hM9 hb9))
              go_roundw
              case rel => exact ⟨k + 1, by omega, by go_num, ⟨D1, HM9.out.below (below_al (Below.refl _ _) _), HF2.out.1, by have := HF2.out; omega, by have := HF2.out; omega, HF2.out.2.2.2⟩⟩
              case measure => simp [intOf]; omega
            · have hmin : ∀ W, (Builtin.min_ #[3, 3] 3 #[.int .i64 (s.length : Int), .int .i64 64]).run Try.prog W = .ok (.int .i64 ((min s.length 64 : Nat) : Int)) W := min_int s.length 64
              have hx := take_ext s 64
              obtain ⟨m, hm⟩ : ∃ m, min s.length 64 = m := ⟨_, rfl⟩
              have hmb : m ≤ s.length := by omega
              have hm0 : (0 : Int) ≤ m := by omega
              rw [hm] at hmin hx
              clear hm
              obtain ⟨t, ht⟩ : ∃ t, s.take 64 = t := ⟨_, rfl⟩
              rw [ht] at hx
              clear ht
              have hne1 : (s == []) = false := by simpa using he
              have hne2 : s.isEmpty = false := by simpa using he
              have e0 : ((k : Int)).tmod 2 = ((k % 2 : Nat) : Int) := by rw [Int.tmod_eq_emod_of_nonneg (by omega)]; omega
              have hkk : k % 2 < 2 := Nat.mod_lt _ (by decide)
              obtain ⟨kk, hkq⟩ : ∃ kk, k % 2 = kk := ⟨_, rfl⟩
              rw [hkq] at e0 hkk
              clear hkq
              have e2 : IntKind.i64.wrap (kk : Int) = kk := by rw [IntKind.wrap_i64]; omega
              have e4 : IntKind.i64.wrap (4 * (kk : Int)) = 4 * kk := by rw [IntKind.wrap_i64]; omega
              have HWd : Veil (∀ A', Both w d kb sb r (fun _ => False) D1 D1 A' → Calls Try.prog 38 #[.pointer (some ⟨d, 0, none⟩), .int .i64 (4 * (kk : Int)), .string ⟨t.toArray⟩] A' fun e w' => e = .returned (.int .i64 (D1.wrc (4 * (kk : Int)) t)) ∧ Both w d kb sb r (fun _ => False) (D1.wr (4 * (kk : Int)) t) D1 w') := ⟨fun A' h => b_write h _ t (by have := HF1.out; omega) (by have := HF1.out; omega)⟩
              have HWr : Veil (∀ A', Both w d kb sb r (fun _ => False) (D1.wr (4 * (kk : Int)) t) D1 A' → Calls Try.prog 39 #[.pointer (some ⟨r, 0, none⟩), .int .i64 (4 * (kk : Int)), .string ⟨t.toArray⟩] A' fun e w' => e = .returned (.int .i64 (D1.wrc (4 * (kk : Int)) t)) ∧ Both w d kb sb r (fun _ => False) (D1.wr (4 * (kk : Int)) t) (D1.wr (4 * (kk : Int)) t) w') := ⟨fun A' h => b_rwrite h _ t (by have := HF1.out; omega) (by have := HF1.out; omega)⟩
              have HF2 : Veil ((D1.wr (4 * (kk : Int)) t).kept.length = n ∧ (D1.wr (4 * (kk : Int)) t).uns.length ≤ 2 * k + 2 ∧ (D1.wr (4 * (kk : Int)) t).ops ≤ 2 * k + 2 ∧ (D1.wr (4 * (kk : Int)) t).Inv) := ⟨by rw [wr_len]; exact HF1.out.1, by have := wr_few D1 (4 * (kk : Int)) t; have := HF1.out; omega, by have := wr_few D1 (4 * (kk : Int)) t; have := HF1.out; omega, HF1.out.2.2.2.wr _ _⟩
              generalize D1.wr (4 * (kk : Int)) t = D2 at *
              generalize D1.wrc (4 * (kk : Int)) t = c2 at *
              obtain ⟨T, A, H, F, C, hfm⟩ := loadMV_form D2
              have HL : Veil (∀ A', Both w d kb sb r (fun _ => False) D2 D2 A' → Calls Try.prog 40 #[.pointer (some ⟨d, 0, none⟩)] A' fun e w' => e = .returned (.tuple #[.agg #[.int .u64 T, .int .u32 A, .int .u32 H, .int .u32 F], .int .i64 C]) ∧ Both w d kb sb r (fun _ => False) D2 D2 w' ∧ Below A'.heap.size A' w') := ⟨fun A' h => by have := b_load h; rwa [hfm] at this⟩
              have HLr : Veil (∀ A', Both w d kb sb r (fun _ => False) D2 D2 A' → Calls Try.prog 41 #[.pointer (some ⟨r, 0, none⟩)] A' fun e w' => e = .returned (.tuple #[.agg #[.int .u64 T, .int .u32 A, .int .u32 H, .int .u32 F], .int .i64 C]) ∧ Both w d kb sb r (fun _ => False) D2 D2 w' ∧ Below A'.heap.size A' w') := ⟨fun A' h => by have := b_rload h HF2.out.2.2.2 (by have := HF2.out; have := HN.out; omega) (b_64 h) (by have := HF2.out; omega); rwa [hfm] at this⟩
              clear hfm
              clear hkk
              go_wp2_with fail
              go_quiet (fail)
              go_wp2_with (first
                | (go_at_call 38; refine (HWd.out _ (HM1.out.below (blw_drewN nq (Below.refl _ _)))).mono ?_; rintro e w6 ⟨rfl, hM6⟩; have HM6 : Veil _ := ⟨hM6⟩; clear hM6)
                | (go_at_call 39; refine (HWr.out _ HM6.out).mono ?_; rintro e w7 ⟨rfl, hM7⟩; have HM7 : Veil _ := ⟨hM7⟩; clear hM7)
                | (go_at_call 40; refine (HL.out _ HM7.out).mono ?_; rintro e w8 ⟨rfl, hM8, -⟩; have HM8 : Veil _ := ⟨hM8⟩; clear hM8)
                | (go_at_call 41; refine (HLr.out _ (HM8.out.below (below_al (Below.refl _ _) _))).mono ?_; rintro e w9 ⟨rfl, hM9, hb9⟩; have HM9 : Veil _ := ⟨hM9⟩; obtain ⟨hc9, hf9⟩ := bcell hb9; have hz9 : w8.heap.size < w9.heap.size := (by have := hb9.size; simp at this; omega); clear hM9 hb9))
              go_roundw
              case rel => exact ⟨k + 1, by omega, by go_num, ⟨D2, HM9.out.below (below_al (Below.refl _ _) _), HF2.out.1, by have := HF2.out; omega, by have := HF2.out; omega, HF2.out.2.2.2⟩⟩
              case measure => simp [intOf]; omega
          · have HF2 : Veil (D1.kept.length = n ∧ D1.uns.length ≤ 2 * k + 2 ∧ D1.ops ≤ 2 * k + 2 ∧ D1.Inv) := ⟨HF1.out.1, by have := HF1.out; omega, by have := HF1.out; omega, HF1.out.2.2.2⟩
            obtain ⟨T, A, H, F, C, hfm⟩ := loadMV_form D1
            have HL : Veil (∀ A', Both w d kb sb r (fun _ => False) D1 D1 A' → Calls Try.prog 40 #[.pointer (some ⟨d, 0, none⟩)] A' fun e w' => e = .returned (.tuple #[.agg #[.int .u64 T, .int .u32 A, .int .u32 H, .int .u32 F], .int .i64 C]) ∧ Both w d kb sb r (fun _ => False) D1 D1 w' ∧ Below A'.heap.size A' w') := ⟨fun A' h => by have := b_load h; rwa [hfm] at this⟩
            have HLr : Veil (∀ A', Both w d kb sb r (fun _ => False) D1 D1 A' → Calls Try.prog 41 #[.pointer (some ⟨r, 0, none⟩)] A' fun e w' => e = .returned (.tuple #[.agg #[.int .u64 T, .int .u32 A, .int .u32 H, .int .u32 F], .int .i64 C]) ∧ Both w d kb sb r (fun _ => False) D1 D1 w' ∧ Below A'.heap.size A' w') := ⟨fun A' h => by have := b_rload h HF2.out.2.2.2 (by have := HF2.out; have := HN.out; omega) (b_64 h) (by have := HF2.out; omega); rwa [hfm] at this⟩
            clear hfm
            go_wp2_with (first
              | (go_at_call 40; refine (HL.out _ HM1.out).mono ?_; rintro e w8 ⟨rfl, hM8, -⟩; have HM8 : Veil _ := ⟨hM8⟩; clear hM8)
              | (go_at_call 41; refine (HLr.out _ (HM8.out.below (below_al (Below.refl _ _) _))).mono ?_; rintro e w9 ⟨rfl, hM9, hb9⟩; have HM9 : Veil _ := ⟨hM9⟩; obtain ⟨hc9, hf9⟩ := bcell hb9; have hz9 : w8.heap.size < w9.heap.size := (by have := hb9.size; simp at this; omega); clear hM9 hb9))
            go_roundw
            case rel => exact ⟨k + 1, by omega, by go_num, ⟨D1, HM9.out.below (below_al (Below.refl _ _) _), HF2.out.1, by have := HF2.out; omega, by have := HF2.out; omega, HF2.out.2.2.2⟩⟩
            case measure => simp [intOf]; omega

        · rename Dk => D1
          have HF1 : Veil (D1.kept.length = n ∧ D1.uns.length ≤ 2 * k + 1 ∧ D1.ops ≤ 2 * k + 1 ∧ D1.Inv) := ⟨hkn, by omega, by omega, hinv⟩
          clear hkn hu ho hinv hM hI hw0
          go_wp2_with fail
          go_quiet (fail)
          have HM1 : Veil (Both w d kb sb r (fun _ => False) D1 D1 (wr.drewN nq)) := ⟨HM.out.below (blw_drewN nq (Below.refl _ _))⟩
          generalize wr.drewN nq = W1 at *
          by_cases hb : k < bs.length
          · obtain ⟨b2, off2, rfl, hc2⟩ := HBs.out (by intro h; simp [h] at hb)
            have hc3 := hc2 k bs[k] (List.getElem?_eq_getElem hb)
            generalize bs[k] = s at hc3
            obtain ⟨hsl, hsc⟩ := hc3
            have hs1 : W1.cell? ⟨b2, off2 + k, none⟩ = some (.string ⟨s.toArray⟩) := (World.cell?_of_block (HM1.out.in.block b2 (HQ.out _ rfl))).trans hsc
            clear hc2 hsc
            by_cases he : s = []
            · subst he
              have HF2 : Veil (D1.kept.length = n ∧ D1.uns.length ≤ 2 * k + 2 ∧ D1.ops ≤ 2 * k + 2 ∧ D1.Inv) := ⟨HF1.out.1, by have := HF1.out; omega, by have := HF1.out; omega, HF1.out.2.2.2⟩
              obtain ⟨T, A, H, F, C, hfm⟩ := loadMV_form D1
              have HL : Veil (∀ A', Both w d kb sb r (fun _ => False) D1 D1 A' → Calls Try.prog 40 #[.pointer (some ⟨d, 0, none⟩)] A' fun e w' => e = .returned (.tuple #[.agg #[.int .u64 T, .int .u32 A, .int .u32 H, .int .u32 F], .int .i64 C]) ∧ Both w d kb sb r (fun _ => False) D1 D1 w' ∧ Below A'.heap.size A' w') := ⟨fun A' h => by have := b_load h; rwa [hfm] at this⟩
              have HLr : Veil (∀ A', Both w d kb sb r (fun _ => False) D1 D1 A' → Calls Try.prog 41 #[.pointer (some ⟨r, 0, none⟩)] A' fun e w' => e = .returned (.tuple #[.agg #[.int .u64 T, .int .u32 A, .int .u32 H, .int .u32 F], .int .i64 C]) ∧ Both w d kb sb r (fun _ => False) D1 D1 w' ∧ Below A'.heap.size A' w') := ⟨fun A' h => by have := b_rload h HF2.out.2.2.2 (by have := HF2.out; have := HN.out; omega) (b_64 h) (by have := HF2.out; omega); rwa [hfm] at this⟩
              clear hfm
              go_wp2_with (first
                | (go_at_call 40; refine (HL.out _ HM1.out).mono ?_; rintro e w8 ⟨rfl, hM8, -⟩; have HM8 : Veil _ := ⟨hM8⟩; clear hM8)
                | (go_at_call 41; refine (HLr.out _ (HM8.out.below (below_al (Below.refl _ _) _))).mono ?_; rintro e w9 ⟨rfl, hM9, hb9⟩; have HM9 : Veil _ := ⟨hM9⟩; obtain ⟨hc9, hf9⟩ := bcell hb9; have hz9 : w8.heap.size < w9.heap.size := (by have := hb9.size; simp at this; omega); clear hM9 hb9))
              go_roundw
              case rel => exact ⟨k + 1, by omega, by go_num, ⟨D1, HM9.out.below (below_al (Below.refl _ _) _), HF2.out.1, by have := HF2.out; omega, by have := HF2.out; omega, HF2.out.2.2.2⟩⟩
              case measure => simp [intOf]; omega
            · have hmin : ∀ W, (Builtin.min_ #[3, 3] 3 #[.int .i64 (s.length : Int), .int .i64 64]).run Try.prog W = .ok (.int .i64 ((min s.length 64 : Nat) : Int)) W := min_int s.length 64
              have hx := take_ext s 64
              obtain ⟨m, hm⟩ : ∃ m, min s.length 64 = m := ⟨_, rfl⟩
              have hmb : m ≤ s.length := by omega
              have hm0 : (0 : Int) ≤ m := by omega
              rw [hm] at hmin hx
              clear hm
              obtain ⟨t, ht⟩ : ∃ t, s.take 64 = t := ⟨_, rfl⟩
              rw [ht] at hx
              clear ht
              have hne1 : (s == []) = false := by simpa using he
              have hne2 : s.isEmpty = false := by simpa using he
              have e0 : ((k : Int)).tmod 2 = ((k % 2 : Nat) : Int) := by rw [Int.tmod_eq_emod_of_nonneg (by omega)]; omega
              have hkk : k % 2 < 2 := Nat.mod_lt _ (by decide)
              obtain ⟨kk, hkq⟩ : ∃ kk, k % 2 = kk := ⟨_, rfl⟩
              rw [hkq] at e0 hkk
              clear hkq
              have e2 : IntKind.i64.wrap (kk : Int) = kk := by rw [IntKind.wrap_i64]; omega
              have e4 : IntKind.i64.wrap (4 * (kk : Int)) = 4 * kk := by rw [IntKind.wrap_i64]; omega
              have HWd : Veil (∀ A', Both w d kb sb r (fun _ => False) D1 D1 A' → Calls Try.prog 38 #[.pointer (some ⟨d, 0, none⟩), .int .i64 (4 * (kk : Int)), .string ⟨t.toArray⟩] A' fun e w' => e = .returned (.int .i64 (D1.wrc (4 * (kk : Int)) t)) ∧ Both w d kb sb r (fun _ => False) (D1.wr (4 * (kk : Int)) t) D1 w') := ⟨fun A' h => b_write h _ t (by have := HF1.out; omega) (by have := HF1.out; omega)⟩
              have HWr : Veil (∀ A', Both w d kb sb r (fun _ => False) (D1.wr (4 * (kk : Int)) t) D1 A' → Calls Try.prog 39 #[.pointer (some ⟨r, 0, none⟩), .int .i64 (4 * (kk : Int)), .string ⟨t.toArray⟩] A' fun e w' => e = .returned (.int .i64 (D1.wrc (4 * (kk : Int)) t)) ∧ Both w d kb sb r (fun _ => False) (D1.wr (4 * (kk : Int)) t) (D1.wr (4 * (kk : Int)) t) w') := ⟨fun A' h => b_rwrite h _ t (by have := HF1.out; omega) (by have := HF1.out; omega)⟩
              have HF2 : Veil ((D1.wr (4 * (kk : Int)) t).kept.length = n ∧ (D1.wr (4 * (kk : Int)) t).uns.length ≤ 2 * k + 2 ∧ (D1.wr (4 * (kk : Int)) t).ops ≤ 2 * k + 2 ∧ (D1.wr (4 * (kk : Int)) t).Inv) := ⟨by rw [wr_len]; exact HF1.out.1, by have := wr_few D1 (4 * (kk : Int)) t; have := HF1.out; omega, by have := wr_few D1 (4 * (kk : Int)) t; have := HF1.out; omega, HF1.out.2.2.2.wr _ _⟩
              generalize D1.wr (4 * (kk : Int)) t = D2 at *
              generalize D1.wrc (4 * (kk : Int)) t = c2 at *
              obtain ⟨T, A, H, F, C, hfm⟩ := loadMV_form D2
              have HL : Veil (∀ A', Both w d kb sb r (fun _ => False) D2 D2 A' → Calls Try.prog 40 #[.pointer (some ⟨d, 0, none⟩)] A' fun e w' => e = .returned (.tuple #[.agg #[.int .u64 T, .int .u32 A, .int .u32 H, .int .u32 F], .int .i64 C]) ∧ Both w d kb sb r (fun _ => False) D2 D2 w' ∧ Below A'.heap.size A' w') := ⟨fun A' h => by have := b_load h; rwa [hfm] at this⟩
              have HLr : Veil (∀ A', Both w d kb sb r (fun _ => False) D2 D2 A' → Calls Try.prog 41 #[.pointer (some ⟨r, 0, none⟩)] A' fun e w' => e = .returned (.tuple #[.agg #[.int .u64 T, .int .u32 A, .int .u32 H, .int .u32 F], .int .i64 C]) ∧ Both w d kb sb r (fun _ => False) D2 D2 w' ∧ Below A'.heap.size A' w') := ⟨fun A' h => by have := b_rload h HF2.out.2.2.2 (by have := HF2.out; have := HN.out; omega) (b_64 h) (by have := HF2.out; omega); rwa [hfm] at this⟩
              clear hfm
              clear hkk
              go_wp2_with fail
              go_quiet (fail)
              go_wp2_with (first
                | (go_at_call 38; refine (HWd.out _ (HM1.out.below (blw_drewN nq (Below.refl _ _)))).mono ?_; rintro e w6 ⟨rfl, hM6⟩; have HM6 : Veil _ := ⟨hM6⟩; clear hM6)
                | (go_at_call 39; refine (HWr.out _ HM6.out).mono ?_; rintro e w7 ⟨rfl, hM7⟩; have HM7 : Veil _ := ⟨hM7⟩; clear hM7)
                | (go_at_call 40; refine (HL.out _ HM7.out).mono ?_; rintro e w8 ⟨rfl, hM8, -⟩; have HM8 : Veil _ := ⟨hM8⟩; clear hM8)
                | (go_at_call 41; refine (HLr.out _ (HM8.out.below (below_al (Below.refl _ _) _))).mono ?_; rintro e w9 ⟨rfl, hM9, hb9⟩; have HM9 : Veil _ := ⟨hM9⟩; obtain ⟨hc9, hf9⟩ := bcell hb9; have hz9 : w8.heap.size < w9.heap.size := (by have := hb9.size; simp at this; omega); clear hM9 hb9))
              go_roundw
              case rel => exact ⟨k + 1, by omega, by go_num, ⟨D2, HM9.out.below (below_al (Below.refl _ _) _), HF2.out.1, by have := HF2.out; omega, by have := HF2.out; omega, HF2.out.2.2.2⟩⟩
              case measure => simp [intOf]; omega
          · have HF2 : Veil (D1.kept.length = n ∧ D1.uns.length ≤ 2 * k + 2 ∧ D1.ops ≤ 2 * k + 2 ∧ D1.Inv) := ⟨HF1.out.1, by have := HF1.out; omega, by have := HF1.out; omega, HF1.out.2.2.2⟩
            obtain ⟨T, A, H, F, C, hfm⟩ := loadMV_form D1
            have HL : Veil (∀ A', Both w d kb sb r (fun _ => False) D1 D1 A' → Calls Try.prog 40 #[.pointer (some ⟨d, 0, none⟩)] A' fun e w' => e = .returned (.tuple #[.agg #[.int .u64 T, .int .u32 A, .int .u32 H, .int .u32 F], .int .i64 C]) ∧ Both w d kb sb r (fun _ => False) D1 D1 w' ∧ Below A'.heap.size A' w') := ⟨fun A' h => by have := b_load h; rwa [hfm] at this⟩
            have HLr : Veil (∀ A', Both w d kb sb r (fun _ => False) D1 D1 A' → Calls Try.prog 41 #[.pointer (some ⟨r, 0, none⟩)] A' fun e w' => e = .returned (.tuple #[.agg #[.int .u64 T, .int .u32 A, .int .u32 H, .int .u32 F], .int .i64 C]) ∧ Both w d kb sb r (fun _ => False) D1 D1 w' ∧ Below A'.heap.size A' w') := ⟨fun A' h => by have := b_rload h HF2.out.2.2.2 (by have := HF2.out; have := HN.out; omega) (b_64 h) (by have := HF2.out; omega); rwa [hfm] at this⟩
            clear hfm
            go_wp2_with (first
              | (go_at_call 40; refine (HL.out _ HM1.out).mono ?_; rintro e w8 ⟨rfl, hM8, -⟩; have HM8 : Veil _ := ⟨hM8⟩; clear hM8)
              | (go_at_call 41; refine (HLr.out _ (HM8.out.below (below_al (Below.refl _ _) _))).mono ?_; rintro e w9 ⟨rfl, hM9, hb9⟩; have HM9 : Veil _ := ⟨hM9⟩; obtain ⟨hc9, hf9⟩ := bcell hb9; have hz9 : w8.heap.size < w9.heap.size := (by have := hb9.size; simp at this; omega); clear hM9 hb9))
            go_roundw
            case rel => exact ⟨k + 1, by omega, by go_num, ⟨D1, HM9.out.below (below_al (Below.refl _ _) _), HF2.out.1, by have := HF2.out; omega, by have := HF2.out; omega, HF2.out.2.2.2⟩⟩
            case measure => simp [intOf]; omega
      · obtain ⟨D, hM, -⟩ := hI.out
        go_wp2
        go_ret
        exact ⟨rfl, hM.in⟩
end Go.Proofs.Ytghpcjkjhbafnaa
