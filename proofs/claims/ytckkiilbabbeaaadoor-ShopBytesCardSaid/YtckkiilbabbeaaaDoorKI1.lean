/- Goods: the document's own amount, Right, Count, Same. -/
import Derived.BigQuiet
import Derived.Test.YtckkiilbabbeaaaDoorKI0
namespace Go.Proofs.YtckkiilbabbeaaaDoor
open Go Go.RowKit Sm
attribute [local go_sem] Oper.semAt_some

theorem ret_boolG {a b : Bool} (h : a = b) : Ending.returned (.bool a) = Ending.returned (.bool b) := by rw [h]
theorem elS_at {w : World} {p : Option Addr} {L : List St} (h : Els elS w p L) {k : Nat} (hk : k < L.length) : ∃ b o, p = some ⟨b, o, none⟩ ∧ w.cell? ⟨b, o + k * 2, none⟩ = some (.int .u16 (L.getD k St.zero).item) ∧ w.cell? ⟨b, o + k * 2 + 1, none⟩ = some (.int .i64 (L.getD k St.zero).n) := by
  obtain ⟨b, o, hp, hc⟩ := h (by rintro rfl; simp at hk)
  exact ⟨b, o, hp, hc k 0 hk (by decide), hc k 1 hk (by decide)⟩
theorem bg_drewN {B : Nat} {w w1 : World} (n : Nat) (h : Below B w w1) : Below B w (w1.drewN n) := ⟨h.os, h.tape, h.output, h.size, h.block⟩

theorem refamount_any (n : Int) (w : World) : Calls Tryd.prog 50 #[.int .i64 n] w fun e w' => e = .returned (.bool (amt1 n)) ∧ Below w.heap.size w w' := by
  have HR : Veil _ := ⟨amt1_iff n⟩
  obtain ⟨r, hr⟩ : ∃ r, amt1 n = r := ⟨_, rfl⟩
  rw [hr] at HR ⊢
  clear hr
  go_enter Tryd.func50, Tryd.ntmps50
  go_wp2
  all_goals
    go_ret
    refine ⟨?_, Below.refl _ _⟩
    refine ret_boolG ?_
    have hr := HR.out
    cases r <;> simp at hr ⊢ <;> omega

theorem okAll_take (l : List St) (k : Nat) : (List.range (k + 1)).all (okAt l) = ((List.range k).all (okAt l) && okAt l k) := by
  rw [List.range_succ, List.all_append]
  simp
theorem okAll_out (l : List St) (k : Nat) (h : k < l.length) (hf : okAt l k = false) : rightG l = false := by
  unfold rightG
  rw [Bool.and_eq_false_iff]
  refine .inr ?_
  rw [List.all_eq_false]
  exact ⟨k, List.mem_range.2 h, by rw [hf]; decide⟩

set_option maxRecDepth 20000 in
set_option maxHeartbeats 1000000 in
theorem refrightG_any {w : World} {p : Option Addr} (l : List St) (c : Nat) (h : Els elS w p l) (hl : l.length ≤ 1000000) :
    Calls Tryd.prog 49 #[.slice p l.length c] w fun e w' => e = .returned (.bool (rightG l)) ∧ Below w.heap.size w w' := by
  obtain ⟨r, hr⟩ : ∃ r, rightG l = r := ⟨_, rfl⟩
  have HR : Veil _ := ⟨hr⟩
  rw [hr]
  clear hr
  have HH : Veil _ := ⟨h⟩
  clear h
  by_cases h20 : 20 < l.length
  · have HE : Veil (r = false) := ⟨by rw [← HR.out]; unfold rightG; rw [decide_eq_false (by omega)]; rfl⟩
    go_enter Tryd.func49, Tryd.ntmps49
    go_wp2
    go_ret
    exact ⟨ret_boolG HE.out.symm, Below.refl _ _⟩
  · go_enter Tryd.func49, Tryd.ntmps49
    go_wp2
    go_loopw [3] (fun i wr => ∃ k : Nat, k ≤ l.length ∧ i = .int .i64 k ∧ Veil ((List.range k).all (okAt l) = true ∧ Below w.heap.size w wr)) (fun i _ => l.length - (intOf i).toNat)
    case atStart => exact ⟨0, Nat.zero_le _, rfl, ⟨rfl, Below.refl _ _⟩⟩
    case round =>
      obtain ⟨k, hk, rfl, hJ⟩ := hrel
      by_cases hlt : k < l.length
      · have HT : Veil _ := ⟨okAll_take l k⟩
        have HO : Veil _ := ⟨okAll_out l k hlt⟩
        have HE0 : Veil (okAt l k = (amt1 (l.getD k St.zero).n && (decide (k = 0) || decide ((l.getD (k - 1) St.zero).item < (l.getD k St.zero).item)))) := ⟨rfl⟩
        obtain ⟨b, o, rfl, hc1, hc2⟩ := elS_at (HH.out.below hJ.out.2) hlt
        have HC : Veil _ := ⟨fun w => refamount_any (l.getD k St.zero).n w⟩
        have HCC : Veil (∀ W, Below wr.heap.size wr W → W.cell? ⟨b, o + k * 2, none⟩ = some (.int .u16 (l.getD k St.zero).item)) := ⟨fun W hW => (hW.cell (World.block_lt_of_cell? _ _ hc1)).trans hc1⟩
        by_cases ham : amt1 (l.getD k St.zero).n = true
        · rw [ham] at HC HE0
          by_cases hk0 : k = 0
          · subst hk0
            have HT' : Veil ((List.range (0 + 1)).all (okAt l) = true) := ⟨by rw [HT.out, HE0.out]; rfl⟩
            clear HT HE0 HO ham
            revert HCC; revert HC; revert hc2; revert hc1
            generalize l.getD 0 St.zero = x
            obtain ⟨xi, xn⟩ := x
            dsimp only
            intro hc1 hc2 HC HCC
            rw [Nat.zero_mul, Nat.add_zero] at hc1 hc2
            go_wp2_with (go_at_call 50; refine (HC.out _).mono ?_; rintro e w2 ⟨rfl, hb2⟩)
            go_quiet (fail)
            go_wp2
            refine ⟨⟨1, by omega, by go_num, ⟨HT'.out, bg_drewN _ (bc_then hJ.out.2 hb2)⟩⟩, ?_⟩
            simp only [intOf]; omega
          · have hkk : k - 1 < l.length := by omega
            obtain ⟨b', o', hbo, hd1, -⟩ := elS_at (HH.out.below hJ.out.2) hkk
            simp only [Option.some.injEq, Addr.mk.injEq, and_true] at hbo
            obtain ⟨rfl, rfl⟩ := hbo
            have HDD : Veil (∀ W, Below wr.heap.size wr W → W.cell? ⟨b, o + (k - 1) * 2, none⟩ = some (.int .u16 (l.getD (k - 1) St.zero).item)) := ⟨fun W hW => (hW.cell (World.block_lt_of_cell? _ _ hd1)).trans hd1⟩
            have hk1 : 0 < k := by omega
            rw [decide_eq_false hk0, Bool.false_or, Bool.true_and] at HE0
            have hsub : ((k : Int) - 1) = ((k - 1 : Nat) : Int) := by omega
            clear ham hk0
            revert HDD; revert HCC; revert HE0; revert HC; revert hd1; revert hc2; revert hc1
            generalize l.getD k St.zero = x
            generalize l.getD (k - 1) St.zero = y
            obtain ⟨xi, xn⟩ := x
            obtain ⟨yi, yn⟩ := y
            dsimp only
            intro hc1 hc2 hd1 HC HE0 HCC HDD
            obtain ⟨k', hk'⟩ : ∃ k', k - 1 = k' := ⟨_, rfl⟩
            rw [hk'] at hsub hd1 HDD
            by_cases hxy : yi < xi
            · have HT' : Veil ((List.range (k + 1)).all (okAt l) = true) := ⟨by rw [HT.out, hJ.out.1, HE0.out, decide_eq_true hxy]; rfl⟩
              clear HT HE0 HO hk' hkk
              go_wp2_with (go_at_call 50; refine (HC.out _).mono ?_; rintro e w2 ⟨rfl, hb2⟩; have g1 := HCC.out _ hb2; have g2 := HDD.out _ hb2)
              go_quiet (fail)
              go_wp2
              refine ⟨⟨k + 1, by omega, by go_num, ⟨HT'.out, bg_drewN _ (bc_then hJ.out.2 hb2)⟩⟩, ?_⟩
              simp only [intOf]; omega
            · have HF : Veil (r = false) := ⟨by rw [← HR.out]; exact HO.out (by rw [HE0.out, decide_eq_false hxy])⟩
              clear HT HE0 HO hk' hkk
              go_wp2_with (go_at_call 50; refine (HC.out _).mono ?_; rintro e w2 ⟨rfl, hb2⟩; have g1 := HCC.out _ hb2; have g2 := HDD.out _ hb2)
              go_quiet (fail)
              go_wp2
              go_ret
              exact ⟨ret_boolG HF.out.symm, bg_drewN _ (bc_then hJ.out.2 hb2)⟩
        · have haf : amt1 (l.getD k St.zero).n = false := by simpa using ham
          rw [haf] at HC HE0
          have HF : Veil (r = false) := ⟨by rw [← HR.out]; exact HO.out (by rw [HE0.out]; rfl)⟩
          clear HT HE0 HO ham haf
          revert HCC; revert HC; revert hc2; revert hc1
          generalize l.getD k St.zero = x
          obtain ⟨xi, xn⟩ := x
          dsimp only
          intro hc1 hc2 HC HCC
          go_wp2_with (go_at_call 50; refine (HC.out _).mono ?_; rintro e w2 ⟨rfl, hb2⟩)
          go_quiet (fail)
          go_wp2
          go_ret
          exact ⟨ret_boolG HF.out.symm, bg_drewN _ (bc_then hJ.out.2 hb2)⟩
      · obtain rfl : k = l.length := by omega
        have HF : Veil (r = true) := ⟨by rw [← HR.out]; unfold rightG; rw [decide_eq_true (by omega), hJ.out.1]; rfl⟩
        go_wp2
        go_ret
        exact ⟨ret_boolG HF.out.symm, hJ.out.2⟩
end Go.Proofs.YtckkiilbabbeaaaDoor

/- Goods: the document's own Count, Same. -/
namespace Go.Proofs.YtckkiilbabbeaaaDoor
open Go Go.RowKit Sm
attribute [local go_sem] Oper.semAt_some

theorem drop_getD (l : List St) (k : Nat) (h : k < l.length) : l.drop k = l.getD k St.zero :: l.drop (k + 1) := by
  rw [List.drop_eq_getElem_cons h]
  simp [List.getD, h]
set_option maxRecDepth 20000 in
set_option maxHeartbeats 1000000 in
theorem refcountG_any {w : World} {p : Option Addr} (l : List St) (c : Nat) (item : Nat) (h : Els elS w p l) (hl : l.length ≤ 1000000) :
    Calls Tryd.prog 24 #[.slice p l.length c, .int .u16 item] w fun e w' => e = .returned (.int .i64 (countG l item)) ∧ Below w.heap.size w w' := by
  obtain ⟨r, hr⟩ : ∃ r, countG l item = r := ⟨_, rfl⟩
  have HR : Veil _ := ⟨hr⟩
  rw [hr]
  clear hr
  have HH : Veil _ := ⟨h⟩
  clear h
  go_enter Tryd.func24, Tryd.ntmps24
  go_wp2
  go_loopw [5] (fun i wr => ∃ k : Nat, k ≤ l.length ∧ i = .int .i64 k ∧ Veil (countG (l.drop k) item = countG l item ∧ Below w.heap.size w wr)) (fun i _ => l.length - (intOf i).toNat)
  case atStart => exact ⟨0, Nat.zero_le _, rfl, ⟨rfl, Below.refl _ _⟩⟩
  case round =>
    obtain ⟨k, hk, rfl, hJ⟩ := hrel
    by_cases hlt : k < l.length
    · have HD : Veil _ := ⟨drop_getD l k hlt⟩
      have HJ : Veil (countG (l.getD k St.zero :: l.drop (k + 1)) item = countG l item) := ⟨by rw [← HD.out]; exact hJ.out.1⟩
      obtain ⟨b, o, rfl, hc1, hc2⟩ := elS_at (HH.out.below hJ.out.2) hlt
      revert HJ; revert hc2; revert hc1
      clear HD
      generalize l.getD k St.zero = x
      obtain ⟨xi, xn⟩ := x
      dsimp only
      intro hc1 hc2 HJ
      by_cases hx : xi = item
      · subst hx
        have HF : Veil (r = xn) := ⟨by have := HJ.out; rw [count_cons, if_pos rfl] at this; rw [← HR.out, ← this]⟩
        go_wp2
        try go_quiet (fail)
        try go_wp2
        go_ret
        exact ⟨by rw [HF.out]; rfl, by first | exact hJ.out.2 | exact bg_drewN _ hJ.out.2⟩
      · have HF : Veil (countG (l.drop (k + 1)) item = countG l item) := ⟨by have := HJ.out; rw [count_cons, if_neg hx] at this; exact this⟩
        have hxi : ¬ (xi : Int) = item := by omega
        clear HJ hx
        go_wp2
        try go_quiet (fail)
        try go_wp2
        refine ⟨⟨k + 1, by omega, by go_num, ⟨HF.out, by first | exact hJ.out.2 | exact bg_drewN _ hJ.out.2⟩⟩, ?_⟩
        simp only [intOf]; omega
    · obtain rfl : k = l.length := by omega
      have HF : Veil (r = 0) := ⟨by have := hJ.out.1; rw [List.drop_length] at this; rw [← HR.out, ← this]; rfl⟩
      go_wp2
      go_ret
      exact ⟨by rw [HF.out]; rfl, hJ.out.2⟩

theorem take_nextS {a b : List St} {m : Nat} (h1 : m < a.length) (h2 : m < b.length) (h : a.take m = b.take m) (he : a.getD m St.zero = b.getD m St.zero) : a.take (m + 1) = b.take (m + 1) := by
  rw [List.take_add_one, List.take_add_one, h]
  have e1 : a[m]? = some (a.getD m St.zero) := by simp [List.getD, h1]
  have e2 : b[m]? = some (b.getD m St.zero) := by simp [List.getD, h2]
  rw [e1, e2, he]
/-- Are two goods the same? -/
def sameG (a b : List St) : Bool := decide (a.length = b.length) && (List.range a.length).all fun i => decide ((a.getD i St.zero).item = (b.getD i St.zero).item) && decide ((a.getD i St.zero).n = (b.getD i St.zero).n)
theorem sameG_iff (a b : List St) : sameG a b = true ↔ a = b := by
  unfold sameG
  constructor
  · intro h
    rw [Bool.and_eq_true, decide_eq_true_iff, List.all_eq_true] at h
    obtain ⟨h1, h2⟩ := h
    refine List.ext_getElem h1 fun i hi hi' => ?_
    have := h2 i (List.mem_range.2 hi)
    rw [Bool.and_eq_true, decide_eq_true_iff, decide_eq_true_iff] at this
    have e1 : a.getD i St.zero = a[i] := by simp [List.getD, hi]
    have e2 : b.getD i St.zero = b[i] := by simp [List.getD, hi']
    rw [e1, e2] at this
    obtain ⟨p, q⟩ := this
    cases ha : a[i]
    cases hb : b[i]
    rw [ha, hb] at p q
    dsimp only at p q
    rw [p, q]
  · rintro rfl
    simp
theorem St.apart {x y : St} (h : x ≠ y) : (x.item : Int) ≠ (y.item : Int) ∨ x.item = y.item ∧ x.n ≠ y.n := by
  obtain ⟨a, b⟩ := x
  obtain ⟨c, d⟩ := y
  dsimp only
  by_cases h1 : a = c
  · subst h1
    by_cases h2 : b = d
    · subst h2; exact absurd rfl h
    · exact .inr ⟨rfl, h2⟩
  · exact .inl (by omega)

set_option maxRecDepth 20000 in
set_option maxHeartbeats 1000000 in
theorem refsameG_any {w : World} {p q : Option Addr} (a b : List St) (ca cb : Nat) (ha : Els elS w p a) (hb : Els elS w q b) (hl : a.length ≤ 1000000) (_ : b.length ≤ 1000000) :
    Calls Tryd.prog 23 #[.slice p a.length ca, .slice q b.length cb] w fun e w' => e = .returned (.bool (sameG a b)) ∧ Below w.heap.size w w' := by
  obtain ⟨r, hr⟩ : ∃ r, sameG a b = r := ⟨_, rfl⟩
  have HR : Veil (r = true ↔ a = b) := ⟨by rw [← hr]; exact sameG_iff a b⟩
  rw [hr]
  clear hr
  have HF : Veil (a ≠ b → r = false) := ⟨fun h => by cases r with | false => rfl | true => exact absurd (HR.out.1 rfl) h⟩
  by_cases hlen : a.length = b.length
  · have HA : Veil _ := ⟨ha⟩
    have HB : Veil _ := ⟨hb⟩
    have HL : Veil _ := ⟨hlen⟩
    clear ha hb
    rw [← hlen]
    clear hlen
    go_enter Tryd.func23, Tryd.ntmps23
    go_wp2
    go_loopw [5] (fun i wr => ∃ k : Nat, k ≤ a.length ∧ i = .int .i64 k ∧ Veil (a.take k = b.take k ∧ Below w.heap.size w wr)) (fun i _ => a.length - (intOf i).toNat)
    case atStart => exact ⟨0, Nat.zero_le _, rfl, ⟨rfl, Below.refl _ _⟩⟩
    case round =>
      obtain ⟨k, hk, rfl, hJ⟩ := hrel
      by_cases hlt : k < a.length
      · obtain ⟨b1, o1, rfl, hc1, hc2⟩ := elS_at (HA.out.below hJ.out.2) hlt
        obtain ⟨b2, o2, rfl, hd1, hd2⟩ := elS_at (HB.out.below hJ.out.2) (by have := HL.out; omega : k < b.length)
        have HT : Veil _ := ⟨take_nextS hlt (by have := HL.out; omega : k < b.length) hJ.out.1⟩
        have HD : Veil (a.getD k St.zero ≠ b.getD k St.zero → r = false) := ⟨fun h => HF.out fun e => h (by rw [e])⟩
        revert HD; revert HT; revert hd2; revert hd1; revert hc2; revert hc1
        generalize a.getD k St.zero = x
        generalize b.getD k St.zero = y
        intro hc1 hc2 hd1 hd2 HT HD
        by_cases hxy : x = y
        · subst hxy
          have HT' : Veil _ := ⟨HT.out rfl⟩
          clear HT HD
          obtain ⟨xi, xn⟩ := x
          dsimp only at hc1 hc2 hd1 hd2
          go_wp2
          go_quiet (fail)
          go_wp2
          refine ⟨⟨k + 1, by omega, by go_num, ⟨HT'.out, bg_drewN _ hJ.out.2⟩⟩, ?_⟩
          simp only [intOf]; omega
        · have e1 := HD.out hxy
          subst e1
          have hap := St.apart hxy
          clear HT HD hxy
          obtain ⟨xi, xn⟩ := x
          obtain ⟨yi, yn⟩ := y
          dsimp only at hc1 hc2 hd1 hd2 hap
          rcases hap with hap | ⟨rfl, hap⟩
          · go_wp2
            go_quiet (fail)
            go_wp2
            go_ret
            exact ⟨rfl, bg_drewN _ hJ.out.2⟩
          · go_wp2
            go_quiet (fail)
            go_wp2
            go_ret
            exact ⟨rfl, bg_drewN _ hJ.out.2⟩
      · have e1 : r = true := by
          rw [HR.out]
          have h := hJ.out.1
          have hl := HL.out
          rw [List.take_of_length_le (by omega), List.take_of_length_le (by omega)] at h
          exact h
        subst e1
        go_wp2
        go_ret
        exact ⟨rfl, hJ.out.2⟩
  · have e1 := HF.out (fun h => hlen (by rw [h]))
    subst e1
    go_enter Tryd.func23, Tryd.ntmps23
    go_wp2
    go_ret
    exact ⟨rfl, Below.refl _ _⟩
end Go.Proofs.YtckkiilbabbeaaaDoor
