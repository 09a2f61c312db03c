/- Goods: the document's own Give, Take, Move. -/
import Derived.OwnWalk
import Derived.Test.YtecalafjfbgbcaaDoorKI3
import Derived.Test.YtecalafjfbgbcaaDoorKCZ
import Derived.Test.YtecalafjfbgbcaaDoorKG
namespace Go.Proofs.YtecalafjfbgbcaaDoor
open Go Go.RowKit Sm
attribute [local go_sem] Oper.semAt_some

def GoodsPost (w : World) (L : List St) (c : Int) (e : Ending) (w' : World) : Prop := ∃ v, e = .returned (.tuple #[v, .int .i64 c]) ∧ FreshE elS w.heap.size w' v L ∧ Below w.heap.size w w'
def GoodsPost2 (w : World) (L M : List St) (c : Int) (e : Ending) (w' : World) : Prop := ∃ v u, e = .returned (.tuple #[v, u, .int .i64 c]) ∧ FreshE elS w.heap.size w' v L ∧ FreshE elS w.heap.size w' u M ∧ Below w.heap.size w w'
theorem FreshE.form {α : Type} {E : El α} {B : Nat} {w : World} {v : Value} {L : List α} (h : FreshE E B w v L) : ∃ p c, v = .slice p L.length c ∧ Els E w p L ∧ L.length ≤ c := by
  obtain ⟨p, c, h1, h2, h3, -⟩ := h
  exact ⟨p, c, h1, h2, h3.le⟩
theorem InL.below {α : Type} {E : El α} {w w' : World} {p : Option Addr} {L : List α} {c : Nat} (h : InL E w p L c) (hb : Below w.heap.size w w') : InL E w' p L c := ⟨h.els.below hb, h.spot, h.nil0, h.le, h.cap⟩
theorem InL.ok {α : Type} {E : El α} {w : World} {p : Option Addr} {L : List α} {c : Nat} (h : InL E w p L c) : SlOk p L.length c := ⟨h.le, h.cap, h.nil0, h.spot⟩
theorem FreshE.formI {α : Type} {E : El α} {B : Nat} {w : World} {v : Value} {L : List α} (h : FreshE E B w v L) : ∃ p c, v = .slice p L.length c ∧ InL E w p L c ∧ L.length ≤ c := by
  obtain ⟨p, c, h1, h2, h3, -⟩ := h
  exact ⟨p, c, h1, ⟨h2, h3.spot, h3.none, h3.le, h3.few⟩, h3.le⟩
theorem countG_le (l : List St) (i : Nat) (h : rightG l = true) : 0 ≤ countG l i ∧ countG l i ≤ 1152921504606846976 := by
  rcases goods_parts l i ((rightG_iff l).1 h) with ⟨h1, -⟩ | ⟨h1, h2, -⟩
  · rw [h1]; omega
  · omega

set_option maxRecDepth 20000 in
set_option maxHeartbeats 2000000 in
theorem refgiveG_any {w : World} {p : Option Addr} (l : List St) (c : Nat) (s : St) (h : Els elS w p l) (hl : l.length ≤ 1000) (hs : I64 s.n) :
    Calls Tryd.prog 12 #[.slice p l.length c, s.v] w (GoodsPost w (giveG l s).1 (giveG l s).2) := by
  obtain ⟨R, hR⟩ : ∃ R, giveG l s = R := ⟨_, rfl⟩
  have HR : Veil _ := ⟨hR⟩
  rw [hR]
  clear hR
  obtain ⟨L, ec⟩ := R
  obtain ⟨si, sn⟩ := s
  unfold St.v
  dsimp only at *
  have HE : Veil (∀ W, Below (w.alloc (.cells #[.int .u16 si, .int .i64 sn] 25)).heap.size (w.alloc (.cells #[.int .u16 si, .int .i64 sn] 25)) W → Els elS W p l ∧ W.cell? ⟨w.heap.size, 0, none⟩ = some (.int .u16 si) ∧ W.cell? ⟨w.heap.size, 1, none⟩ = some (.int .i64 sn)) := ⟨fun W hW => by
    have hc : ∀ o, (w.alloc (.cells #[.int .u16 si, .int .i64 sn] 25)).cell? ⟨w.heap.size, o, none⟩ = [Value.int .u16 si, Value.int .i64 sn][o]? := fun o => cell_whole (heap_alloc_new _ _) o
    refine ⟨(h.below (below_al (Below.refl _ _) _)).below hW, ?_, ?_⟩
    · exact (hW.cell (World.block_lt_of_cell? _ _ (hc 0))).trans (hc 0)
    · exact (hW.cell (World.block_lt_of_cell? _ _ (hc 1))).trans (hc 1)⟩
  have HW : Veil (Below w.heap.size w (w.alloc (.cells #[.int .u16 si, .int .i64 sn] 25)) ∧ w.heap.size ≤ (w.alloc (.cells #[.int .u16 si, .int .i64 sn] 25)).heap.size) := ⟨below_al (Below.refl _ _) _, by simp⟩
  have HRt : Veil (∀ W, Below (w.alloc (.cells #[.int .u16 si, .int .i64 sn] 25)).heap.size (w.alloc (.cells #[.int .u16 si, .int .i64 sn] 25)) W → Calls Tryd.prog 18 #[.slice p l.length c] W fun e w' => e = .returned (.bool (rightG l)) ∧ Below W.heap.size W w') := ⟨fun W hW => refrightG_any l c (HE.out W hW).1 (by omega)⟩
  have HA : Veil _ := ⟨fun w => refamount_any sn w⟩
  have HCt : Veil (∀ W, Below (w.alloc (.cells #[.int .u16 si, .int .i64 sn] 25)).heap.size (w.alloc (.cells #[.int .u16 si, .int .i64 sn] 25)) W → Calls Tryd.prog 20 #[.slice p l.length c, .int .u16 si] W fun e w' => e = .returned (.int .i64 (countG l si)) ∧ Below W.heap.size W w') := ⟨fun W hW => refcountG_any l c si (HE.out W hW).1 (by omega)⟩
  have HWi : Veil (∀ (n : Int) W, Below (w.alloc (.cells #[.int .u16 si, .int .i64 sn] 25)).heap.size (w.alloc (.cells #[.int .u16 si, .int .i64 sn] 25)) W → Calls Tryd.prog 25 #[.slice p l.length c, .agg #[.int .u16 si, .int .i64 n]] W (FreshPost elS W (withG l ⟨si, n⟩))) := ⟨fun n W hW => refwithG_any l c ⟨si, n⟩ (HE.out W hW).1 hl⟩
  have h0 : Below (w.alloc (.cells #[.int .u16 si, .int .i64 sn] 25)).heap.size (w.alloc (.cells #[.int .u16 si, .int .i64 sn] 25)) (w.alloc (.cells #[.int .u16 si, .int .i64 sn] 25)) := Below.refl _ _
  clear h
  by_cases hr : rightG l = true
  · by_cases ha : amt1 sn = true
    · obtain ⟨n0, n1⟩ := countG_le l si hr
      have ha2 := (amt1_iff sn).1 ha
      obtain ⟨a0, a1⟩ := ha2
      rw [hr] at HRt
      rw [ha] at HA
      obtain ⟨N, hN⟩ : ∃ N, countG l si = N := ⟨_, rfl⟩
      rw [hN] at n0 n1 HCt
      have HN : Veil _ := ⟨hN⟩
      have HRT : Veil (rightG l = true ∧ amt1 sn = true) := ⟨hr, ha⟩
      clear hr ha hN
      by_cases hov : N + sn ≤ 1152921504606846976
      · by_cases hfull : N = 0 ∧ l.length = 20
        · have HX : Veil (L = [] ∧ ec = 121) := ⟨by have h := HR.out; unfold giveG at h; rw [if_pos (by rw [HRT.out.1, HRT.out.2]; rfl), HN.out, if_pos hov, if_pos hfull] at h; simp only [Prod.mk.injEq] at h; exact ⟨h.1.symm, h.2.symm⟩⟩
          obtain ⟨e1, e2⟩ := HX.out
          subst e1 e2
          obtain ⟨f1, f2⟩ := hfull
          subst f1
          have f3 : ((l.length : Int) == 20) = true := by rw [f2]; rfl
          clear f2
          clear HN HR HX HWi
          go_enter Tryd.func12, Tryd.ntmps12
          go_wp2_with (first
            | (go_at_call 20; (with_reducible refine (HCt.out _ h0).mono ?_); rintro e w4 ⟨rfl, hb4⟩; have h0 := bc_then h0 hb4; obtain ⟨-, c0, c1⟩ := HE.out _ h0)
            | (go_at_call 24; refine (HA.out _).mono ?_; rintro e w3 ⟨rfl, hb3⟩; have h0 := bc_then h0 hb3; obtain ⟨-, c0, c1⟩ := HE.out _ h0)
            | (go_at_call 18; (with_reducible refine (HRt.out _ h0).mono ?_); rintro e w2 ⟨rfl, hb2⟩; have h0 := bc_then h0 hb2; obtain ⟨-, c0, c1⟩ := HE.out _ h0))
          go_ret2
          exact ⟨_, rfl, FreshE.nil _ _ _, bc_then HW.out.1 h0⟩
        · have HX : Veil (withG l ⟨si, N + sn⟩ = L ∧ ec = 0) := ⟨by have h := HR.out; unfold giveG at h; rw [if_pos (by rw [HRT.out.1, HRT.out.2]; rfl), HN.out, if_pos hov, if_neg hfull] at h; simp only [Prod.mk.injEq] at h; exact ⟨h.1, h.2.symm⟩⟩
          have HY : Veil _ := ⟨HX.out.1⟩
          have e2 := HX.out.2
          subst e2
          clear HN HR HX
          by_cases hz : N = 0
          · have h20 : ¬ l.length = 20 := fun h => hfull ⟨hz, h⟩
            have h20' : ¬ (l.length : Int) = 20 := by omega
            subst hz
            rw [Int.zero_add] at HY
            clear hfull h20
            go_enter Tryd.func12, Tryd.ntmps12
            go_wp2_with (first
              | (go_at_call 25; (with_reducible refine (HWi.out _ _ h0).mono ?_); rintro e w5 ⟨v5, rfl, hF, hb5⟩; have hsz := h0.size; have h0 := bc_then h0 hb5; have HF : Veil _ := ⟨hF⟩; clear hF)
              | (go_at_call 20; (with_reducible refine (HCt.out _ h0).mono ?_); rintro e w4 ⟨rfl, hb4⟩; have h0 := bc_then h0 hb4; obtain ⟨-, c0, c1⟩ := HE.out _ h0)
              | (go_at_call 24; refine (HA.out _).mono ?_; rintro e w3 ⟨rfl, hb3⟩; have h0 := bc_then h0 hb3; obtain ⟨-, c0, c1⟩ := HE.out _ h0)
              | (go_at_call 18; (with_reducible refine (HRt.out _ h0).mono ?_); rintro e w2 ⟨rfl, hb2⟩; have h0 := bc_then h0 hb2; obtain ⟨-, c0, c1⟩ := HE.out _ h0))
            go_ret2
            exact ⟨_, rfl, by have h := HF.out; rw [HY.out] at h; exact h.base (Nat.le_trans HW.out.2 hsz), bc_then HW.out.1 h0⟩
          · clear hfull
            go_enter Tryd.func12, Tryd.ntmps12
            go_wp2_with (first
              | (go_at_call 25; (with_reducible refine (HWi.out _ _ h0).mono ?_); rintro e w5 ⟨v5, rfl, hF, hb5⟩; have hsz := h0.size; have h0 := bc_then h0 hb5; have HF : Veil _ := ⟨hF⟩; clear hF)
              | (go_at_call 20; (with_reducible refine (HCt.out _ h0).mono ?_); rintro e w4 ⟨rfl, hb4⟩; have h0 := bc_then h0 hb4; obtain ⟨-, c0, c1⟩ := HE.out _ h0)
              | (go_at_call 24; refine (HA.out _).mono ?_; rintro e w3 ⟨rfl, hb3⟩; have h0 := bc_then h0 hb3; obtain ⟨-, c0, c1⟩ := HE.out _ h0)
              | (go_at_call 18; (with_reducible refine (HRt.out _ h0).mono ?_); rintro e w2 ⟨rfl, hb2⟩; have h0 := bc_then h0 hb2; obtain ⟨-, c0, c1⟩ := HE.out _ h0))
            go_ret2
            exact ⟨_, rfl, by have h := HF.out; rw [HY.out] at h; exact h.base (Nat.le_trans HW.out.2 hsz), bc_then HW.out.1 h0⟩
      · have HX : Veil (L = [] ∧ ec = 111) := ⟨by have h := HR.out; unfold giveG at h; rw [if_pos (by rw [HRT.out.1, HRT.out.2]; rfl), HN.out, if_neg hov] at h; simp only [Prod.mk.injEq] at h; exact ⟨h.1.symm, h.2.symm⟩⟩
        obtain ⟨e1, e2⟩ := HX.out
        subst e1 e2
        clear HN HR HX HWi
        go_enter Tryd.func12, Tryd.ntmps12
        go_wp2_with (first
          | (go_at_call 20; (with_reducible refine (HCt.out _ h0).mono ?_); rintro e w4 ⟨rfl, hb4⟩; have h0 := bc_then h0 hb4; obtain ⟨-, c0, c1⟩ := HE.out _ h0)
          | (go_at_call 24; refine (HA.out _).mono ?_; rintro e w3 ⟨rfl, hb3⟩; have h0 := bc_then h0 hb3; obtain ⟨-, c0, c1⟩ := HE.out _ h0)
          | (go_at_call 18; (with_reducible refine (HRt.out _ h0).mono ?_); rintro e w2 ⟨rfl, hb2⟩; have h0 := bc_then h0 hb2; obtain ⟨-, c0, c1⟩ := HE.out _ h0))
        go_ret2
        exact ⟨_, rfl, FreshE.nil _ _ _, bc_then HW.out.1 h0⟩
    · have haf : amt1 sn = false := by simpa using ha
      have HX : Veil (L = [] ∧ ec = 120) := ⟨by have h := HR.out; unfold giveG at h; rw [if_neg (by simp [haf])] at h; simp only [Prod.mk.injEq] at h; exact ⟨h.1.symm, h.2.symm⟩⟩
      obtain ⟨e1, e2⟩ := HX.out
      subst e1 e2
      rw [hr] at HRt
      rw [haf] at HA
      clear ha haf hr HCt HWi HR
      go_enter Tryd.func12, Tryd.ntmps12
      go_wp2_with (first
        | (go_at_call 20; (with_reducible refine (HCt.out _ h0).mono ?_); rintro e w4 ⟨rfl, hb4⟩; have h0 := bc_then h0 hb4; obtain ⟨-, c0, c1⟩ := HE.out _ h0)
        | (go_at_call 24; refine (HA.out _).mono ?_; rintro e w3 ⟨rfl, hb3⟩; have h0 := bc_then h0 hb3; obtain ⟨-, c0, c1⟩ := HE.out _ h0)
        | (go_at_call 18; (with_reducible refine (HRt.out _ h0).mono ?_); rintro e w2 ⟨rfl, hb2⟩; have h0 := bc_then h0 hb2; obtain ⟨-, c0, c1⟩ := HE.out _ h0))
      go_ret2
      exact ⟨_, rfl, FreshE.nil _ _ _, bc_then HW.out.1 h0⟩
  · have hrf : rightG l = false := by simpa using hr
    have HX : Veil (L = [] ∧ ec = 120) := ⟨by have h := HR.out; unfold giveG at h; rw [if_neg (by simp [hrf])] at h; simp only [Prod.mk.injEq] at h; exact ⟨h.1.symm, h.2.symm⟩⟩
    obtain ⟨e1, e2⟩ := HX.out
    subst e1 e2
    rw [hrf] at HRt
    clear hr hrf HCt HWi HR
    generalize amt1 sn = am at HA
    go_enter Tryd.func12, Tryd.ntmps12
    go_wp2_with (first
      | (go_at_call 20; (with_reducible refine (HCt.out _ h0).mono ?_); rintro e w4 ⟨rfl, hb4⟩; have h0 := bc_then h0 hb4; obtain ⟨-, c0, c1⟩ := HE.out _ h0)
      | (go_at_call 24; refine (HA.out _).mono ?_; rintro e w3 ⟨rfl, hb3⟩; have h0 := bc_then h0 hb3; obtain ⟨-, c0, c1⟩ := HE.out _ h0)
      | (go_at_call 18; (with_reducible refine (HRt.out _ h0).mono ?_); rintro e w2 ⟨rfl, hb2⟩; have h0 := bc_then h0 hb2; obtain ⟨-, c0, c1⟩ := HE.out _ h0))
    go_ret2
    exact ⟨_, rfl, FreshE.nil _ _ _, bc_then HW.out.1 h0⟩

set_option maxRecDepth 20000 in
set_option maxHeartbeats 2000000 in
theorem reftakeG_any {w : World} {p : Option Addr} (l : List St) (c : Nat) (s : St) (h : Els elS w p l) (hl : l.length ≤ 1000) (hs : I64 s.n) :
    Calls Tryd.prog 14 #[.slice p l.length c, s.v] w (GoodsPost w (takeG l s).1 (takeG l s).2) := by
  obtain ⟨R, hR⟩ : ∃ R, takeG l s = R := ⟨_, rfl⟩
  have HR : Veil _ := ⟨hR⟩
  rw [hR]
  clear hR
  obtain ⟨L, ec⟩ := R
  obtain ⟨si, sn⟩ := s
  unfold St.v
  dsimp only at *
  have HE : Veil (∀ W, Below (w.alloc (.cells #[.int .u16 si, .int .i64 sn] 25)).heap.size (w.alloc (.cells #[.int .u16 si, .int .i64 sn] 25)) W → Els elS W p l ∧ W.cell? ⟨w.heap.size, 0, none⟩ = some (.int .u16 si) ∧ W.cell? ⟨w.heap.size, 1, none⟩ = some (.int .i64 sn)) := ⟨fun W hW => by
    have hc : ∀ o, (w.alloc (.cells #[.int .u16 si, .int .i64 sn] 25)).cell? ⟨w.heap.size, o, none⟩ = [Value.int .u16 si, Value.int .i64 sn][o]? := fun o => cell_whole (heap_alloc_new _ _) o
    refine ⟨(h.below (below_al (Below.refl _ _) _)).below hW, ?_, ?_⟩
    · exact (hW.cell (World.block_lt_of_cell? _ _ (hc 0))).trans (hc 0)
    · exact (hW.cell (World.block_lt_of_cell? _ _ (hc 1))).trans (hc 1)⟩
  have HW : Veil (Below w.heap.size w (w.alloc (.cells #[.int .u16 si, .int .i64 sn] 25)) ∧ w.heap.size ≤ (w.alloc (.cells #[.int .u16 si, .int .i64 sn] 25)).heap.size) := ⟨below_al (Below.refl _ _) _, by simp⟩
  have HRt : Veil (∀ W, Below (w.alloc (.cells #[.int .u16 si, .int .i64 sn] 25)).heap.size (w.alloc (.cells #[.int .u16 si, .int .i64 sn] 25)) W → Calls Tryd.prog 18 #[.slice p l.length c] W fun e w' => e = .returned (.bool (rightG l)) ∧ Below W.heap.size W w') := ⟨fun W hW => refrightG_any l c (HE.out W hW).1 (by omega)⟩
  have HA : Veil _ := ⟨fun w => refamount_any sn w⟩
  have HCt : Veil (∀ W, Below (w.alloc (.cells #[.int .u16 si, .int .i64 sn] 25)).heap.size (w.alloc (.cells #[.int .u16 si, .int .i64 sn] 25)) W → Calls Tryd.prog 20 #[.slice p l.length c, .int .u16 si] W fun e w' => e = .returned (.int .i64 (countG l si)) ∧ Below W.heap.size W w') := ⟨fun W hW => refcountG_any l c si (HE.out W hW).1 (by omega)⟩
  have HWi : Veil (∀ (n : Int) W, Below (w.alloc (.cells #[.int .u16 si, .int .i64 sn] 25)).heap.size (w.alloc (.cells #[.int .u16 si, .int .i64 sn] 25)) W → Calls Tryd.prog 25 #[.slice p l.length c, .agg #[.int .u16 si, .int .i64 n]] W (FreshPost elS W (withG l ⟨si, n⟩))) := ⟨fun n W hW => refwithG_any l c ⟨si, n⟩ (HE.out W hW).1 hl⟩
  have h0 : Below (w.alloc (.cells #[.int .u16 si, .int .i64 sn] 25)).heap.size (w.alloc (.cells #[.int .u16 si, .int .i64 sn] 25)) (w.alloc (.cells #[.int .u16 si, .int .i64 sn] 25)) := Below.refl _ _
  clear h
  by_cases hr : rightG l = true
  · by_cases ha : amt1 sn = true
    · obtain ⟨n0, n1⟩ := countG_le l si hr
      have ha2 := (amt1_iff sn).1 ha
      obtain ⟨a0, a1⟩ := ha2
      rw [hr] at HRt
      rw [ha] at HA
      obtain ⟨N, hN⟩ : ∃ N, countG l si = N := ⟨_, rfl⟩
      rw [hN] at n0 n1 HCt
      have HN : Veil _ := ⟨hN⟩
      have HRT : Veil (rightG l = true ∧ amt1 sn = true) := ⟨hr, ha⟩
      clear hr ha hN
      by_cases hst : sn ≤ N
      · have HX : Veil (withG l ⟨si, N - sn⟩ = L ∧ ec = 0) := ⟨by have h := HR.out; unfold takeG at h; rw [if_pos (by rw [HRT.out.1, HRT.out.2]; rfl), HN.out, if_pos hst] at h; simp only [Prod.mk.injEq] at h; exact ⟨h.1, h.2.symm⟩⟩
        have HY : Veil _ := ⟨HX.out.1⟩
        have e2 := HX.out.2
        subst e2
        clear HN HR HX
        go_enter Tryd.func14, Tryd.ntmps14
        go_wp2_with (first
          | (go_at_call 25; (with_reducible refine (HWi.out _ _ h0).mono ?_); rintro e w5 ⟨v5, rfl, hF, hb5⟩; have hsz := h0.size; have h0 := bc_then h0 hb5; have HF : Veil _ := ⟨hF⟩; clear hF)
          | (go_at_call 20; (with_reducible refine (HCt.out _ h0).mono ?_); rintro e w4 ⟨rfl, hb4⟩; have h0 := bc_then h0 hb4; obtain ⟨-, c0, c1⟩ := HE.out _ h0)
          | (go_at_call 24; refine (HA.out _).mono ?_; rintro e w3 ⟨rfl, hb3⟩; have h0 := bc_then h0 hb3; obtain ⟨-, c0, c1⟩ := HE.out _ h0)
          | (go_at_call 18; (with_reducible refine (HRt.out _ h0).mono ?_); rintro e w2 ⟨rfl, hb2⟩; have h0 := bc_then h0 hb2; obtain ⟨-, c0, c1⟩ := HE.out _ h0))
        go_ret2
        exact ⟨_, rfl, by have h := HF.out; rw [HY.out] at h; exact h.base (Nat.le_trans HW.out.2 hsz), bc_then HW.out.1 h0⟩
      · have HX : Veil (L = [] ∧ ec = 122) := ⟨by have h := HR.out; unfold takeG at h; rw [if_pos (by rw [HRT.out.1, HRT.out.2]; rfl), HN.out, if_neg hst] at h; simp only [Prod.mk.injEq] at h; exact ⟨h.1.symm, h.2.symm⟩⟩
        obtain ⟨e1, e2⟩ := HX.out
        subst e1 e2
        clear HN HR HX HWi
        go_enter Tryd.func14, Tryd.ntmps14
        go_wp2_with (first
          | (go_at_call 20; (with_reducible refine (HCt.out _ h0).mono ?_); rintro e w4 ⟨rfl, hb4⟩; have h0 := bc_then h0 hb4; obtain ⟨-, c0, c1⟩ := HE.out _ h0)
          | (go_at_call 24; refine (HA.out _).mono ?_; rintro e w3 ⟨rfl, hb3⟩; have h0 := bc_then h0 hb3; obtain ⟨-, c0, c1⟩ := HE.out _ h0)
          | (go_at_call 18; (with_reducible refine (HRt.out _ h0).mono ?_); rintro e w2 ⟨rfl, hb2⟩; have h0 := bc_then h0 hb2; obtain ⟨-, c0, c1⟩ := HE.out _ h0))
        go_ret2
        exact ⟨_, rfl, FreshE.nil _ _ _, bc_then HW.out.1 h0⟩
    · have haf : amt1 sn = false := by simpa using ha
      have HX : Veil (L = [] ∧ ec = 120) := ⟨by have h := HR.out; unfold takeG at h; rw [if_neg (by simp [haf])] at h; simp only [Prod.mk.injEq] at h; exact ⟨h.1.symm, h.2.symm⟩⟩
      obtain ⟨e1, e2⟩ := HX.out
      subst e1 e2
      rw [hr] at HRt
      rw [haf] at HA
      clear ha haf hr HCt HWi HR
      go_enter Tryd.func14, Tryd.ntmps14
      go_wp2_with (first
        | (go_at_call 20; (with_reducible refine (HCt.out _ h0).mono ?_); rintro e w4 ⟨rfl, hb4⟩; have h0 := bc_then h0 hb4; obtain ⟨-, c0, c1⟩ := HE.out _ h0)
        | (go_at_call 24; refine (HA.out _).mono ?_; rintro e w3 ⟨rfl, hb3⟩; have h0 := bc_then h0 hb3; obtain ⟨-, c0, c1⟩ := HE.out _ h0)
        | (go_at_call 18; (with_reducible refine (HRt.out _ h0).mono ?_); rintro e w2 ⟨rfl, hb2⟩; have h0 := bc_then h0 hb2; obtain ⟨-, c0, c1⟩ := HE.out _ h0))
      go_ret2
      exact ⟨_, rfl, FreshE.nil _ _ _, bc_then HW.out.1 h0⟩
  · have hrf : rightG l = false := by simpa using hr
    have HX : Veil (L = [] ∧ ec = 120) := ⟨by have h := HR.out; unfold takeG at h; rw [if_neg (by simp [hrf])] at h; simp only [Prod.mk.injEq] at h; exact ⟨h.1.symm, h.2.symm⟩⟩
    obtain ⟨e1, e2⟩ := HX.out
    subst e1 e2
    rw [hrf] at HRt
    clear hr hrf HCt HWi HR
    generalize amt1 sn = am at HA
    go_enter Tryd.func14, Tryd.ntmps14
    go_wp2_with (first
      | (go_at_call 20; (with_reducible refine (HCt.out _ h0).mono ?_); rintro e w4 ⟨rfl, hb4⟩; have h0 := bc_then h0 hb4; obtain ⟨-, c0, c1⟩ := HE.out _ h0)
      | (go_at_call 24; refine (HA.out _).mono ?_; rintro e w3 ⟨rfl, hb3⟩; have h0 := bc_then h0 hb3; obtain ⟨-, c0, c1⟩ := HE.out _ h0)
      | (go_at_call 18; (with_reducible refine (HRt.out _ h0).mono ?_); rintro e w2 ⟨rfl, hb2⟩; have h0 := bc_then h0 hb2; obtain ⟨-, c0, c1⟩ := HE.out _ h0))
    go_ret2
    exact ⟨_, rfl, FreshE.nil _ _ _, bc_then HW.out.1 h0⟩

theorem moveG_eq (a b : List St) (s : St) : moveG a b s = if (takeG a s).2 = 0 then (if (giveG b s).2 = 0 then ((takeG a s).1, (giveG b s).1, 0) else ([], [], (giveG b s).2)) else ([], [], (takeG a s).2) := rfl
set_option maxRecDepth 20000 in
set_option maxHeartbeats 2000000 in
theorem refmoveG_any {w : World} {p q : Option Addr} (a b : List St) (ca cb : Nat) (s : St) (h : Els elS w p a) (g : Els elS w q b) (hl : a.length ≤ 1000) (gl : b.length ≤ 1000) (hs : I64 s.n) :
    Calls Tryd.prog 16 #[.slice p a.length ca, .slice q b.length cb, s.v] w (GoodsPost2 w (moveG a b s).1 (moveG a b s).2.1 (moveG a b s).2.2) := by
  have HM : Veil _ := ⟨moveG_eq a b s⟩
  rw [HM.out]
  clear HM
  have HT : Veil (∀ W, Below w.heap.size w W → Calls Tryd.prog 14 #[.slice p a.length ca, s.v] W (GoodsPost W (takeG a s).1 (takeG a s).2)) := ⟨fun W hW => reftakeG_any a ca s (h.below hW) hl hs⟩
  have HG : Veil (∀ W, Below w.heap.size w W → Calls Tryd.prog 12 #[.slice q b.length cb, s.v] W (GoodsPost W (giveG b s).1 (giveG b s).2)) := ⟨fun W hW => refgiveG_any b cb s (g.below hW) gl hs⟩
  generalize takeG a s = x at HT
  generalize giveG b s = y at HG
  obtain ⟨L, c1⟩ := x
  obtain ⟨M, c2⟩ := y
  obtain ⟨si, sn⟩ := s
  unfold St.v at *
  dsimp only at *
  have hW0 : Below w.heap.size w (w.alloc (.cells #[.int .u16 si, .int .i64 sn] 25)) := below_al (Below.refl _ _) _
  have HC : Veil (∀ W, Below (w.alloc (.cells #[.int .u16 si, .int .i64 sn] 25)).heap.size (w.alloc (.cells #[.int .u16 si, .int .i64 sn] 25)) W → W.cell? ⟨w.heap.size, 0, none⟩ = some (.int .u16 si) ∧ W.cell? ⟨w.heap.size, 1, none⟩ = some (.int .i64 sn)) := ⟨fun W hW => by
    have hc : ∀ o, (w.alloc (.cells #[.int .u16 si, .int .i64 sn] 25)).cell? ⟨w.heap.size, o, none⟩ = [Value.int .u16 si, Value.int .i64 sn][o]? := fun o => cell_whole (heap_alloc_new _ _) o
    exact ⟨(hW.cell (World.block_lt_of_cell? _ _ (hc 0))).trans (hc 0), (hW.cell (World.block_lt_of_cell? _ _ (hc 1))).trans (hc 1)⟩⟩
  clear h g
  by_cases h1 : c1 = 0
  · subst h1
    rw [if_pos rfl]
    by_cases h2 : c2 = 0
    · subst h2
      rw [if_pos rfl]
      go_enter Tryd.func16, Tryd.ntmps16
      go_wp2_with (first
        | (go_at_call 12; (with_reducible refine (HG.out _ hW0).mono ?_); rintro e w3 ⟨v3, rfl, hF2, hb3⟩; have hW0 := bc_then hW0 hb3; have HF2 : Veil _ := ⟨hF2⟩; clear hF2)
        | (go_at_call 14; (with_reducible refine (HT.out _ hW0).mono ?_); rintro e w2 ⟨v2, rfl, hF1, hb2⟩; have hW0 := bc_then hW0 hb2; obtain ⟨c0, c1⟩ := HC.out _ hb2; have HF1 : Veil _ := ⟨hF1⟩; clear hF1))
      refine bodyPost_ret (results_tmp3 rfl _ _ _) rfl ?_
      exact ⟨_, _, rfl, (HF1.out.base (by simp)).below hb3, HF2.out.base (Nat.le_trans (by simp) hb2.size), hW0⟩
    · rw [if_neg h2]
      go_enter Tryd.func16, Tryd.ntmps16
      go_wp2_with (first
        | (go_at_call 12; (with_reducible refine (HG.out _ hW0).mono ?_); rintro e w3 ⟨v3, rfl, hF2, hb3⟩; have hW0 := bc_then hW0 hb3; have HF2 : Veil _ := ⟨hF2⟩; clear hF2)
        | (go_at_call 14; (with_reducible refine (HT.out _ hW0).mono ?_); rintro e w2 ⟨v2, rfl, hF1, hb2⟩; have hW0 := bc_then hW0 hb2; obtain ⟨c0, c1⟩ := HC.out _ hb2; have HF1 : Veil _ := ⟨hF1⟩; clear hF1))
      refine bodyPost_ret (results_tmp3 rfl _ _ _) rfl ?_
      exact ⟨_, _, rfl, FreshE.nil _ _ _, FreshE.nil _ _ _, hW0⟩
  · rw [if_neg h1]
    go_enter Tryd.func16, Tryd.ntmps16
    go_wp2_with (first
      | (go_at_call 12; (with_reducible refine (HG.out _ hW0).mono ?_); rintro e w3 ⟨v3, rfl, hF2, hb3⟩; have hW0 := bc_then hW0 hb3; have HF2 : Veil _ := ⟨hF2⟩; clear hF2)
      | (go_at_call 14; (with_reducible refine (HT.out _ hW0).mono ?_); rintro e w2 ⟨v2, rfl, hF1, hb2⟩; have hW0 := bc_then hW0 hb2; obtain ⟨c0, c1⟩ := HC.out _ hb2; have HF1 : Veil _ := ⟨hF1⟩; clear hF1))
    refine bodyPost_ret (results_tmp3 rfl _ _ _) rfl ?_
    exact ⟨_, _, rfl, FreshE.nil _ _ _, FreshE.nil _ _ _, hW0⟩
end Go.Proofs.YtecalafjfbgbcaaDoor

/- The law's cut of goods: the first thirty stacks, in new memory. -/
namespace Go.Proofs.YtecalafjfbgbcaaDoor
open Go Go.RowKit Sm
attribute [local go_sem] Oper.semAt_some

set_option maxRecDepth 20000 in
set_option maxHeartbeats 2000000 in
theorem cutG12_own {w : World} {p : Option Addr} (l : List St) (lc : Nat) (hin : InL elS w p l lc) :
    Calls Tryd.prog 10 #[.slice p l.length lc] w fun e w' => ∃ g, e = .returned (.slice (some ⟨g, 0, none⟩) (l.take 30).length 30) ∧ FreshE elS w.heap.size w' (.slice (some ⟨g, 0, none⟩) (l.take 30).length 30) (l.take 30) ∧ Below w.heap.size w w' := by
  obtain ⟨m, hm⟩ : ∃ m, min l.length 30 = m := ⟨_, rfl⟩
  have hmin : ∀ W, (Builtin.min_ #[3, 3] 3 #[.int .i64 (l.length : Int), .int .i64 30]).run Tryd.prog W = .ok (.int .i64 (m : Int)) W := by rw [← hm]; exact min_two l.length 30
  have hml : m ≤ l.length := by omega
  have hm4 : Veil (m ≤ 30) := ⟨by omega⟩
  have hlt : Veil ((l.take 30).length = m) := ⟨by rw [List.length_take, ← hm, Nat.min_comm]⟩
  have HS : Veil _ := ⟨hin.els.take 30⟩
  have hle := hin.le
  have hcap := hin.cap
  have hform := hin.form
  generalize l.take 30 = T at HS hlt ⊢
  clear hm hin
  obtain ⟨i0, hi0, hz0, hz1, hz2⟩ := info_parts elS.info
  have HI : Veil (Tryd.prog.info? 25 = some i0 ∧ i0.zero = some (.agg #[.int .u16 0, .int .i64 0]) ∧ i0.size = 2 ∧ i0.bytes = 16) := ⟨hi0, hz0, hz1, hz2⟩
  clear hi0 hz0 hz1 hz2
  have hsl : ∀ W, (Instr.slice 22 (.slice p l.length lc) none (some (.int .i64 (m : Int))) none).run Tryd.prog W = .ok (.slice p m lc) W := by
    intro W
    rcases hform with ⟨rfl, rfl, rfl⟩ | ⟨b, o, rfl⟩
    · obtain rfl : m = 0 := by simpa using hml
      go_simp
    · have hmc : m ≤ lc := by omega
      go_simp
  have hnone : p = none → lc = 0 := by
    intro h
    rcases hform with ⟨_, _, h3⟩ | ⟨b, o, h1⟩
    · exact h3
    · rw [h] at h1; cases h1
  clear hform
  go_enter Tryd.func10, Tryd.ntmps10
  go_wp2
  obtain ⟨W5, hW5⟩ : ∃ W5, w.drew = W5 := ⟨_, rfl⟩
  have HX5 : Veil (Below w.heap.size w W5) := ⟨by rw [← hW5]; exact (Below.refl _ _).drew⟩
  refine region_plan 6 [(true, 1), (true, 2), (true, 3), (true, 4), (true, 5), (false, 0)] (by kernel_rfl) (by kernel_rfl) (fun _ => True) W5 hW5 trivial ?_
  clear hW5
  simp only [planOps, List.filterMap_cons, List.filterMap_nil, List.getElem?_toArray, List.getElem?_cons_zero, List.getElem?_cons_succ, Option.map_some]
  iterate 4 (refine plan_quiet rfl ?_ ?_ (fun K hK => ?_); rotate_left; (rintro w' s0; go_simp; rfl); (go_simp; refine hK _ ?_; clear hK K))
  refine plan_quiet rfl (.slice p m lc) (fun w' _ => ?_) (fun K hK => ?_)
  · go_simp
  go_simp
  refine hK _ ?_
  clear hK K
  refine plan_change (fun K hK => ?_)
  refine wpList_make_own W5 rfl (.const (.int .i64 0)) (.const (.int .i64 30)) 22 rfl W5.heap.size 25 i0 _ 2 Tryd.underlying22 HI.out.1 HI.out.2.1 HI.out.2.2.1 .i64 .i64 30 30 rfl rfl rfl (by rw [HI.out.2.2.2]; decide) (by unfold maxLen; decide) (Nat.le_refl _) ?_
  intro w6 hown6 hgrow6
  have hT6 : Turned (fun _ => False) W5 w6 := Turned.grown hgrow6 (fun k hk => by cases hk)
  refine wpList_nil ?_
  refine hK _ _ trivial ?_
  clear hK K
  refine wpPlan_nil ?_
  simp only [List.drop_succ_cons, List.drop_zero]
  have HX6 : Veil (Below w.heap.size w w6) := ⟨HX5.out.trans (hT6.toBelow HX5.out.size (fun _ _ h => h.elim))⟩
  have HS6 : Veil _ := ⟨((HS.out.below HX6.out).news)⟩
  have HO6 : Veil _ := ⟨hown6⟩
  have HZ : Veil (w.heap.size ≤ W5.heap.size) := ⟨HX5.out.size⟩
  clear hown6 hgrow6 hT6 hmin hsl
  obtain ⟨G, hG⟩ : ∃ G, W5.heap.size = G := ⟨_, rfl⟩
  rw [hG] at HO6 HZ ⊢
  clear hG HX5
  go_wp2_with (refine wpList_append_fits_any w6 rfl (.tmp 3) (.tmp 8) 22 rfl G 25 i0 2 Tryd.underlying22 HI.out.1 HI.out.2.2.1 G 0 30 [] rfl HO6.out p m lc (elCells elS T) rfl (by rw [elCells_len, hlt.out]; rfl) (fun e => ⟨by have := hnone e; omega, hnone e⟩) HS6.out (elCells_one elS T) (by have := hm4.out; omega) ?_; intro w7 hown7 hgrow7)
  refine only_normal ?_
  have HX7 : Veil (Below w.heap.size w w7) := ⟨HX6.out.trans ((Turned.grown (F := (· = G)) hgrow7 (fun k hk _ => (Option.some.inj hk).symm)).toBelow HX6.out.size (fun j _ e => by have := HZ.out; omega))⟩
  have HO7 : Veil (OwnE elS w7 G (.slice (some ⟨G, 0, none⟩) m 30) T) := ⟨by unfold OwnE; rw [hlt.out]; have h7 := hown7; simp only [Nat.zero_add, List.nil_append] at h7; exact h7⟩
  clear hown7 hgrow7
  go_wp2
  go_ret
  exact ⟨G, by rw [hlt.out]; rfl, by rw [hlt.out]; exact HO7.out.fresh HZ.out, HX7.out⟩
theorem cutG12_any {w : World} {p : Option Addr} (l : List St) (lc : Nat) (hin : InL elS w p l lc) :
    Calls Tryd.prog 10 #[.slice p l.length lc] w (FreshPost elS w (l.take 30)) :=
  (cutG12_own l lc hin).mono fun _ _ ⟨_, h1, h2, h3⟩ => ⟨_, h1, h2, h3⟩
end Go.Proofs.YtecalafjfbgbcaaDoor
