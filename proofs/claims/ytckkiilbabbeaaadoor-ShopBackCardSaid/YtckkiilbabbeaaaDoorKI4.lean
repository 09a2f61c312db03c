/- Goods: the document's own Give, Take, Move. -/
import Derived.OwnWalk
import Derived.Test.YtckkiilbabbeaaaDoorKI3
import Derived.Test.YtckkiilbabbeaaaDoorKCZ
import Derived.Test.YtckkiilbabbeaaaDoorKG
namespace Go.Proofs.YtckkiilbabbeaaaDoor
open Go Go.RowKit Sm
attribute [local go_sem] Oper.semAt_some

def GoodsPost (w : World) (L : List St) (c : Int) (e : Ending) (w' : World) : Prop := ∃ v, e = .returned (.tuple #[v, .int .i64 c]) ∧ FreshE elS w.heap.size w' v L ∧ Below w.heap.size w w'
def GoodsPost2 (w : World) (L M : List St) (c : Int) (e : Ending) (w' : World) : Prop := ∃ v u, e = .returned (.tuple #[v, u, .int .i64 c]) ∧ FreshE elS w.heap.size w' v L ∧ FreshE elS w.heap.size w' u M ∧ Below w.heap.size w w'
theorem FreshE.form {α : Type} {E : El α} {B : Nat} {w : World} {v : Value} {L : List α} (h : FreshE E B w v L) : ∃ p c, v = .slice p L.length c ∧ Els E w p L ∧ L.length ≤ c := by
  obtain ⟨p, c, h1, h2, h3, -⟩ := h
  exact ⟨p, c, h1, h2, h3.le⟩
theorem InL.below {α : Type} {E : El α} {w w' : World} {p : Option Addr} {L : List α} {c : Nat} (h : InL E w p L c) (hb : Below w.heap.size w w') : InL E w' p L c := ⟨h.els.below hb, h.spot, h.nil0, h.le, h.cap⟩
theorem InL.ok {α : Type} {E : El α} {w : World} {p : Option Addr} {L : List α} {c : Nat} (h : InL E w p L c) : SlOk p L.length c := ⟨h.le, h.cap, h.nil0, h.spot⟩
theorem FreshE.formI {α : Type} {E : El α} {B : Nat} {w : World} {v : Value} {L : List α} (h : FreshE E B w v L) : ∃ p c, v = .slice p L.length c ∧ InL E w p L c ∧ L.length ≤ c := by
  obtain ⟨p, c, h1, h2, h3, -⟩ := h
  exact ⟨p, c, h1, ⟨h2, h3.spot, h3.none, h3.le, h3.few⟩, h3.le⟩
theorem countG_le (l : List St) (i : Nat) (h : rightG l = true) : 0 ≤ countG l i ∧ countG l i ≤ 1152921504606846976 := by
  rcases goods_parts l i ((rightG_iff l).1 h) with ⟨h1, -⟩ | ⟨h1, h2, -⟩
  · rw [h1]; omega
  · omega

set_option maxRecDepth 20000 in
set_option maxHeartbeats 2000000 in
theorem refgiveG_any {w : World} {p : Option Addr} (l : List St) (c : Nat) (s : St) (h : Els elS w p l) (hl : l.length ≤ 1000) (hs : I64 s.n) :
    Calls Tryd.prog 38 #[.slice p l.length c, s.v] w (GoodsPost w (giveG l s).1 (giveG l s).2) := by
  obtain ⟨R, hR⟩ : ∃ R, giveG l s = R := ⟨_, rfl⟩
  have HR : Veil _ := ⟨hR⟩
  rw [hR]
  clear hR
  obtain ⟨L, ec⟩ := R
  obtain ⟨si, sn⟩ := s
  unfold St.v
  dsimp only at *
  have HE : Veil (∀ W, Below (w.alloc (.cells #[.int .u16 si, .int .i64 sn] 25)).heap.size (w.alloc (.cells #[.int .u16 si, .int .i64 sn] 25)) W → Els elS W p l ∧ W.cell? ⟨w.heap.size, 0, none⟩ = some (.int .u16 si) ∧ W.cell? ⟨w.heap.size, 1, none⟩ = some (.int .i64 sn)) := ⟨fun W hW => by
    have hc : ∀ o, (w.alloc (.cells #[.int .u16 si, .int .i64 sn] 25)).cell? ⟨w.heap.size, o, none⟩ = [Value.int .u16 si, Value.int .i64 sn][o]? := fun o => cell_whole (heap_alloc_new _ _) o
    refine ⟨(h.below (below_al (Below.refl _ _) _)).below hW, ?_, ?_⟩
    · exact (hW.cell (World.block_lt_of_cell? _ _ (hc 0))).trans (hc 0)
    · exact (hW.cell (World.block_lt_of_cell? _ _ (hc 1))).trans (hc 1)⟩
  have HW : Veil (Below w.heap.size w (w.alloc (.cells #[.int .u16 si, .int .i64 sn] 25)) ∧ w.heap.size ≤ (w.alloc (.cells #[.int .u16 si, .int .i64 sn] 25)).heap.size) := ⟨below_al (Below.refl _ _) _, by simp⟩
  have HRt : Veil (∀ W, Below (w.alloc (.cells #[.int .u16 si, .int .i64 sn] 25)).heap.size (w.alloc (.cells #[.int .u16 si, .int .i64 sn] 25)) W → Calls Tryd.prog 49 #[.slice p l.length c] W fun e w' => e = .returned (.bool (rightG l)) ∧ Below W.heap.size W w') := ⟨fun W hW => refrightG_any l c (HE.out W hW).1 (by omega)⟩
  have HA : Veil _ := ⟨fun w => refamount_any sn w⟩
  have HCt : Veil (∀ W, Below (w.alloc (.cells #[.int .u16 si, .int .i64 sn] 25)).heap.size (w.alloc (.cells #[.int .u16 si, .int .i64 sn] 25)) W → Calls Tryd.prog 24 #[.slice p l.length c, .int .u16 si] W fun e w' => e = .returned (.int .i64 (countG l si)) ∧ Below W.heap.size W w') := ⟨fun W hW => refcountG_any l c si (HE.out W hW).1 (by omega)⟩
  have HWi : Veil (∀ (n : Int) W, Below (w.alloc (.cells #[.int .u16 si, .int .i64 sn] 25)).heap.size (w.alloc (.cells #[.int .u16 si, .int .i64 sn] 25)) W → Calls Tryd.prog 51 #[.slice p l.length c, .agg #[.int .u16 si, .int .i64 n]] W (FreshPost elS W (withG l ⟨si, n⟩))) := ⟨fun n W hW => refwithG_any l c ⟨si, n⟩ (HE.out W hW).1 hl⟩
  have h0 : Below (w.alloc (.cells #[.int .u16 si, .int .i64 sn] 25)).heap.size (w.alloc (.cells #[.int .u16 si, .int .i64 sn] 25)) (w.alloc (.cells #[.int .u16 si, .int .i64 sn] 25)) := Below.refl _ _
  clear h
  by_cases hr : rightG l = true
  · by_cases ha : amt1 sn = true
    · obtain ⟨n0, n1⟩ := countG_le l si hr
      have ha2 := (amt1_iff sn).1 ha
      obtain ⟨a0, a1⟩ := ha2
      rw [hr] at HRt
      rw [ha] at HA
      obtain ⟨N, hN⟩ : ∃ N, countG l si = N := ⟨_, rfl⟩
      rw [hN] at n0 n1 HCt
      have HN : Veil _ := ⟨hN⟩
      have HRT : Veil (rightG l = true ∧ amt1 sn = true) := ⟨hr, ha⟩
      clear hr ha hN
      by_cases hov : N + sn ≤ 1152921504606846976
      · by_cases hfull : N = 0 ∧ l.length = 20
        · have HX : Veil (L = [] ∧ ec = 121) := ⟨by have h := HR.out; unfold giveG at h; rw [if_pos (by rw [HRT.out.1, HRT.out.2]; rfl), HN.out, if_pos hov, if_pos hfull] at h; simp only [Prod.mk.injEq] at h; exact ⟨h.1.symm, h.2.symm⟩⟩
          obtain ⟨e1, e2⟩ := HX.out
          subst e1 e2
          obtain ⟨f1, f2⟩ := hfull
          subst f1
          have f3 : ((l.length : Int) == 20) = true := by rw [f2]; rfl
          clear f2
          clear HN HR HX HWi
          go_enter Tryd.func38, Tryd.ntmps38
          go_wp2_with (first
            | (go_at_call 24; (with_reducible refine (HCt.out _ h0).mono ?_); rintro e w4 ⟨rfl, hb4⟩; have h0 := bc_then h0 hb4; obtain ⟨-, c0, c1⟩ := HE.out _ h0)
            | (go_at_call 50; refine (HA.out _).mono ?_; rintro e w3 ⟨rfl, hb3⟩; have h0 := bc_then h0 hb3; obtain ⟨-, c0, c1⟩ := HE.out _ h0)
            | (go_at_call 49; (with_reducible refine (HRt.out _ h0).mono ?_); rintro e w2 ⟨rfl, hb2⟩; have h0 := bc_then h0 hb2; obtain ⟨-, c0, c1⟩ := HE.out _ h0))
          go_ret2
          exact ⟨_, rfl, FreshE.nil _ _ _, bc_then HW.out.1 h0⟩
        · have HX : Veil (withG l ⟨si, N + sn⟩ = L ∧ ec = 0) := ⟨by have h := HR.out; unfold giveG at h; rw [if_pos (by rw [HRT.out.1, HRT.out.2]; rfl), HN.out, if_pos hov, if_neg hfull] at h; simp only [Prod.mk.injEq] at h; exact ⟨h.1, h.2.symm⟩⟩
          have HY : Veil _ := ⟨HX.out.1⟩
          have e2 := HX.out.2
          subst e2
          clear HN HR HX
          by_cases hz : N = 0
          · have h20 : ¬ l.length = 20 := fun h => hfull ⟨hz, h⟩
            have h20' : ¬ (l.length : Int) = 20 := by omega
            subst hz
            rw [Int.zero_add] at HY
            clear hfull h20
            go_enter Tryd.func38, Tryd.ntmps38
            go_wp2_with (first
              | (go_at_call 51; (with_reducible refine (HWi.out _ _ h0).mono ?_); rintro e w5 ⟨v5, rfl, hF, hb5⟩; have hsz := h0.size; have h0 := bc_then h0 hb5; have HF : Veil _ := ⟨hF⟩; clear hF)
              | (go_at_call 24; (with_reducible refine (HCt.out _ h0).mono ?_); rintro e w4 ⟨rfl, hb4⟩; have h0 := bc_then h0 hb4; obtain ⟨-, c0, c1⟩ := HE.out _ h0)
              | (go_at_call 50; refine (HA.out _).mono ?_; rintro e w3 ⟨rfl, hb3⟩; have h0 := bc_then h0 hb3; obtain ⟨-, c0, c1⟩ := HE.out _ h0)
              | (go_at_call 49; (with_reducible refine (HRt.out _ h0).mono ?_); rintro e w2 ⟨rfl, hb2⟩; have h0 := bc_then h0 hb2; obtain ⟨-, c0, c1⟩ := HE.out _ h0))
            go_ret2
            exact ⟨_, rfl, by have h := HF.out; rw [HY.out] at h; exact h.base (Nat.le_trans HW.out.2 hsz), bc_then HW.out.1 h0⟩
          · clear hfull
            go_enter Tryd.func38, Tryd.ntmps38
            go_wp2_with (first
              | (go_at_call 51; (with_reducible refine (HWi.out _ _ h0).mono ?_); rintro e w5 ⟨v5, rfl, hF, hb5⟩; have hsz := h0.size; have h0 := bc_then h0 hb5; have HF : Veil _ := ⟨hF⟩; clear hF)
              | (go_at_call 24; (with_reducible refine (HCt.out _ h0).mono ?_); rintro e w4 ⟨rfl, hb4⟩; have h0 := bc_then h0 hb4; obtain ⟨-, c0, c1⟩ := HE.out _ h0)
              | (go_at_call 50; refine (HA.out _).mono ?_; rintro e w3 ⟨rfl, hb3⟩; have h0 := bc_then h0 hb3; obtain ⟨-, c0, c1⟩ := HE.out _ h0)
              | (go_at_call 49; (with_reducible refine (HRt.out _ h0).mono ?_); rintro e w2 ⟨rfl, hb2⟩; have h0 := bc_then h0 hb2; obtain ⟨-, c0, c1⟩ := HE.out _ h0))
            go_ret2
            exact ⟨_, rfl, by have h := HF.out; rw [HY.out] at h; exact h.base (Nat.le_trans HW.out.2 hsz), bc_then HW.out.1 h0⟩
      · have HX : Veil (L = [] ∧ ec = 111) := ⟨by have h := HR.out; unfold giveG at h; rw [if_pos (by rw [HRT.out.1, HRT.out.2]; rfl), HN.out, if_neg hov] at h; simp only [Prod.mk.injEq] at h; exact ⟨h.1.symm, h.2.symm⟩⟩
        obtain ⟨e1, e2⟩ := HX.out
        subst e1 e2
        clear HN HR HX HWi
        go_enter Tryd.func38, Tryd.ntmps38
        go_wp2_with (first
          | (go_at_call 24; (with_reducible refine (HCt.out _ h0).mono ?_); rintro e w4 ⟨rfl, hb4⟩; have h0 := bc_then h0 hb4; obtain ⟨-, c0, c1⟩ := HE.out _ h0)
          | (go_at_call 50; refine (HA.out _).mono ?_; rintro e w3 ⟨rfl, hb3⟩; have h0 := bc_then h0 hb3; obtain ⟨-, c0, c1⟩ := HE.out _ h0)
          | (go_at_call 49; (with_reducible refine (HRt.out _ h0).mono ?_); rintro e w2 ⟨rfl, hb2⟩; have h0 := bc_then h0 hb2; obtain ⟨-, c0, c1⟩ := HE.out _ h0))
        go_ret2
        exact ⟨_, rfl, FreshE.nil _ _ _, bc_then HW.out.1 h0⟩
    · have haf : amt1 sn = false := by simpa using ha
      have HX : Veil (L = [] ∧ ec = 120) := ⟨by have h := HR.out; unfold giveG at h; rw [if_neg (by simp [haf])] at h; simp only [Prod.mk.injEq] at h; exact ⟨h.1.symm, h.2.symm⟩⟩
      obtain ⟨e1, e2⟩ := HX.out
      subst e1 e2
      rw [hr] at HRt
      rw [haf] at HA
      clear ha haf hr HCt HWi HR
      go_enter Tryd.func38, Tryd.ntmps38
      go_wp2_with (first
        | (go_at_call 24; (with_reducible refine (HCt.out _ h0).mono ?_); rintro e w4 ⟨rfl, hb4⟩; have h0 := bc_then h0 hb4; obtain ⟨-, c0, c1⟩ := HE.out _ h0)
        | (go_at_call 50; refine (HA.out _).mono ?_; rintro e w3 ⟨rfl, hb3⟩; have h0 := bc_then h0 hb3; obtain ⟨-, c0, c1⟩ := HE.out _ h0)
        | (go_at_call 49; (with_reducible refine (HRt.out _ h0).mono ?_); rintro e w2 ⟨rfl, hb2⟩; have h0 := bc_then h0 hb2; obtain ⟨-, c0, c1⟩ := HE.out _ h0))
      go_ret2
      exact ⟨_, rfl, FreshE.nil _ _ _, bc_then HW.out.1 h0⟩
  · have hrf : rightG l = false := by simpa using hr
    have HX : Veil (L = [] ∧ ec = 120) := ⟨by have h := HR.out; unfold giveG at h; rw [if_neg (by simp [hrf])] at h; simp only [Prod.mk.injEq] at h; exact ⟨h.1.symm, h.2.symm⟩⟩
    obtain ⟨e1, e2⟩ := HX.out
    subst e1 e2
    rw [hrf] at HRt
    clear hr hrf HCt HWi HR
    generalize amt1 sn = am at HA
    go_enter Tryd.func38, Tryd.ntmps38
    go_wp2_with (first
      | (go_at_call 24; (with_reducible refine (HCt.out _ h0).mono ?_); rintro e w4 ⟨rfl, hb4⟩; have h0 := bc_then h0 hb4; obtain ⟨-, c0, c1⟩ := HE.out _ h0)
      | (go_at_call 50; refine (HA.out _).mono ?_; rintro e w3 ⟨rfl, hb3⟩; have h0 := bc_then h0 hb3; obtain ⟨-, c0, c1⟩ := HE.out _ h0)
      | (go_at_call 49; (with_reducible refine (HRt.out _ h0).mono ?_); rintro e w2 ⟨rfl, hb2⟩; have h0 := bc_then h0 hb2; obtain ⟨-, c0, c1⟩ := HE.out _ h0))
    go_ret2
    exact ⟨_, rfl, FreshE.nil _ _ _, bc_then HW.out.1 h0⟩

set_option maxRecDepth 20000 in
set_option maxHeartbeats 2000000 in
theorem reftakeG_any {w : World} {p : Option Addr} (l : List St) (c : Nat) (s : St) (h : Els elS w p l) (hl : l.length ≤ 1000) (hs : I64 s.n) :
    Calls Tryd.prog 36 #[.slice p l.length c, s.v] w (GoodsPost w (takeG l s).1 (takeG l s).2) := by
  obtain ⟨R, hR⟩ : ∃ R, takeG l s = R := ⟨_, rfl⟩
  have HR : Veil _ := ⟨hR⟩
  rw [hR]
  clear hR
  obtain ⟨L, ec⟩ := R
  obtain ⟨si, sn⟩ := s
  unfold St.v
  dsimp only at *
  have HE : Veil (∀ W, Below (w.alloc (.cells #[.int .u16 si, .int .i64 sn] 25)).heap.size (w.alloc (.cells #[.int .u16 si, .int .i64 sn] 25)) W → Els elS W p l ∧ W.cell? ⟨w.heap.size, 0, none⟩ = some (.int .u16 si) ∧ W.cell? ⟨w.heap.size, 1, none⟩ = some (.int .i64 sn)) := ⟨fun W hW => by
    have hc : ∀ o, (w.alloc (.cells #[.int .u16 si, .int .i64 sn] 25)).cell? ⟨w.heap.size, o, none⟩ = [Value.int .u16 si, Value.int .i64 sn][o]? := fun o => cell_whole (heap_alloc_new _ _) o
    refine ⟨(h.below (below_al (Below.refl _ _) _)).below hW, ?_, ?_⟩
    · exact (hW.cell (World.block_lt_of_cell? _ _ (hc 0))).trans (hc 0)
    · exact (hW.cell (World.block_lt_of_cell? _ _ (hc 1))).trans (hc 1)⟩
  have HW : Veil (Below w.heap.size w (w.alloc (.cells #[.int .u16 si, .int .i64 sn] 25)) ∧ w.heap.size ≤ (w.alloc (.cells #[.int .u16 si, .int .i64 sn] 25)).heap.size) := ⟨below_al (Below.refl _ _) _, by simp⟩
  have HRt : Veil (∀ W, Below (w.alloc (.cells #[.int .u16 si, .int .i64 sn] 25)).heap.size (w.alloc (.cells #[.int .u16 si, .int .i64 sn] 25)) W → Calls Tryd.prog 49 #[.slice p l.length c] W fun e w' => e = .returned (.bool (rightG l)) ∧ Below W.heap.size W w') := ⟨fun W hW => refrightG_any l c (HE.out W hW).1 (by omega)⟩
  have HA : Veil _ := ⟨fun w => refamount_any sn w⟩
  have HCt : Veil (∀ W, Below (w.alloc (.cells #[.int .u16 si, .int .i64 sn] 25)).heap.size (w.alloc (.cells #[.int .u16 si, .int .i64 sn] 25)) W → Calls Tryd.prog 24 #[.slice p l.length c, .int .u16 si] W fun e w' => e = .returned (.int .i64 (countG l si)) ∧ Below W.heap.size W w') := ⟨fun W hW => refcountG_any l c si (HE.out W hW).1 (by omega)⟩
  have HWi : Veil (∀ (n : Int) W, Below (w.alloc (.cells #[.int .u16 si, .int .i64 sn] 25)).heap.size (w.alloc (.cells #[.int .u16 si, .int .i64 sn] 25)) W → Calls Tryd.prog 51 #[.slice p l.length c, .agg #[.int .u16 si, .int .i64 n]] W (FreshPost elS W (withG l ⟨si, n⟩))) := ⟨fun n W hW => refwithG_any l c ⟨si, n⟩ (HE.out W hW).1 hl⟩
  have h0 : Below (w.alloc (.cells #[.int .u16 si, .int .i64 sn] 25)).heap.size (w.alloc (.cells #[.int .u16 si, .int .i64 sn] 25)) (w.alloc (.cells #[.int .u16 si, .int .i64 sn] 25)) := Below.refl _ _
  clear h
  by_cases hr : rightG l = true
  · by_cases ha : amt1 sn = true
    · obtain ⟨n0, n1⟩ := countG_le l si hr
      have ha2 := (amt1_iff sn).1 ha
      obtain ⟨a0, a1⟩ := ha2
      rw [hr] at HRt
      rw [ha] at HA
      obtain ⟨N, hN⟩ : ∃ N, countG l si = N := ⟨_, rfl⟩
      rw [hN] at n0 n1 HCt
      have HN : Veil _ := ⟨hN⟩
      have HRT : Veil (rightG l = true ∧ amt1 sn = true) := ⟨hr, ha⟩
      clear hr ha hN
      by_cases hst : sn ≤ N
      · have HX : Veil (withG l ⟨si, N - sn⟩ = L ∧ ec = 0) := ⟨by have h := HR.out; unfold takeG at h; rw [if_pos (by rw [HRT.out.1, HRT.out.2]; rfl), HN.out, if_pos hst] at h; simp only [Prod.mk.injEq] at h; exact ⟨h.1, h.2.symm⟩⟩
        have HY : Veil _ := ⟨HX.out.1⟩
        have e2 := HX.out.2
        subst e2
        clear HN HR HX
        go_enter Tryd.func36, Tryd.ntmps36
        go_wp2_with (first
          | (go_at_call 51; (with_reducible refine (HWi.out _ _ h0).mono ?_); rintro e w5 ⟨v5, rfl, hF, hb5⟩; have hsz := h0.size; have h0 := bc_then h0 hb5; have HF : Veil _ := ⟨hF⟩; clear hF)
          | (go_at_call 24; (with_reducible refine (HCt.out _ h0).mono ?_); rintro e w4 ⟨rfl, hb4⟩; have h0 := bc_then h0 hb4; obtain ⟨-, c0, c1⟩ := HE.out _ h0)
          | (go_at_call 50; refine (HA.out _).mono ?_; rintro e w3 ⟨rfl, hb3⟩; have h0 := bc_then h0 hb3; obtain ⟨-, c0, c1⟩ := HE.out _ h0)
          | (go_at_call 49; (with_reducible refine (HRt.out _ h0).mono ?_); rintro e w2 ⟨rfl, hb2⟩; have h0 := bc_then h0 hb2; obtain ⟨-, c0, c1⟩ := HE.out _ h0))
        go_ret2
        exact ⟨_, rfl, by have h := HF.out; rw [HY.out] at h; exact h.base (Nat.le_trans HW.out.2 hsz), bc_then HW.out.1 h0⟩
      · have HX : Veil (L = [] ∧ ec = 122) := ⟨by have h := HR.out; unfold takeG at h; rw [if_pos (by rw [HRT.out.1, HRT.out.2]; rfl), HN.out, if_neg hst] at h; simp only [Prod.mk.injEq] at h; exact ⟨h.1.symm, h.2.symm⟩⟩
        obtain ⟨e1, e2⟩ := HX.out
        subst e1 e2
        clear HN HR HX HWi
        go_enter Tryd.func36, Tryd.ntmps36
        go_wp2_with (first
          | (go_at_call 24; (with_reducible refine (HCt.out _ h0).mono ?_); rintro e w4 ⟨rfl, hb4⟩; have h0 := bc_then h0 hb4; obtain ⟨-, c0, c1⟩ := HE.out _ h0)
          | (go_at_call 50; refine (HA.out _).mono ?_; rintro e w3 ⟨rfl, hb3⟩; have h0 := bc_then h0 hb3; obtain ⟨-, c0, c1⟩ := HE.out _ h0)
          | (go_at_call 49; (with_reducible refine (HRt.out _ h0).mono ?_); rintro e w2 ⟨rfl, hb2⟩; have h0 := bc_then h0 hb2; obtain ⟨-, c0, c1⟩ := HE.out _ h0))
        go_ret2
        exact ⟨_, rfl, FreshE.nil _ _ _, bc_then HW.out.1 h0⟩
    · have haf : amt1 sn = false := by simpa using ha
      have HX : Veil (L = [] ∧ ec = 120) := ⟨by have h := HR.out; unfold takeG at h; rw [if_neg (by simp [haf])] at h; simp only [Prod.mk.injEq] at h; exact ⟨h.1.symm, h.2.symm⟩⟩
      obtain ⟨e1, e2⟩ := HX.out
      subst e1 e2
      rw [hr] at HRt
      rw [haf] at HA
      clear ha haf hr HCt HWi HR
      go_enter Tryd.func36, Tryd.ntmps36
      go_wp2_with (first
        | (go_at_call 24; (with_reducible refine (HCt.out _ h0).mono ?_); rintro e w4 ⟨rfl, hb4⟩; have h0 := bc_then h0 hb4; obtain ⟨-, c0, c1⟩ := HE.out _ h0)
        | (go_at_call 50; refine (HA.out _).mono ?_; rintro e w3 ⟨rfl, hb3⟩; have h0 := bc_then h0 hb3; obtain ⟨-, c0, c1⟩ := HE.out _ h0)
        | (go_at_call 49; (with_reducible refine (HRt.out _ h0).mono ?_); rintro e w2 ⟨rfl, hb2⟩; have h0 := bc_then h0 hb2; obtain ⟨-, c0, c1⟩ := HE.out _ h0))
      go_ret2
      exact ⟨_, rfl, FreshE.nil _ _ _, bc_then HW.out.1 h0⟩
  · have hrf : rightG l = false := by simpa using hr
    have HX : Veil (L = [] ∧ ec = 120) := ⟨by have h := HR.out; unfold takeG at h; rw [if_neg (by simp [hrf])] at h; simp only [Prod.mk.injEq] at h; exact ⟨h.1.symm, h.2.symm⟩⟩
    obtain ⟨e1, e2⟩ := HX.out
    subst e1 e2
    rw [hrf] at HRt
    clear hr hrf HCt HWi HR
    generalize amt1 sn = am at HA
    go_enter Tryd.func36, Tryd.ntmps36
    go_wp2_with (first
      | (go_at_call 24; (with_reducible refine (HCt.out _ h0).mono ?_); rintro e w4 ⟨rfl, hb4⟩; have h0 := bc_then h0 hb4; obtain ⟨-, c0, c1⟩ := HE.out _ h0)
      | (go_at_call 50; refine (HA.out _).mono ?_; rintro e w3 ⟨rfl, hb3⟩; have h0 := bc_then h0 hb3; obtain ⟨-, c0, c1⟩ := HE.out _ h0)
      | (go_at_call 49; (with_reducible refine (HRt.out _ h0).mono ?_); rintro e w2 ⟨rfl, hb2⟩; have h0 := bc_then h0 hb2; obtain ⟨-, c0, c1⟩ := HE.out _ h0))
    go_ret2
    exact ⟨_, rfl, FreshE.nil _ _ _, bc_then HW.out.1 h0⟩

theorem moveG_eq (a b : List St) (s : St) : moveG a b s = if (takeG a s).2 = 0 then (if (giveG b s).2 = 0 then ((takeG a s).1, (giveG b s).1, 0) else ([], [], (giveG b s).2)) else ([], [], (takeG a s).2) := rfl
end Go.Proofs.YtckkiilbabbeaaaDoor

/- The law's cut of goods: the first thirty stacks, in new memory. -/
namespace Go.Proofs.YtckkiilbabbeaaaDoor
open Go Go.RowKit Sm
attribute [local go_sem] Oper.semAt_some

end Go.Proofs.YtckkiilbabbeaaaDoor
