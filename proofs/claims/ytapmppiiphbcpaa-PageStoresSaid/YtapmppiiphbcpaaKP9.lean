/- The walks of found and Decode. -/
import Derived.IntWalk
import Derived.Test.YtapmppiiphbcpaaKP8
namespace Go.Proofs.Ytapmppiiphbcpaa
open Go Go.RowKit Sm
attribute [local go_sem] Oper.semAt_some

theorem info_page : (Try.prog.info? 49).map (·.size) = some 4 := by kernel_rfl
theorem set4 {w : World} {g : Nat} {a0 a1 a2 a3 : Value} {t : TypeId} (h : w.heap[g]? = some (.cells #[a0, a1, a2, a3] t (0, 0))) (v0 v1 v2 v3 : Value) :
    ((((w.setCell ⟨g, 0, none⟩ v0).setCell ⟨g, 1, none⟩ v1).setCell ⟨g, 2, none⟩ v2).setCell ⟨g, 3, none⟩ v3).heap[g]? = some (.cells #[v0, v1, v2, v3] t (0, 0)) :=
  heap_setCell_at (heap_setCell_at (heap_setCell_at (heap_setCell_at h 0 v0) 1 v1) 2 v2) 3 v3
theorem turn4 {w0 w : World} {g : Nat} (h : Below w0.heap.size w0 w) (hg : w0.heap.size ≤ g) (v0 v1 v2 v3 : Value) :
    Below w0.heap.size w0 ((((w.setCell ⟨g, 0, none⟩ v0).setCell ⟨g, 1, none⟩ v1).setCell ⟨g, 2, none⟩ v2).setCell ⟨g, 3, none⟩ v3) :=
  (((h.setCell hg v0).setCell hg v1).setCell hg v2).setCell hg v3
theorem pack4 {w : World} {g : Nat} {a0 a1 a2 a3 : Value} {t : TypeId} (h : w.heap[g]? = some (.cells #[a0, a1, a2, a3] t (0, 0))) :
    (w.cell? ⟨g, 0, none⟩ = some a0 ∧ w.cell? ⟨g, 1, none⟩ = some a1 ∧ w.cell? ⟨g, 2, none⟩ = some a2 ∧ w.cell? ⟨g, 3, none⟩ = some a3) ∧ (w.frozen? ⟨g, 0, none⟩ = false ∧ w.frozen? ⟨g, 1, none⟩ = false ∧ w.frozen? ⟨g, 2, none⟩ = false ∧ w.frozen? ⟨g, 3, none⟩ = false) := by
  have h' : w.heap[g]? = some (.cells [a0, a1, a2, a3].toArray t (0, 0)) := h
  exact ⟨⟨cell_whole h' 0, cell_whole h' 1, cell_whole h' 2, cell_whole h' 3⟩, frozen_whole h _, frozen_whole h _, frozen_whole h _, frozen_whole h _⟩
theorem results_page {fn : Func} {p : Tmp} {T : TypeId} {tmps : Array Value} {w : World} {g : Nat} {x0 x1 x2 x3 : Value} (h : fn.results = #[.cell p T]) (hT : T = 49) (hp : tmps.getD p undef = .pointer (some ⟨g, 0, none⟩)) (hg : w.heap[g]? = some (.cells #[x0, x1, x2, x3] 49 (0, 0))) :
    (results fn tmps).run Try.prog w = .ok (.agg #[x0, x1, x2, x3]) w := by
  subst hT
  exact results_cell_row h _ _ g _ _ _ _ hp hg Try.underlying49 rfl info_page

theorem enc_of (s : List UInt8) (h256 : s.length = 256) (hn1 : lenOf s ≤ 237) : ∃ (u : List UInt8) (c : Int), (∀ W, Calls Try.prog 55 #[(Pg.of s).v] W fun e w' => e = .returned (.tuple #[.string ⟨u.toArray⟩, .int .i64 c]) ∧ Below W.heap.size W w') ∧ (u = s ↔ isPg s = true) := by
  have he := fun W => encode_any (Pg.of s) ⟨Pg.of_ok s hn1⟩ W
  unfold Pg.encR at he
  cases hr : (Pg.of s).right
  · refine ⟨[], 30, fun W => ?_, ?_⟩
    · have := he W
      rw [hr] at this
      simpa using this
    · simp [isPg, hr]
      intro h
      rw [h] at h256
      simp at h256
  · refine ⟨(Pg.of s).enc, 0, fun W => ?_, ?_⟩
    · have := he W
      rw [hr] at this
      simpa using this
    · simp [isPg, hr, h256, hn1]

set_option maxRecDepth 20000 in
set_option maxHeartbeats 2000000 in
theorem found_any (s : List UInt8) (hs : s.length ≤ 1000000) (w : World) : Calls Try.prog 80 #[.string ⟨s.toArray⟩] w fun e w' => e = .returned (pgOf s).v ∧ Below w.heap.size w w' := by
  obtain ⟨P, hP⟩ : ∃ P, pgOf s = P := ⟨_, rfl⟩
  have HP : Veil _ := ⟨hP⟩
  rw [hP]
  clear hP
  by_cases h256 : s.length = 256
  · have hk1 : getB (s.take 1) < 256 := by have := getB_pow (s.take 1); simpa [h256] using this
    have hi1 : getB ((s.drop 1).take 4) < 4294967296 := by have := getB_pow ((s.drop 1).take 4); simpa [h256] using this
    have ht1 := getB_lt ((s.drop 5).take 8)
    have hl1 : lenOf s < 65536 := by have := getB_pow ((s.drop 13).take 2); simpa [h256, lenOf] using this
    have hH : Veil (∀ (W : World) (cap : Nat), 256 ≤ cap → w.heap.size + 1 < W.heap.size → W.rangeAt (w.heap.size + 1) 0 (u8s s) → Calls Try.prog 93 #[.slice (some ⟨w.heap.size + 1, 0, none⟩) 256 cap, .slice (some ⟨W.heap.size, 0, none⟩) 4 4] (W.alloc (.cells #[.int .i64 1, .int .i64 4, .int .i64 8, .int .i64 2] 3)) fun e w' => ∃ g cp, e = .returned (.slice (some ⟨g, 0, none⟩) 4 cp) ∧ Veil (w'.cell? ⟨g, 0, none⟩ = some (.int .u64 (getB (s.take 1))) ∧ w'.cell? ⟨g, 1, none⟩ = some (.int .u64 (getB ((s.drop 1).take 4))) ∧ w'.cell? ⟨g, 2, none⟩ = some (.int .u64 (getB ((s.drop 5).take 8))) ∧ w'.cell? ⟨g, 3, none⟩ = some (.int .u64 (lenOf s)) ∧ g < w'.heap.size) ∧ Below W.heap.size W w') :=
      ⟨fun W cap h1 h2 h3 => heads_any _ cap s h256 h1 W h2 ⟨h3⟩⟩
    obtain ⟨W0, hW0⟩ : ∃ W0, w.alloc (.cells #[.int .i64 0, .int .u32 0, .int .u64 0, .string ⟨#[]⟩] 49) = W0 := ⟨_, rfl⟩
    have hz0 : W0.heap.size = w.heap.size + 1 := by rw [← hW0]; simp
    have hb0 : Veil (Below w.heap.size w W0) := ⟨by rw [← hW0]; exact below_al (Below.refl _ _) _⟩
    have hp0 : Veil (W0.heap[w.heap.size]? = some (.cells #[.int .i64 0, .int .u32 0, .int .u64 0, .string ⟨#[]⟩] 49 (0, 0))) := ⟨by rw [← hW0]; exact heap_alloc_new _ _⟩
    obtain ⟨cap, W1, hcv, hb1, hr1, hcap, hz1⟩ := bytes_row s W0
    rw [h256] at hcap hcv
    rw [hz0] at hcv hr1 hz1
    have HH := hH.out W1 cap hcap hz1 hr1
    have HC : Veil (∀ n : Nat, n ≤ 237 → ∀ W : World, Calls Try.prog 58 #[.slice (some ⟨w.heap.size + 1, 0, none⟩) 256 cap, .int .i64 15, .int .i64 n] W fun e w' => e = .returned (.slice (some ⟨w.heap.size + 1, cutAt 15 n, none⟩) n n) ∧ W = w') := ⟨fun n hn W => cut_any (w.heap.size + 1) 15 n 256 cap (by omega) (by omega) hcap W⟩
    have HR1 : Veil _ := ⟨hr1⟩
    have HB1 : Veil (Below w.heap.size w W1) := ⟨hb0.out.trans (hb1.mono (by omega))⟩
    have hp1 : Veil (W1.heap[w.heap.size]? = some (.cells #[.int .i64 0, .int .u32 0, .int .u64 0, .string ⟨#[]⟩] 49 (0, 0))) := ⟨by rw [hb1.block _ (by omega)]; exact hp0.out⟩
    have HZ1 : Veil _ := ⟨hz1⟩
    clear hH hb1 hr1 hz0 hcap hb0 hp0 hz1
    by_cases hn1 : lenOf s ≤ 237
    · obtain ⟨u, c, hE, hU⟩ := enc_of s h256 hn1
      have HPu : Veil (P = if u = s then Pg.of s else Pg.zero) := ⟨by rw [← HP.out]; unfold pgOf; by_cases h : isPg s = true <;> simp [h, hU]⟩
      have HBL : Veil (((s.drop 15).take (lenOf s)).length = lenOf s) := ⟨by simp [h256]; omega⟩
      have HRB : Veil (W1.rangeAt (w.heap.size + 1) (cutAt 15 (lenOf s)) (u8s ((s.drop 15).take (lenOf s)))) := ⟨fun j v hj => by
        have hjl : j < lenOf s := by
          have := (List.getElem?_eq_some_iff.1 hj).1
          simp [length_u8s] at this
          omega
        rw [show cutAt 15 (lenOf s) = 15 from if_neg (by omega)]
        have h1 : (u8s s)[15 + j]? = some v := by
          rw [← hj]; simp [u8s, hjl]
        have := HR1.out (15 + j) v h1
        rwa [Nat.zero_add] at this⟩
      have hof : Pg.of s = ⟨getB (s.take 1), getB ((s.drop 1).take 4), getB ((s.drop 5).take 8), (s.drop 15).take (lenOf s)⟩ := rfl
      rw [hof] at HPu hE
      clear hof HP hU HR1
      unfold Pg.v at hE
      simp only at hE
      revert hk1 hi1 ht1 hl1 HH hn1 HPu HBL HRB hE
      generalize getB (s.take 1) = k1
      generalize getB ((s.drop 1).take 4) = i1
      generalize getB ((s.drop 5).take 8) = t1
      generalize (s.drop 15).take (lenOf s) = bd
      generalize lenOf s = n1
      intro hk1 hi1 ht1 hl1 HH hn1 hE HPu HBL HRB
      have hE' : Veil _ := ⟨hE⟩
      have HHH : Veil _ := ⟨HH⟩
      have hcut := fun W => HC.out n1 hn1 W
      have hcut' : Veil _ := ⟨hcut⟩
      obtain ⟨ca, hca⟩ : ∃ ca, cutAt 15 n1 = ca := ⟨_, rfl⟩
      have hw1 : IntKind.i64.wrap (k1 : Int) = k1 := by rw [IntKind.wrap_i64]; omega
      have hw2 : IntKind.u32.wrap (i1 : Int) = i1 := by rw [IntKind.wrap_u32']; omega
      have hn237 : ¬ (237 : Int) < n1 := by omega
      rw [hca] at hcut' HRB
      have HT1 : Veil _ := ⟨ht1⟩
      clear HH hE hcut hca HC ht1
      go_enter Try.func80, Try.ntmps80
      go_wp2_with (first | (go_at_call 93; refine HHH.out.mono ?_; rintro e w2 ⟨g, cp, rfl, hcs, hb2⟩; have hg3 := hcs.out.2.2.2.1) | (go_at_call 58; refine (hcut'.out _).mono ?_; rintro e w3 ⟨rfl, rfl⟩))
      obtain ⟨W3, hW3⟩ : ∃ W3, w2.drew = W3 := ⟨_, rfl⟩
      have hr3 : W3.rangeAt (w.heap.size + 1) ca (u8s bd) := fun j v hj => by
        rw [← hW3]
        exact (hb2.cell HZ1.out).trans (HRB.out j v hj)
      have hS3 : W3.cell? ⟨g, 0, none⟩ = some (.int .u64 k1) ∧ W3.cell? ⟨g, 1, none⟩ = some (.int .u64 i1) ∧ W3.cell? ⟨g, 2, none⟩ = some (.int .u64 t1) ∧ W3.rangeAt (w.heap.size + 1) ca (u8s bd) := ⟨by rw [← hW3]; exact hcs.out.1, by rw [← hW3]; exact hcs.out.2.1, by rw [← hW3]; exact hcs.out.2.2.1, hr3⟩
      have HS3 : Veil _ := ⟨hS3⟩
      have HB3 : Veil (Below w.heap.size w W3) := ⟨by rw [← hW3]; exact (HB1.out.trans (hb2.mono HB1.out.size)).drew⟩
      have HP3 : Veil (W3.heap[w.heap.size]? = some (.cells #[.int .i64 0, .int .u32 0, .int .u64 0, .string ⟨#[]⟩] 49 (0, 0))) := ⟨by rw [← hW3]; exact (hb2.block w.heap.size (by have := HZ1.out; omega)).trans hp1.out⟩
      have HZ3 : Veil (w.heap.size + 1 < W3.heap.size ∧ g < W3.heap.size) := ⟨by rw [← hW3]; exact ⟨Nat.lt_of_lt_of_le HZ1.out hb2.size, hcs.out.2.2.2.2⟩⟩
      clear hr3 hS3 hg3 hb2
      refine region_plan 15 [(true, 0), (true, 1), (true, 2), (true, 3), (true, 4), (true, 5), (true, 6), (true, 7), (true, 8), (true, 9), (true, 10), (true, 11), (true, 12), (true, 13), (false, 14)] (by kernel_rfl) (by kernel_rfl) (fun w' => w'.cell? ⟨g, 0, none⟩ = some (.int .u64 k1) ∧ w'.cell? ⟨g, 1, none⟩ = some (.int .u64 i1) ∧ w'.cell? ⟨g, 2, none⟩ = some (.int .u64 t1) ∧ w'.rangeAt (w.heap.size + 1) ca (u8s bd)) W3 hW3 HS3.out ?_
      simp only [planOps, List.filterMap_cons, List.filterMap_nil, List.getElem?_toArray, List.getElem?_cons_zero, List.getElem?_cons_succ, Option.map_some]
      iterate 12 (refine plan_quiet rfl ?_ ?_ (fun K hK => ?_); rotate_left; (rintro w' ⟨s0, s1, s2, s3⟩; go_simp; rfl); (go_simp; refine hK _ ?_; clear hK K))
      refine plan_quiet rfl (.string ⟨bd.toArray⟩) (fun w' hS' => ?_) (fun K hK => ?_)
      · have hc := run_convert_u8s (P := Try.prog) w' 104 9 5 Try.underlying104 Try.underlying5 Try.underlying9 (w.heap.size + 1) ca n1 bd hS'.2.2.2
        rw [HBL.out] at hc
        clear hS'
        go_simp
      go_simp
      refine hK _ ?_
      clear hK K
      refine plan_quiet rfl ?_ ?_ (fun K hK => ?_)
      rotate_left
      · rintro w' ⟨s0, s1, s2, s3⟩
        go_simp
        rfl
      go_simp
      refine hK _ ?_
      clear hK K
      refine plan_change (fun K hK => ?_)
      go_wp2
      have HA : Veil (Below W3.heap.size W3 (W3.alloc (.cells #[.int .i64 0, .int .u32 0, .int .u64 0, .string ⟨#[]⟩] 49))) := ⟨below_al (Below.refl _ _) _⟩
      refine hK _ _ ⟨(HA.out.cell HZ3.out.2).trans HS3.out.1, (HA.out.cell HZ3.out.2).trans HS3.out.2.1, (HA.out.cell HZ3.out.2).trans HS3.out.2.2.1, fun j v hj => (HA.out.cell HZ3.out.1).trans (HS3.out.2.2.2 j v hj)⟩ ?_
      clear hK K
      refine wpPlan_nil ?_
      simp only [List.drop_succ_cons, List.drop_zero]
      clear HA
      go_wp2
      refine only_normal ?_
      obtain ⟨W4, hW4⟩ : ∃ W4, W3.alloc (.cells #[.int .i64 k1, .int .u32 i1, .int .u64 t1, .string ⟨bd.toArray⟩] 49) = W4 := ⟨_, rfl⟩
      rw [hW4]
      have hp4 : W4.heap[W3.heap.size]? = some (.cells #[.int .i64 k1, .int .u32 i1, .int .u64 t1, .string ⟨bd.toArray⟩] 49 (0, 0)) := by rw [← hW4]; exact heap_alloc_new _ _
      have HP4 : Veil (W4.heap[w.heap.size]? = some (.cells #[.int .i64 0, .int .u32 0, .int .u64 0, .string ⟨#[]⟩] 49 (0, 0))) := ⟨by rw [← hW4, Below.heap_alloc _ _ _ (by have := HZ3.out.1; omega)]; exact HP3.out⟩
      have HB4 : Veil (Below w.heap.size w W4) := ⟨by rw [← hW4]; exact below_al HB3.out _⟩
      have HZ4 : Veil (w.heap.size + 1 < W4.heap.size ∧ W3.heap.size < W4.heap.size) := ⟨by rw [← hW4]; have := HZ3.out; simp; omega⟩
      obtain ⟨⟨y0, y1, y2, y3⟩, -⟩ := pack4 hp4
      have HY4 : Veil _ := ⟨hp4⟩
      generalize W3.heap.size = B6 at *
      clear hW4 hW3 HS3 HB3 HP3 HZ3 hcv hW0 hp4 hcs hw1 hw2 hn237 hn1 hk1 hi1
      by_cases hus : u = s
      · have hP : P = ⟨k1, i1, t1, bd⟩ := by rw [HPu.out, if_pos hus]
        subst hP
        subst hus
        go_wp2_with (go_at_call 55; refine (hE'.out _).mono ?_; rintro e w5 ⟨rfl, hb5⟩; have hp5 : Veil _ := ⟨(hb5.block w.heap.size (by have := HZ4.out; omega)).trans HP4.out⟩; obtain ⟨⟨q0, q1, q2, q3⟩, f0, f1, f2, f3⟩ := pack4 hp5.out; obtain ⟨⟨z0, z1, z2, z3⟩, -⟩ := pack4 ((hb5.block B6 HZ4.out.2).trans HY4.out))
        exact bodyPost_ret (results_page (g := w.heap.size) rfl rfl rfl (set4 hp5.out _ _ _ _)) rfl ⟨rfl, turn4 (HB4.out.trans (hb5.mono HB4.out.size)) (Nat.le_refl _) _ _ _ _⟩
      · have hP : P = Pg.zero := by rw [HPu.out, if_neg hus]
        subst hP
        have heq : (u == s) = false := by simpa using hus
        go_wp2_with (go_at_call 55; refine (hE'.out _).mono ?_; rintro e w5 ⟨rfl, hb5⟩; have hp5 : Veil _ := ⟨(hb5.block w.heap.size (by have := HZ4.out; omega)).trans HP4.out⟩; obtain ⟨⟨q0, q1, q2, q3⟩, f0, f1, f2, f3⟩ := pack4 hp5.out; obtain ⟨⟨z0, z1, z2, z3⟩, -⟩ := pack4 ((hb5.block B6 HZ4.out.2).trans HY4.out))
        exact bodyPost_ret (results_page (g := w.heap.size) rfl rfl rfl (set4 hp5.out _ _ _ _)) rfl ⟨rfl, turn4 (HB4.out.trans (hb5.mono HB4.out.size)) (Nat.le_refl _) _ _ _ _⟩
    · have e0 : P = Pg.zero := by rw [← HP.out]; unfold pgOf isPg; simp [hn1]
      subst e0
      clear HP
      revert HH hl1 hn1
      generalize lenOf s = n1
      intro hl1 HH hn1
      have hn1' : (237 : Int) < n1 := by omega
      have HHH : Veil _ := ⟨HH⟩
      clear HH hk1 hi1 ht1 HC hn1
      go_enter Try.func80, Try.ntmps80
      go_wp2_with (go_at_call 93; refine HHH.out.mono ?_; rintro e w2 ⟨g, cp, rfl, hcs, hb2⟩; have hg3 := hcs.out.2.2.2.1; have hp2 : Veil _ := ⟨(hb2.block w.heap.size (by have := HZ1.out; omega)).trans hp1.out⟩; obtain ⟨⟨q0, q1, q2, q3⟩, f0, f1, f2, f3⟩ := pack4 hp2.out)
      exact bodyPost_ret (results_page (g := w.heap.size) rfl rfl rfl (set4 hp2.out _ _ _ _)) rfl ⟨rfl, turn4 (HB1.out.trans (hb2.mono HB1.out.size)) (Nat.le_refl _) _ _ _ _⟩
  · have e0 : P = Pg.zero := by rw [← HP.out]; unfold pgOf isPg; simp [h256]
    subst e0
    clear HP
    go_enter Try.func80, Try.ntmps80
    go_wp2
    exact bodyPost_ret (results_page rfl rfl rfl (heap_alloc_new _ _)) rfl ⟨rfl, below_al (Below.refl _ _) _⟩
end Go.Proofs.Ytapmppiiphbcpaa
