/- slices.Insert, slices.Replace over uint32. -/
import Derived.Laws.Externs
import Derived.Test.YtokbmimbbeedcaaGreatDoorKV0
import Derived.Test.YtokbmimbbeedcaaGreatDoorKG
import Derived.Test.YtokbmimbbeedcaaGreatDoorKN1
namespace Go.Proofs.YtokbmimbbeedcaaGreatDoor
open Go Go.RowKit Sm
attribute [local go_sem] Oper.semAt_some

theorem slD : elD.sl = 51 := rfl
theorem zD : elD.z = 1 := rfl
theorem zcD : elD.zero.cells = #[elD.zero] := rfl
theorem zoD : elD.zero.oneCell' = true := rfl
theorem sizeD : (Tryz.prog.info? 23).map (·.size) = some 1 := by kernel_rfl
theorem overD {w : World} {g g2 : Nat} {cur cur2 : List Value} (h1 : BlkE elD w g cur) (h2 : BlkE elD w g2 cur2) (hne : g ≠ g2) (hn : 0 < cur2.length) (o1 o2 la ca lb cb : Nat) :
    (callFunc 94 #[.slice (some ⟨g, o1, none⟩) la ca, .slice (some ⟨g2, o2, none⟩) lb cb]).run Tryz.prog w = .ok (.value (.bool false)) w := by
  have hz : ∀ w : World, (Go.sizeOf elD.ty).run Tryz.prog w = .ok 1 w := fun w => by kernel_rfl
  rw [run_callFunc_extern Tryz.func94 (by kernel_rfl) (by kernel_rfl) (by kernel_rfl) (e := Extern.SlicesOverlaps.overlaps #[51, 51] #[4]) (by kernel_rfl),
    Go.Lib.run_overlaps_apart w 51 4 elD.ty elD.under 1 hz ⟨g, o1, none⟩ ⟨g2, o2, none⟩ la ca lb cb hne elD.ty elD.ty cur.length cur2.length
      (by simp [World.shape?, show w.heap[g]? = _ from h1]) (by simp [World.shape?, show w.heap[g2]? = _ from h2]) (by omega) (frozen_whole h1 _) (frozen_whole h1 _)]
  rfl
/-- What is handed in beside: a list in a block of its own. -/
structure BesideD (w : World) (g : Nat) (q : Option Addr) (cq : Nat) (V : List Nat) (g2 : Nat) (cur2 : List Value) : Prop where
  q : q = some ⟨g2, 0, none⟩
  b : BlkE elD w g2 cur2
  ne : g ≠ g2
  pos : 0 < cur2.length

set_option maxRecDepth 20000 in
set_option maxHeartbeats 2000000 in
theorem replD_fit {w : World} {g n c i j m t : Nat} {cur : List Value} {q : Option Addr} {cq : Nat} (V : List Nat) (hb : BlkE elD w g cur) (hc : cur.length = c) (hc6 : c ≤ 9223372036854775807) (hn : n ≤ c) (hij : i < j) (hjn : j < n) (hV : Els elD w q V) (hm : V.length = m) (hm6 : m ≤ 100000) (hn6 : n ≤ 100000) (hone : ∀ v ∈ cur.take n, v.oneCell' = true) (hfit : i + m ≤ j) (ht : i + m + (n - j) = t) :
    Calls Tryz.prog 68 #[.slice (some ⟨g, 0, none⟩) n c, .int .i64 i, .int .i64 j, .slice q m cq] w fun e w' => e = .returned (.slice (some ⟨g, 0, none⟩) t c) ∧ Turned (· = g) w w' ∧ ∃ cur', BlkE elD w' g cur' ∧ cur'.length = c ∧ cur'.take t = cur.take i ++ elCells elD V ++ (cur.take n).drop j := by
  obtain ⟨k, hk⟩ : ∃ k, i + m = k := ⟨_, rfl⟩
  have hjn2 : j ≤ n := by omega
  have hjc : j ≤ c := by omega
  have hic : i ≤ c := by omega
  have hci : ¬ c = i := by omega
  have hin : i ≤ n := by omega
  have e1 : ((i : Int) == (j : Int)) = false := by simp; omega
  have hwk : IntKind.i64.wrap ((i : Int) + (m : Int)) = (k : Int) := by rw [IntKind.wrap_i64]; omega
  have HK : Veil _ := ⟨hk⟩
  have e2 : ((j : Int) == (n : Int)) = false := by simp; omega
  have hcj : ¬ c = j := by omega
  have hkt : k ≤ t := by omega
  have hit : i ≤ t := by omega
  have HE : Veil (((k : Int) + ((n - j : Nat) : Int)) = (t : Int)) := ⟨by omega⟩
  have HT : Veil (t = k + (n - j)) := ⟨by omega⟩
  have HWt : Veil (wrap64 (t : Int) = t) := ⟨by unfold wrap64; omega⟩
  have htn : t ≤ n := by omega
  have htc : t ≤ c := by omega
  have hkc : ¬ c = k := by omega
  have hfj : k ≤ j := by omega
  have hl := cells1_len (E := elD) rfl V
  rw [hm] at hl
  have HO : Veil _ := ⟨elCells_one elD V⟩
  have HP : Veil (∀ W, Turned (fun _ => False) w W → 0 < (elCells elD V).length → ∃ ad, q = some ad ∧ ∀ j v, (elCells elD V)[j]? = some v → W.cell? (ad.add j) = some v) := ⟨fun W hW hpos => by
    have hne : V ≠ [] := by rintro rfl; simp [elCells] at hpos
    obtain ⟨b, o, rfl, hr⟩ := hV hne
    exact ⟨_, rfl, (hV.turned hW (fun _ _ h => h)).news _ rfl⟩⟩
  generalize elCells elD V = CV at HO HP hl ⊢
  have HB : Veil (∀ W, Turned (fun _ => False) w W → W.heap[g]? = some (.cells cur.toArray 23 (0, 0))) := ⟨fun W hW => hW.heap hb (fun h => h)⟩
  have HN : Veil (CV.length = m ∧ cur.length = c ∧ ((cur.take n).drop j).length = n - j) := ⟨hl, hc, by rw [List.length_drop, List.length_take]; omega⟩
  have HO2 : Veil (∀ v ∈ (cur.take n).drop j, v.oneCell' = true) := ⟨fun v hv => hone v (List.mem_of_mem_drop hv)⟩
  clear hb hV hm hl hc hfit ht hk hone
  go_enter Tryz.func68, Tryz.ntmps68
  go_wp2
  go_quiet (fail)
  rw [HE.out]
  try rw [HWt.out]
  obtain ⟨W1, hW1⟩ : ∃ W1, w.drewN nq = W1 := ⟨_, rfl⟩
  have HT1 : Veil (Turned (fun _ => False) w W1) := ⟨by rw [← hW1]; exact (Turned.refl _ w).drewN nq⟩
  have HS1 : Veil (W1.heap.size = w.heap.size) := ⟨by rw [← hW1]; exact (show (w.drewN nq).heap.size = w.heap.size from by simp)⟩
  rw [hW1]
  clear hW1
  go_wp2_with (with_reducible refine wpList_copy_at rfl (.tmp 95) (.tmp 96) 51 51 rfl 23 Tryz.underlying51 sizeD _ _ _ _ _ _ rfl rfl g i cur 23 (HB.out _ HT1.out) CV (by rw [HN.out.1]; exact (Nat.min_eq_left (by have := HK.out; omega)).symm) (fun hp => ⟨rfl, HP.out _ HT1.out hp⟩) (by rw [HN.out.1, HN.out.2.1]; have := HK.out; omega) HO.out ?_; intro w2 hb2 hT2)
  obtain ⟨W3, hW3⟩ : ∃ W3, w2.drew = W3 := ⟨_, rfl⟩
  have HT3 : Veil (Turned (· = g) w W3) := ⟨by rw [← hW3]; exact ((HT1.out.wider (F := (· = g)) (fun _ _ h => h.elim)).trans hT2).drew⟩
  have HB3 : Veil (W3.heap[g]? = some (.cells (splice cur i CV).toArray 23 (0, 0))) := ⟨by rw [← hW3]; exact hb2⟩
  refine region_tail 9 (by kernel_rfl) (by kernel_rfl) W3 hW3 ?_
  clear hW3 hb2 hT2
  simp only [List.take_succ_cons, List.take_zero, List.drop_succ_cons, List.drop_zero]
  iterate 9 still_step
  refine wpStill_nil ?_
  have hls : (splice cur i CV).length = c := by rw [splice_len _ _ _ (by rw [HN.out.1, HN.out.2.1]; have := HK.out; omega)]; exact HN.out.2.1
  have HLS : Veil _ := ⟨hls⟩
  have HSRC : Veil (∀ x v, ((cur.take n).drop j)[x]? = some v → W3.cell? ((⟨g, j, none⟩ : Addr).add x) = some v) := ⟨BlkE.from (E := elD) HB3.out j _ (fun x v hx => by
    rw [splice_aft _ _ _ _ (by rw [HN.out.1]; have := HK.out; omega) (by rw [HN.out.2.1]; omega)]
    exact drop_get hx)⟩
  clear hls
  go_wp2_with (with_reducible refine wpList_copy_at rfl (.tmp 103) (.tmp 106) 51 51 rfl 23 Tryz.underlying51 sizeD _ _ _ _ _ _ rfl rfl g k (splice cur i CV) 23 HB3.out ((cur.take n).drop j) (by rw [HN.out.2.2]; exact (Nat.min_eq_left (by have := HT.out; omega)).symm) (fun _ => ⟨rfl, _, rfl, HSRC.out⟩) (by rw [HN.out.2.2, HLS.out]; have := HT.out; omega) HO2.out ?_; intro w4 hb4 hT4)
  have HT4 : Veil (Turned (· = g) w w4) := ⟨HT3.out.trans hT4⟩
  have HB4 : Veil (BlkE elD w4 g (splice (splice cur i CV) k ((cur.take n).drop j))) := ⟨hb4⟩
  have hl4 : (splice (splice cur i CV) k ((cur.take n).drop j)).length = c := by rw [splice_len _ _ _ (by rw [HN.out.2.2, HLS.out]; have := HT.out; omega)]; exact HLS.out
  have HL4 : Veil _ := ⟨hl4⟩
  clear hb4 hT4 hl4
  refine only_normal ?_
  by_cases hct : c = t
  · go_wp2_with (with_reducible refine wpList_clear_blk elD 51 slD zD zcD zoD rfl (.tmp 110) rfl _ _ _ rfl g 0 _ (fun h => absurd h (by omega)) HB4.out (by rw [HL4.out]; omega) ?_; intro w5 hb5 hT5)
    go_ret
    rw [show n - t = 0 by omega, List.replicate_zero, splice_nil] at hb5
    refine ⟨by rw [hct]; rfl, HT4.out.trans hT5, _, hb5, HL4.out, ?_⟩
    rw [splice_end _ _ _ _ (by rw [HN.out.2.2]; exact HT.out) (by rw [HLS.out]; omega), splice_end _ _ _ _ (by rw [HN.out.1]; exact HK.out.symm) (by rw [HN.out.2.1]; exact hic)]
  · go_wp2_with (with_reducible refine wpList_clear_blk elD 51 slD zD zcD zoD rfl (.tmp 110) rfl _ _ _ rfl g t _ (fun _ => rfl) HB4.out (by rw [HL4.out]; omega) ?_; intro w5 hb5 hT5)
    go_ret
    refine ⟨rfl, HT4.out.trans hT5, _, hb5, ?_, ?_⟩
    · rw [splice_len _ _ _ (by rw [HL4.out, List.length_replicate]; omega)]; exact HL4.out
    · rw [splice_pre _ _ _ _ (Nat.le_refl _) (by rw [HL4.out]; exact htc), splice_end _ _ _ _ (by rw [HN.out.2.2]; exact HT.out) (by rw [HLS.out]; omega), splice_end _ _ _ _ (by rw [HN.out.1]; exact HK.out.symm) (by rw [HN.out.2.1]; exact hic)]
set_option maxRecDepth 20000 in
set_option maxHeartbeats 2000000 in
theorem replD_shift {w : World} {g n c i j m t : Nat} {cur : List Value} {q : Option Addr} {cq : Nat} (V : List Nat) (hb : BlkE elD w g cur) (hc : cur.length = c) (hc6 : c ≤ 9223372036854775807) (hn : n ≤ c) (hij : i < j) (hjn : j < n) (hV : Els elD w q V) (hm : V.length = m) (hm6 : m ≤ 100000) (hn6 : n ≤ 100000) (hone : ∀ v ∈ cur.take n, v.oneCell' = true) {g2 : Nat} {cur2 : List Value} (hBs : BesideD w g q cq V g2 cur2) (hfit : j < i + m) (ht : i + m + (n - j) = t) (htc : t ≤ c) :
    Calls Tryz.prog 68 #[.slice (some ⟨g, 0, none⟩) n c, .int .i64 i, .int .i64 j, .slice q m cq] w fun e w' => e = .returned (.slice (some ⟨g, 0, none⟩) t c) ∧ Turned (· = g) w w' ∧ ∃ cur', BlkE elD w' g cur' ∧ cur'.length = c ∧ cur'.take t = cur.take i ++ elCells elD V ++ (cur.take n).drop j := by
  obtain ⟨k, hk⟩ : ∃ k, i + m = k := ⟨_, rfl⟩
  have hjn2 : j ≤ n := by omega
  have hjc : j ≤ c := by omega
  have hic : i ≤ c := by omega
  have hci : ¬ c = i := by omega
  have hin : i ≤ n := by omega
  have e1 : ((i : Int) == (j : Int)) = false := by simp; omega
  have hwk : IntKind.i64.wrap ((i : Int) + (m : Int)) = (k : Int) := by rw [IntKind.wrap_i64]; omega
  have HK : Veil _ := ⟨hk⟩
  have e2 : ((j : Int) == (n : Int)) = false := by simp; omega
  have hcj : ¬ c = j := by omega
  have hkt : k ≤ t := by omega
  have hit : i ≤ t := by omega
  have HE : Veil (((k : Int) + ((n - j : Nat) : Int)) = (t : Int)) := ⟨by omega⟩
  have HT : Veil (t = k + (n - j)) := ⟨by omega⟩
  have HWt : Veil (wrap64 (t : Int) = t) := ⟨by unfold wrap64; omega⟩
  have hkc : ¬ c = k := by omega
  have hfj : ¬ k ≤ j := by omega
  have hfk : j < k := by omega
  have hl := cells1_len (E := elD) rfl V
  rw [hm] at hl
  have HO : Veil _ := ⟨elCells_one elD V⟩
  have HP : Veil (∀ W, Turned (fun _ => False) w W → 0 < (elCells elD V).length → ∃ ad, q = some ad ∧ ∀ j v, (elCells elD V)[j]? = some v → W.cell? (ad.add j) = some v) := ⟨fun W hW hpos => by
    have hne : V ≠ [] := by rintro rfl; simp [elCells] at hpos
    obtain ⟨b, o, rfl, hr⟩ := hV hne
    exact ⟨_, rfl, (hV.turned hW (fun _ _ h => h)).news _ rfl⟩⟩
  generalize elCells elD V = CV at HO HP hl ⊢
  have HB : Veil (∀ W, Turned (fun _ => False) w W → W.heap[g]? = some (.cells cur.toArray 23 (0, 0))) := ⟨fun W hW => hW.heap hb (fun h => h)⟩
  have HN : Veil (CV.length = m ∧ cur.length = c ∧ ((cur.take n).drop j).length = n - j) := ⟨hl, hc, by rw [List.length_drop, List.length_take]; omega⟩
  have HO2 : Veil (∀ v ∈ (cur.take n).drop j, v.oneCell' = true) := ⟨fun v hv => hone v (List.mem_of_mem_drop hv)⟩
  have HOv : Veil (∀ W, Turned (fun _ => False) w W → ∀ o1 la ca lb cb, (callFunc 94 #[.slice (some ⟨g, o1, none⟩) la ca, .slice (some ⟨g2, 0, none⟩) lb cb]).run Tryz.prog W = .ok (.value (.bool false)) W) := ⟨fun W hW o1 la ca lb cb => overD (hb.turned hW (fun h => h)) (hBs.b.turned hW (fun h => h)) hBs.ne hBs.pos o1 0 la ca lb cb⟩
  have HNe : Veil _ := ⟨hBs.ne⟩
  obtain rfl := hBs.q
  clear hb hV hm hl hc hfit ht hk hone hBs
  go_enter Tryz.func68, Tryz.ntmps68
  go_wp2
  go_quiet (fail)
  rw [HE.out]
  try rw [HWt.out]
  obtain ⟨W1, hW1⟩ : ∃ W1, w.drewN nq = W1 := ⟨_, rfl⟩
  have HT1 : Veil (Turned (fun _ => False) w W1) := ⟨by rw [← hW1]; exact (Turned.refl _ w).drewN nq⟩
  have HS1 : Veil (W1.heap.size = w.heap.size) := ⟨by rw [← hW1]; exact (show (w.drewN nq).heap.size = w.heap.size from by simp)⟩
  rw [hW1]
  clear hW1
  have hov := HOv.out _ HT1.out
  go_wp2_with (simp only [hov])
  clear hov
  obtain ⟨W3, hW3⟩ : ∃ W3, W1.drew = W3 := ⟨_, rfl⟩
  have HT3 : Veil (Turned (fun _ => False) w W3) := ⟨by rw [← hW3]; exact HT1.out.drew⟩
  refine region_tail 9 (by kernel_rfl) (by kernel_rfl) W3 hW3 ?_
  clear hW3
  simp only [List.take_succ_cons, List.take_zero, List.drop_succ_cons, List.drop_zero]
  iterate 9 still_step
  refine wpStill_nil ?_
  have HSRC : Veil (∀ x v, ((cur.take n).drop j)[x]? = some v → W3.cell? ((⟨g, j, none⟩ : Addr).add x) = some v) := ⟨BlkE.from (E := elD) (HB.out _ HT3.out) j _ (fun x v hx => drop_get hx)⟩
  go_wp2_with (with_reducible refine wpList_copy_at rfl (.tmp 126) (.tmp 129) 51 51 rfl 23 Tryz.underlying51 sizeD _ _ _ _ _ _ rfl rfl g k cur 23 (HB.out _ HT3.out) ((cur.take n).drop j) (by rw [HN.out.2.2]; exact (Nat.min_eq_left (by have := HT.out; omega)).symm) (fun _ => ⟨rfl, _, rfl, HSRC.out⟩) (by rw [HN.out.2.2, HN.out.2.1]; have := HT.out; omega) HO2.out ?_; intro w4 hb4 hT4)
  have hls : (splice cur k ((cur.take n).drop j)).length = c := by rw [splice_len _ _ _ (by rw [HN.out.2.2, HN.out.2.1]; have := HT.out; omega)]; exact HN.out.2.1
  have HLS : Veil _ := ⟨hls⟩
  have HT4 : Veil (Turned (· = g) w w4) := ⟨(HT3.out.wider (F := (· = g)) (fun _ _ h => h.elim)).trans hT4⟩
  have HP4 : Veil (0 < CV.length → ∃ ad, (some ⟨g2, 0, none⟩ : Option Addr) = some ad ∧ ∀ j v, CV[j]? = some v → w4.cell? (ad.add j) = some v) := ⟨fun hp => by
    obtain ⟨ad, he, hr⟩ := HP.out _ HT3.out hp
    cases he
    exact ⟨_, rfl, fun j v hj => hT4.cell (hr j v hj) (by rw [Addr.add_lit]; exact fun e => HNe.out e.symm)⟩⟩
  have HB4 : Veil (w4.heap[g]? = some (.cells (splice cur k ((cur.take n).drop j)).toArray 23 (0, 0))) := ⟨hb4⟩
  clear hls hb4 hT4
  refine only_normal ?_
  go_wp2_with (with_reducible refine wpList_copy_at rfl (.tmp 133) (.tmp 134) 51 51 rfl 23 Tryz.underlying51 sizeD _ _ _ _ _ _ rfl rfl g i (splice cur k ((cur.take n).drop j)) 23 HB4.out CV (by rw [HN.out.1]; exact (Nat.min_eq_left (by have := HK.out; omega)).symm) (fun hp => ⟨rfl, HP4.out hp⟩) (by rw [HN.out.1, HLS.out]; have := HK.out; omega) HO.out ?_; intro w5 hb5 hT5)
  go_ret
  refine ⟨rfl, HT4.out.trans hT5, _, hb5, ?_, ?_⟩
  · rw [splice_len _ _ _ (by rw [HN.out.1, HLS.out]; have := HK.out; omega)]; exact HLS.out
  · rw [splice_mid _ _ _ _ (by rw [HN.out.1]; have := HK.out; omega) (by rw [HLS.out]; exact htc), splice_pre _ _ _ _ (by have := HK.out; omega) (by rw [HN.out.2.1]; omega), splice_end _ _ _ _ (by rw [HN.out.2.2]; exact HT.out) (by rw [HN.out.2.1]; omega), HN.out.1, HK.out, List.drop_left' (by rw [List.length_take, HN.out.2.1]; omega)]
set_option maxRecDepth 20000 in
set_option maxHeartbeats 2000000 in
theorem replD_grow {w : World} {g n c i j m t : Nat} {cur : List Value} {q : Option Addr} {cq : Nat} (V : List Nat) (hb : BlkE elD w g cur) (hc : cur.length = c) (hc6 : c ≤ 9223372036854775807) (hn : n ≤ c) (hij : i < j) (hjn : j < n) (hV : Els elD w q V) (hm : V.length = m) (hm6 : m ≤ 100000) (hn6 : n ≤ 100000) (hone : ∀ v ∈ cur.take n, v.oneCell' = true) (ht : i + m + (n - j) = t) (htc : c < t) :
    Calls Tryz.prog 68 #[.slice (some ⟨g, 0, none⟩) n c, .int .i64 i, .int .i64 j, .slice q m cq] w fun e w' => ∃ c', e = .returned (.slice (some ⟨w.heap.size, 0, none⟩) t c') ∧ Below w.heap.size w w' ∧ ∃ cur', BlkE elD w' w.heap.size cur' ∧ cur'.length = c' ∧ t ≤ c' ∧ c' ≤ maxLen ∧ cur'.take t = cur.take i ++ elCells elD V ++ (cur.take n).drop j := by
  obtain ⟨k, hk⟩ : ∃ k, i + m = k := ⟨_, rfl⟩
  have hjn2 : j ≤ n := by omega
  have hjc : j ≤ c := by omega
  have hic : i ≤ c := by omega
  have hci : ¬ c = i := by omega
  have hin : i ≤ n := by omega
  have e1 : ((i : Int) == (j : Int)) = false := by simp; omega
  have hwk : IntKind.i64.wrap ((i : Int) + (m : Int)) = (k : Int) := by rw [IntKind.wrap_i64]; omega
  have HK : Veil _ := ⟨hk⟩
  have e2 : ((j : Int) == (n : Int)) = false := by simp; omega
  have hcj : ¬ c = j := by omega
  have hkt : k ≤ t := by omega
  have hit : i ≤ t := by omega
  have HE : Veil (((k : Int) + ((n - j : Nat) : Int)) = (t : Int)) := ⟨by omega⟩
  have HT : Veil (t = k + (n - j)) := ⟨by omega⟩
  have HWt : Veil (wrap64 (t : Int) = t) := ⟨by unfold wrap64; omega⟩
  have ht6 : t ≤ 900000 := by omega
  have hkt2 : k < t := by omega
  have hit2 : i < t := by omega
  have HZ : Veil (wrap64 ((t : Int) - (i : Int)) = ((t - i : Nat) : Int) ∧ ((t : Int) - (i : Int)) = ((t - i : Nat) : Int)) := ⟨by unfold wrap64; omega, by omega⟩
  have hl := cells1_len (E := elD) rfl V
  rw [hm] at hl
  have HO : Veil _ := ⟨elCells_one elD V⟩
  have HP : Veil (∀ W, Turned (fun _ => False) w W → 0 < (elCells elD V).length → ∃ ad, q = some ad ∧ ∀ j v, (elCells elD V)[j]? = some v → W.cell? (ad.add j) = some v) := ⟨fun W hW hpos => by
    have hne : V ≠ [] := by rintro rfl; simp [elCells] at hpos
    obtain ⟨b, o, rfl, hr⟩ := hV hne
    exact ⟨_, rfl, (hV.turned hW (fun _ _ h => h)).news _ rfl⟩⟩
  generalize elCells elD V = CV at HO HP hl ⊢
  have HB : Veil (∀ W, Turned (fun _ => False) w W → W.heap[g]? = some (.cells cur.toArray 23 (0, 0))) := ⟨fun W hW => hW.heap hb (fun h => h)⟩
  have HN : Veil (CV.length = m ∧ cur.length = c ∧ ((cur.take n).drop j).length = n - j) := ⟨hl, hc, by rw [List.length_drop, List.length_take]; omega⟩
  have HO2 : Veil (∀ v ∈ (cur.take n).drop j, v.oneCell' = true) := ⟨fun v hv => hone v (List.mem_of_mem_drop hv)⟩
  have hgl : g < w.heap.size := lt_of_heap hb
  have HGL : Veil _ := ⟨hgl⟩
  clear hb hV hm hl hc ht hk hone hgl
  go_enter Tryz.func68, Tryz.ntmps68
  go_wp2
  go_quiet (fail)
  rw [HE.out]
  try rw [HWt.out]
  obtain ⟨W1, hW1⟩ : ∃ W1, w.drewN nq = W1 := ⟨_, rfl⟩
  have HT1 : Veil (Turned (fun _ => False) w W1) := ⟨by rw [← hW1]; exact (Turned.refl _ w).drewN nq⟩
  have HS1 : Veil (W1.heap.size = w.heap.size) := ⟨by rw [← hW1]; exact (show (w.drewN nq).heap.size = w.heap.size from by simp)⟩
  rw [hW1]
  clear hW1
  go_wp2_with (first
    | (at_builtin; refine wpList_zeros_onto elD 51 slD zD zcD rfl (.tmp 63) (.tmp 66) 3 Tryz.underlying3 rfl _ _ _ rfl _ rfl g cur rfl (HB.out _ HT1.out) (by rw [HN.out.2.1]; exact hic) (t - i) t (by first | exact HZ.out.1 | exact HZ.out.2) (by omega) (by omega) (by omega) (by omega) ?_; intro w2 c' cur2 hb2 hl2 htc2 hcm2 hpre2 hbl2; rw [HS1.out] at hb2 hbl2; obtain ⟨H, hH⟩ : ∃ H, w.heap.size = H := ⟨_, rfl⟩; rw [HS1.out, hH]; have HH : Veil (H = w.heap.size) := ⟨hH.symm⟩; have HB2 : Veil (w2.heap[H]? = some (.cells cur2.toArray 23 (0, 0))) := ⟨by rw [← hH]; exact hb2⟩; have HBl : Veil (Below w.heap.size w w2) := ⟨(show Below w.heap.size w W1 from Turned.toBelow HT1.out (Nat.le_refl _) (fun _ _ h => h.elim)).trans hbl2⟩; have HP2 : Veil (0 < CV.length → ∃ ad, q = some ad ∧ ∀ j v, CV[j]? = some v → w2.cell? (ad.add j) = some v) := ⟨HP.out _ (Turned.new HBl.out)⟩; have HL2 : Veil _ := ⟨hl2⟩; have HPr : Veil _ := ⟨hpre2⟩; have hc2i : ¬ c' = i := (by omega); have hc2k : ¬ c' = k := (by omega); have hic2 : i ≤ c' := (by omega); have hkc2 : k ≤ c' := (by omega); clear hb2 hl2 hpre2 hbl2 hH)
    | (with_reducible refine wpList_copy_at rfl (.tmp 70) (.tmp 71) 51 51 rfl 23 Tryz.underlying51 sizeD _ _ _ _ _ _ rfl rfl H i cur2 23 HB2.out CV (by rw [HN.out.1]; exact (Nat.min_eq_left (by have := HK.out; omega)).symm) (fun hp => ⟨rfl, HP2.out hp⟩) (by rw [HN.out.1, HL2.out]; have := HK.out; omega) HO.out ?_; intro w3 hb3 hT3))
  obtain ⟨W3, hW3⟩ : ∃ W3, w3.drew = W3 := ⟨_, rfl⟩
  have HT3 : Veil (Turned (· = H) w2 W3) := ⟨by rw [← hW3]; exact hT3.drew⟩
  have HB3 : Veil (W3.heap[H]? = some (.cells (splice cur2 i CV).toArray 23 (0, 0))) := ⟨by rw [← hW3]; exact hb3⟩
  refine region_tail 9 (by kernel_rfl) (by kernel_rfl) W3 hW3 ?_
  clear hW3 hb3 hT3
  simp only [List.take_succ_cons, List.take_zero, List.drop_succ_cons, List.drop_zero]
  iterate 9 still_step
  refine wpStill_nil ?_
  have hls : (splice cur2 i CV).length = c' := by rw [splice_len _ _ _ (by rw [HN.out.1, HL2.out]; have := HK.out; omega)]; exact HL2.out
  have HLS : Veil _ := ⟨hls⟩
  have HSRC : Veil (∀ x v, ((cur.take n).drop j)[x]? = some v → W3.cell? ((⟨g, j, none⟩ : Addr).add x) = some v) := ⟨BlkE.from (E := elD) (HT3.out.heap ((HBl.out.block _ (lt_of_heap (HB.out _ (Turned.refl _ _)))).trans (HB.out _ (Turned.refl _ _))) (by have := HGL.out; have := HH.out; omega)) j _ (fun x v hx => drop_get hx)⟩
  clear hls
  go_wp2_with (with_reducible refine wpList_copy_at rfl (.tmp 78) (.tmp 81) 51 51 rfl 23 Tryz.underlying51 sizeD _ _ _ _ _ _ rfl rfl H k (splice cur2 i CV) 23 HB3.out ((cur.take n).drop j) (by rw [HN.out.2.2]; exact (Nat.min_eq_left (by have := HT.out; omega)).symm) (fun _ => ⟨rfl, _, rfl, HSRC.out⟩) (by rw [HN.out.2.2, HLS.out]; have := HT.out; omega) HO2.out ?_; intro w4 hb4 hT4)
  have hT4' : Below w.heap.size w w4 := (Turned.toBelow (F := (· = H)) ((Turned.new HBl.out).trans (HT3.out.trans hT4)) (Nat.le_refl _) (fun x hx e => by have := HH.out; omega))
  have HT4 : Veil _ := ⟨hT4'⟩
  have HB4 : Veil (BlkE elD w4 H (splice (splice cur2 i CV) k ((cur.take n).drop j))) := ⟨hb4⟩
  clear hb4 hT4 hT4'
  refine only_normal ?_
  go_wp2
  go_ret
  rw [← HH.out]
  refine ⟨c', rfl, HH.out ▸ HT4.out, _, HB4.out, ?_, htc2, hcm2, ?_⟩
  · rw [splice_len _ _ _ (by rw [HN.out.2.2, HLS.out]; have := HT.out; omega)]; exact HLS.out
  · rw [splice_end _ _ _ _ (by rw [HN.out.2.2]; exact HT.out) (by rw [HLS.out]; omega), splice_end _ _ _ _ (by rw [HN.out.1]; exact HK.out.symm) (by rw [HL2.out]; exact hic2), HPr.out]
set_option maxRecDepth 20000 in
set_option maxHeartbeats 2000000 in
theorem replD_end {w : World} {g n c i m t : Nat} {cur : List Value} {q : Option Addr} {cq : Nat} (V : List Nat) (hb : BlkE elD w g cur) (hc : cur.length = c) (_hc6 : c ≤ 9223372036854775807) (hn : n ≤ c) (hij : i < n) (hV : Els elD w q V) (hm : V.length = m) (_hm6 : m ≤ 100000) (hn6 : n ≤ 100000)  (hfit : i + m ≤ n) (ht : i + m = t) :
    Calls Tryz.prog 68 #[.slice (some ⟨g, 0, none⟩) n c, .int .i64 i, .int .i64 n, .slice q m cq] w fun e w' => e = .returned (.slice (some ⟨g, 0, none⟩) t c) ∧ Turned (· = g) w w' ∧ ∃ cur', BlkE elD w' g cur' ∧ cur'.length = c ∧ cur'.take t = cur.take i ++ elCells elD V := by
  have hic : i ≤ c := by omega
  have htc : t ≤ c := by omega
  have htn : t ≤ n := by omega
  have e1 : ((i : Int) == (n : Int)) = false := by simp; omega
  have hl := cells1_len (E := elD) rfl V
  rw [hm] at hl
  have HB : Veil (BlkE elD w g cur) := ⟨hb⟩
  have HV : Veil (Els elD w q V ∧ V.length = m ∧ i + m = t ∧ cur.length = c ∧ (elCells elD V).length = m) := ⟨hV, hm, ht, hc, hl⟩
  clear hb hV hm hl hc ht hfit
  have HC : Veil (t ≤ c) := ⟨htc⟩
  by_cases hkn : t < n
  · have hct : ¬ c = t := by omega
    go_enter Tryz.func68, Tryz.ntmps68
    go_wp2_with (first
      | (at_builtin; refine wpList_append_in elD 51 slD zD rfl (.tmp 32) (.tmp 33) rfl _ _ _ rfl g cur rfl HB.out V _ _ m t rfl HV.out.2.1 HV.out.2.2.1 HV.out.1 (by rw [HV.out.2.2.1, HV.out.2.2.2.1]; exact HC.out) (by rw [HV.out.2.2.1]; exact HC.out) ?_; intro w2 hb2 hT2; have HB2 : Veil _ := ⟨hb2⟩; have HT2 : Veil _ := ⟨hT2⟩; have HL2 : Veil ((splice cur i (elCells elD V)).length = c) := ⟨by rw [splice_len _ _ _ (by rw [HV.out.2.2.2.2, HV.out.2.2.1, HV.out.2.2.2.1]; exact HC.out)]; exact HV.out.2.2.2.1⟩; clear hb2 hT2)
      | (with_reducible refine wpList_clear_blk elD 51 slD zD zcD zoD rfl (.tmp 43) rfl _ _ _ rfl g t _ (fun _ => rfl) HB2.out (by rw [HL2.out]; omega) ?_; intro w5 hb5 hT5))
    go_ret
    refine ⟨rfl, HT2.out.trans hT5, _, hb5, ?_, ?_⟩
    · rw [splice_len _ _ _ (by rw [HL2.out, List.length_replicate]; omega)]; exact HL2.out
    · rw [splice_pre _ _ _ _ (Nat.le_refl _) (by rw [HL2.out]; exact HC.out), splice_end _ _ _ _ (by rw [HV.out.2.2.2.2]; exact HV.out.2.2.1.symm) (by rw [HV.out.2.2.2.1]; exact hic)]
  · go_enter Tryz.func68, Tryz.ntmps68
    go_wp2_with (first
      | (at_builtin; refine wpList_append_in elD 51 slD zD rfl (.tmp 32) (.tmp 33) rfl _ _ _ rfl g cur rfl HB.out V _ _ m t rfl HV.out.2.1 HV.out.2.2.1 HV.out.1 (by rw [HV.out.2.2.1, HV.out.2.2.2.1]; exact HC.out) (by rw [HV.out.2.2.1]; exact HC.out) ?_; intro w2 hb2 hT2))
    go_ret
    refine ⟨rfl, hT2, _, hb2, ?_, ?_⟩
    · rw [splice_len _ _ _ (by rw [HV.out.2.2.2.2, HV.out.2.2.1, HV.out.2.2.2.1]; exact HC.out)]; exact HV.out.2.2.2.1
    · rw [splice_end _ _ _ _ (by rw [HV.out.2.2.2.2]; exact HV.out.2.2.1.symm) (by rw [HV.out.2.2.2.1]; exact hic)]
set_option maxRecDepth 20000 in
set_option maxHeartbeats 2000000 in
theorem replD_more {w : World} {g n c i m B : Nat} {q : Option Addr} {cq : Nat} (P V : List Nat) (ho : OwnE elD w B (.slice (some ⟨g, 0, none⟩) i c) P) (hB : B ≤ w.heap.size) (hP : P.length = i) (_hc6 : c ≤ 9223372036854775807) (hn : n ≤ c) (hij : i < n) (hV : Els elD w q V) (hm : V.length = m) (hm6 : m ≤ 100000) (hn6 : n ≤ 100000) (hfit : n < i + m) :
    Calls Tryz.prog 68 #[.slice (some ⟨g, 0, none⟩) n c, .int .i64 i, .int .i64 n, .slice q m cq] w fun e w' => ∃ v', e = .returned v' ∧ OwnE elD w' B v' (P ++ V) ∧ Turned (fun x => x = g) w w' ∧ (∀ x, v'.ownBlock = some x → g = x ∨ w.heap.size ≤ x) := by
  have hic : i ≤ c := by omega
  have e1 : ((i : Int) == (n : Int)) = false := by simp; omega
  subst hm
  have HO : Veil _ := ⟨ho⟩
  have HV : Veil _ := ⟨hV⟩
  have HL : Veil (P.length = i) := ⟨hP⟩
  have HBB : Veil _ := ⟨hB⟩
  have HS : Veil (P.length + V.length ≤ 1000000) := ⟨by omega⟩
  have HG : Veil (g < w.heap.size) := ⟨(ho.lt (j := g) rfl).2⟩
  clear ho hV hP hB
  go_enter Tryz.func68, Tryz.ntmps68
  go_wp2_with (at_builtin; refine wpList_append_els elD rfl (.tmp 32) (.tmp 33) rfl B _ P V rfl HO.out _ _ rfl HV.out HS.out HBB.out ?_; intro v2 w2 ho2 hg2 hb2; obtain ⟨p2, c2, ev2, -, -⟩ := ho2.form; subst ev2; have HO2 : Veil _ := ⟨ho2⟩; have HLn : Veil ((P ++ V).length = i + V.length) := ⟨by rw [List.length_append, HL.out]⟩; rw [HLn.out]; have HG2 : Veil _ := ⟨hg2⟩; have HN2 : Veil _ := ⟨hb2⟩; clear ho2 hg2 hb2)
  go_ret
  refine ⟨_, rfl, by have := HO2.out; rwa [HLn.out] at this, Turned.grown HG2.out (fun x hx _ => (Option.some.inj hx).symm), fun x hx => ?_⟩
  have := HN2.out x (by rw [HLn.out]; exact hx)
  rcases this with h | h
  · exact .inl (Option.some.inj h)
  · exact .inr h
set_option maxRecDepth 20000 in
set_option maxHeartbeats 2000000 in
theorem insD_grow {w : World} {g n c i m t : Nat} {cur : List Value} {q : Option Addr} {cq : Nat} (V : List Nat) (hb : BlkE elD w g cur) (hc : cur.length = c) (hc6 : c ≤ 9223372036854775807) (hn : n ≤ c) (hij : i < n) (hV : Els elD w q V) (hm : V.length = m) (hm0 : 0 < m) (hm6 : m ≤ 100000) (hn6 : n ≤ 100000) (hone : ∀ v ∈ cur.take n, v.oneCell' = true) (ht : n + m = t) (htc : c < t) :
    Calls Tryz.prog 93 #[.slice (some ⟨g, 0, none⟩) n c, .int .i64 i, .slice q m cq] w fun e w' => ∃ c', e = .returned (.slice (some ⟨w.heap.size, 0, none⟩) t c') ∧ Below w.heap.size w w' ∧ ∃ cur', BlkE elD w' w.heap.size cur' ∧ cur'.length = c' ∧ t ≤ c' ∧ c' ≤ maxLen ∧ cur'.take t = cur.take i ++ elCells elD V ++ (cur.take n).drop i := by
  obtain ⟨k, hk⟩ : ∃ k, i + m = k := ⟨_, rfl⟩
  have hic : i ≤ c := by omega
  have hin : i ≤ n := by omega
  have hit : i ≤ t := by omega
  have hkt : k ≤ t := by omega
  have hkt2 : k < t := by omega
  have hit2 : i < t := by omega
  have ht6 : t ≤ 900000 := by omega
  have hci : ¬ c = i := by omega
  have e1 : ((m : Int) == 0) = false := by simp; omega
  have e2 : ((i : Int) == (n : Int)) = false := by simp; omega
  have hwk : IntKind.i64.wrap ((i : Int) + (m : Int)) = (k : Int) := by rw [IntKind.wrap_i64]; omega
  have hwt : IntKind.i64.wrap ((n : Int) + (m : Int)) = (t : Int) := by rw [IntKind.wrap_i64]; omega
  have HK : Veil _ := ⟨hk⟩
  have HT : Veil (t = k + (n - i)) := ⟨by omega⟩
  have HZ : Veil (wrap64 ((t : Int) - (i : Int)) = ((t - i : Nat) : Int) ∧ ((t : Int) - (i : Int)) = ((t - i : Nat) : Int)) := ⟨by unfold wrap64; omega, by omega⟩
  have hl := cells1_len (E := elD) rfl V
  rw [hm] at hl
  have HO : Veil _ := ⟨elCells_one elD V⟩
  have HP : Veil (∀ W, Turned (fun _ => False) w W → 0 < (elCells elD V).length → ∃ ad, q = some ad ∧ ∀ j v, (elCells elD V)[j]? = some v → W.cell? (ad.add j) = some v) := ⟨fun W hW hpos => by
    have hne : V ≠ [] := by rintro rfl; simp [elCells] at hpos
    obtain ⟨b, o, rfl, hr⟩ := hV hne
    exact ⟨_, rfl, (hV.turned hW (fun _ _ h => h)).news _ rfl⟩⟩
  generalize elCells elD V = CV at HO HP hl ⊢
  have HB : Veil (∀ W, Turned (fun _ => False) w W → W.heap[g]? = some (.cells cur.toArray 23 (0, 0))) := ⟨fun W hW => hW.heap hb (fun h => h)⟩
  have HN : Veil (CV.length = m ∧ cur.length = c ∧ ((cur.take n).drop i).length = n - i) := ⟨hl, hc, by rw [List.length_drop, List.length_take]; omega⟩
  have HO2 : Veil (∀ v ∈ (cur.take n).drop i, v.oneCell' = true) := ⟨fun v hv => hone v (List.mem_of_mem_drop hv)⟩
  have HGL : Veil (g < w.heap.size) := ⟨lt_of_heap hb⟩
  clear hb hV hm hl hc ht hk hone
  go_enter Tryz.func93, Tryz.ntmps93
  go_wp2_with (first
    | (at_builtin; refine wpList_zeros_onto elD 51 slD zD zcD rfl (.tmp 34) (.tmp 39) 3 Tryz.underlying3 rfl _ _ _ rfl _ rfl g cur rfl (HB.out _ (Turned.refl _ _)) (by rw [HN.out.2.1]; exact hic) (t - i) t (by first | exact HZ.out.1 | exact HZ.out.2) (by omega) (by omega) (by omega) (by omega) ?_; intro w2 c' cur2 hb2 hl2 htc2 hcm2 hpre2 hbl2; obtain ⟨H, hH⟩ : ∃ H, w.heap.size = H := ⟨_, rfl⟩; rw [hH]; have HH : Veil (H = w.heap.size) := ⟨hH.symm⟩; have HB2 : Veil (w2.heap[H]? = some (.cells cur2.toArray 23 (0, 0))) := ⟨by rw [← hH]; exact hb2⟩; have HBl : Veil (Below w.heap.size w w2) := ⟨hbl2⟩; have HP2 : Veil (0 < CV.length → ∃ ad, q = some ad ∧ ∀ j v, CV[j]? = some v → w2.cell? (ad.add j) = some v) := ⟨HP.out _ (Turned.new HBl.out)⟩; have HL2 : Veil _ := ⟨hl2⟩; have HPr : Veil _ := ⟨hpre2⟩; have hc2i : ¬ c' = i := (by omega); have hc2k : ¬ c' = k := (by omega); have hic2 : i ≤ c' := (by omega); have hkc2 : k ≤ c' := (by omega); clear hb2 hl2 hpre2 hbl2 hH)
    | (with_reducible refine wpList_copy_at rfl (.tmp 43) (.tmp 44) 51 51 rfl 23 Tryz.underlying51 sizeD _ _ _ _ _ _ rfl rfl H i cur2 23 HB2.out CV (by rw [HN.out.1]; exact (Nat.min_eq_left (by have := HK.out; omega)).symm) (fun hp => ⟨rfl, HP2.out hp⟩) (by rw [HN.out.1, HL2.out]; have := HK.out; omega) HO.out ?_; intro w3 hb3 hT3))
  obtain ⟨W3, hW3⟩ : ∃ W3, w3.drew = W3 := ⟨_, rfl⟩
  have HT3 : Veil (Turned (· = H) w2 W3) := ⟨by rw [← hW3]; exact hT3.drew⟩
  have HB3 : Veil (W3.heap[H]? = some (.cells (splice cur2 i CV).toArray 23 (0, 0))) := ⟨by rw [← hW3]; exact hb3⟩
  refine region_tail 8 (by kernel_rfl) (by kernel_rfl) W3 hW3 ?_
  clear hW3 hb3 hT3
  simp only [List.take_succ_cons, List.take_zero, List.drop_succ_cons, List.drop_zero]
  iterate 8 still_step
  refine wpStill_nil ?_
  have hls : (splice cur2 i CV).length = c' := by rw [splice_len _ _ _ (by rw [HN.out.1, HL2.out]; have := HK.out; omega)]; exact HL2.out
  have HLS : Veil _ := ⟨hls⟩
  have HSRC : Veil (∀ x v, ((cur.take n).drop i)[x]? = some v → W3.cell? ((⟨g, i, none⟩ : Addr).add x) = some v) := ⟨BlkE.from (E := elD) (HT3.out.heap ((HBl.out.block _ (lt_of_heap (HB.out _ (Turned.refl _ _)))).trans (HB.out _ (Turned.refl _ _))) (by have := HGL.out; have := HH.out; omega)) i _ (fun x v hx => drop_get hx)⟩
  clear hls
  go_wp2_with (with_reducible refine wpList_copy_at rfl (.tmp 50) (.tmp 53) 51 51 rfl 23 Tryz.underlying51 sizeD _ _ _ _ _ _ rfl rfl H k (splice cur2 i CV) 23 HB3.out ((cur.take n).drop i) (by rw [HN.out.2.2]; exact (Nat.min_eq_left (by have := HT.out; omega)).symm) (fun _ => ⟨rfl, _, rfl, HSRC.out⟩) (by rw [HN.out.2.2, HLS.out]; have := HT.out; omega) HO2.out ?_; intro w4 hb4 hT4)
  have hT4' : Below w.heap.size w w4 := (Turned.toBelow (F := (· = H)) ((Turned.new HBl.out).trans (HT3.out.trans hT4)) (Nat.le_refl _) (fun x hx e => by have := HH.out; omega))
  have HT4 : Veil _ := ⟨hT4'⟩
  have HB4 : Veil (BlkE elD w4 H (splice (splice cur2 i CV) k ((cur.take n).drop i))) := ⟨hb4⟩
  clear hb4 hT4 hT4'
  refine only_normal ?_
  go_wp2
  go_ret
  rw [← HH.out]
  refine ⟨c', rfl, HH.out ▸ HT4.out, _, HB4.out, ?_, htc2, hcm2, ?_⟩
  · rw [splice_len _ _ _ (by rw [HN.out.2.2, HLS.out]; have := HT.out; omega)]; exact HLS.out
  · rw [splice_end _ _ _ _ (by rw [HN.out.2.2]; exact HT.out) (by rw [HLS.out]; omega), splice_end _ _ _ _ (by rw [HN.out.1]; exact HK.out.symm) (by rw [HL2.out]; exact hic2), HPr.out]
set_option maxRecDepth 20000 in
set_option maxHeartbeats 2000000 in
theorem insD_shift {w : World} {g n c i m t : Nat} {cur : List Value} {q : Option Addr} {cq : Nat} (V : List Nat) (hb : BlkE elD w g cur) (hc : cur.length = c) (hc6 : c ≤ 9223372036854775807) (hn : n ≤ c) (hij : i < n) (hV : Els elD w q V) (hm : V.length = m) (hm0 : 0 < m) (hm6 : m ≤ 100000) (hn6 : n ≤ 100000) (hone : ∀ v ∈ cur.take n, v.oneCell' = true) {g2 : Nat} {cur2 : List Value} (hBs : BesideD w g q cq V g2 cur2) (ht : n + m = t) (htc : t ≤ c) :
    Calls Tryz.prog 93 #[.slice (some ⟨g, 0, none⟩) n c, .int .i64 i, .slice q m cq] w fun e w' => e = .returned (.slice (some ⟨g, 0, none⟩) t c) ∧ Turned (· = g) w w' ∧ ∃ cur', BlkE elD w' g cur' ∧ cur'.length = c ∧ cur'.take t = cur.take i ++ elCells elD V ++ (cur.take n).drop i := by
  obtain ⟨k, hk⟩ : ∃ k, i + m = k := ⟨_, rfl⟩
  have hic : i ≤ c := by omega
  have hin : i ≤ n := by omega
  have hit : i ≤ t := by omega
  have hkt : k ≤ t := by omega
  have hkt2 : k < t := by omega
  have hit2 : i < t := by omega
  have ht6 : t ≤ 900000 := by omega
  have hci : ¬ c = i := by omega
  have e1 : ((m : Int) == 0) = false := by simp; omega
  have e2 : ((i : Int) == (n : Int)) = false := by simp; omega
  have hwk : IntKind.i64.wrap ((i : Int) + (m : Int)) = (k : Int) := by rw [IntKind.wrap_i64]; omega
  have hwt : IntKind.i64.wrap ((n : Int) + (m : Int)) = (t : Int) := by rw [IntKind.wrap_i64]; omega
  have HK : Veil _ := ⟨hk⟩
  have HT : Veil (t = k + (n - i)) := ⟨by omega⟩
  have HZ : Veil (wrap64 ((t : Int) - (i : Int)) = ((t - i : Nat) : Int) ∧ ((t : Int) - (i : Int)) = ((t - i : Nat) : Int)) := ⟨by unfold wrap64; omega, by omega⟩
  have hkc : ¬ c = k := by omega
  have hct : ¬ c < t := by omega
  have hl := cells1_len (E := elD) rfl V
  rw [hm] at hl
  have HO : Veil _ := ⟨elCells_one elD V⟩
  have HP : Veil (∀ W, Turned (fun _ => False) w W → 0 < (elCells elD V).length → ∃ ad, q = some ad ∧ ∀ j v, (elCells elD V)[j]? = some v → W.cell? (ad.add j) = some v) := ⟨fun W hW hpos => by
    have hne : V ≠ [] := by rintro rfl; simp [elCells] at hpos
    obtain ⟨b, o, rfl, hr⟩ := hV hne
    exact ⟨_, rfl, (hV.turned hW (fun _ _ h => h)).news _ rfl⟩⟩
  generalize elCells elD V = CV at HO HP hl ⊢
  have HB : Veil (∀ W, Turned (fun _ => False) w W → W.heap[g]? = some (.cells cur.toArray 23 (0, 0))) := ⟨fun W hW => hW.heap hb (fun h => h)⟩
  have HN : Veil (CV.length = m ∧ cur.length = c ∧ ((cur.take n).drop i).length = n - i) := ⟨hl, hc, by rw [List.length_drop, List.length_take]; omega⟩
  have HO2 : Veil (∀ v ∈ (cur.take n).drop i, v.oneCell' = true) := ⟨fun v hv => hone v (List.mem_of_mem_drop hv)⟩
  have HOv : Veil (∀ lb cb, (callFunc 94 #[.slice (some ⟨g2, 0, none⟩) m cq, .slice (some ⟨g, k, none⟩) lb cb]).run Tryz.prog w = .ok (.value (.bool false)) w) := ⟨fun lb cb => overD hBs.b hb hBs.ne.symm (by omega) 0 k m cq lb cb⟩
  have HNe : Veil _ := ⟨hBs.ne⟩
  obtain rfl := hBs.q
  clear hb hV hm hl hc ht hk hone hBs
  have hov := HOv.out
  go_enter Tryz.func93, Tryz.ntmps93
  go_wp2_with (simp only [hov])
  clear hov
  obtain ⟨W3, hW3⟩ : ∃ W3, w.drew = W3 := ⟨_, rfl⟩
  have HT3 : Veil (Turned (fun _ => False) w W3) := ⟨by rw [← hW3]; exact (Turned.refl _ w).drew⟩
  refine region_tail 8 (by kernel_rfl) (by kernel_rfl) W3 hW3 ?_
  clear hW3
  simp only [List.take_succ_cons, List.take_zero, List.drop_succ_cons, List.drop_zero]
  iterate 8 still_step
  refine wpStill_nil ?_
  have HSRC : Veil (∀ x v, ((cur.take n).drop i)[x]? = some v → W3.cell? ((⟨g, i, none⟩ : Addr).add x) = some v) := ⟨BlkE.from (E := elD) (HB.out _ HT3.out) i _ (fun x v hx => drop_get hx)⟩
  go_wp2_with (with_reducible refine wpList_copy_at rfl (.tmp 73) (.tmp 76) 51 51 rfl 23 Tryz.underlying51 sizeD _ _ _ _ _ _ rfl rfl g k cur 23 (HB.out _ HT3.out) ((cur.take n).drop i) (by rw [HN.out.2.2]; exact (show n - i = min (t - i) (t - k) by have := HT.out; have := HK.out; omega)) (fun _ => ⟨rfl, _, rfl, HSRC.out⟩) (by rw [HN.out.2.2, HN.out.2.1]; have := HT.out; omega) HO2.out ?_; intro w4 hb4 hT4)
  have hls : (splice cur k ((cur.take n).drop i)).length = c := by rw [splice_len _ _ _ (by rw [HN.out.2.2, HN.out.2.1]; have := HT.out; omega)]; exact HN.out.2.1
  have HLS : Veil _ := ⟨hls⟩
  have HT4 : Veil (Turned (· = g) w w4) := ⟨(HT3.out.wider (F := (· = g)) (fun _ _ h => h.elim)).trans hT4⟩
  have HP4 : Veil (0 < CV.length → ∃ ad, (some ⟨g2, 0, none⟩ : Option Addr) = some ad ∧ ∀ j v, CV[j]? = some v → w4.cell? (ad.add j) = some v) := ⟨fun hp => by
    obtain ⟨ad, he, hr⟩ := HP.out _ HT3.out hp
    cases he
    exact ⟨_, rfl, fun j v hj => hT4.cell (hr j v hj) (by rw [Addr.add_lit]; exact fun e => HNe.out e.symm)⟩⟩
  have HB4 : Veil (w4.heap[g]? = some (.cells (splice cur k ((cur.take n).drop i)).toArray 23 (0, 0))) := ⟨hb4⟩
  clear hls hb4 hT4
  refine only_normal ?_
  go_wp2_with (with_reducible refine wpList_copy_at rfl (.tmp 80) (.tmp 81) 51 51 rfl 23 Tryz.underlying51 sizeD _ _ _ _ _ _ rfl rfl g i (splice cur k ((cur.take n).drop i)) 23 HB4.out CV (by rw [HN.out.1]; exact (Nat.min_eq_left (by have := HK.out; omega)).symm) (fun hp => ⟨rfl, HP4.out hp⟩) (by rw [HN.out.1, HLS.out]; have := HK.out; omega) HO.out ?_; intro w5 hb5 hT5)
  go_ret
  refine ⟨rfl, HT4.out.trans hT5, _, hb5, ?_, ?_⟩
  · rw [splice_len _ _ _ (by rw [HN.out.1, HLS.out]; have := HK.out; omega)]; exact HLS.out
  · rw [splice_mid _ _ _ _ (by rw [HN.out.1]; have := HK.out; omega) (by rw [HLS.out]; exact htc), splice_pre _ _ _ _ (by have := HK.out; omega) (by rw [HN.out.2.1]; omega), splice_end _ _ _ _ (by rw [HN.out.2.2]; exact HT.out) (by rw [HN.out.2.1]; omega), HN.out.1, HK.out, List.drop_left' (by rw [List.length_take, HN.out.2.1]; omega)]
set_option maxRecDepth 20000 in
set_option maxHeartbeats 2000000 in
theorem insD_none {w : World} {p : Option Addr} {n c i : Nat} (hp : p = none → n = 0 ∧ c = 0) (hn : n ≤ c) (hc6 : c ≤ 9223372036854775807) (hi : i ≤ n) (hs : ∀ a, p = some a → a.off = 0 ∧ a.spot = none) (q : Option Addr) (cq : Nat) :
    Calls Tryz.prog 93 #[.slice p n c, .int .i64 i, .slice q 0 cq] w fun e w' => e = .returned (.slice p n c) ∧ w' = w := by
  cases p with
  | none =>
    obtain ⟨rfl, rfl⟩ := hp rfl
    obtain rfl : i = 0 := by omega
    clear hp hn hi hs
    go_enter Tryz.func93, Tryz.ntmps93
    go_wp2
    go_ret
    exact ⟨rfl, rfl⟩
  | some a =>
    obtain ⟨g, o, sp⟩ := a
    obtain ⟨h1, h2⟩ := hs _ rfl
    dsimp only at h1 h2
    subst h1 h2
    have hic : i ≤ c := by omega
    clear hp hs
    go_enter Tryz.func93, Tryz.ntmps93
    go_wp2
    all_goals
      go_ret
      exact ⟨rfl, rfl⟩
set_option maxRecDepth 20000 in
set_option maxHeartbeats 2000000 in
theorem insD_end {w : World} {v : Value} {m B : Nat} {q : Option Addr} {cq : Nat} (P V : List Nat) (ho : OwnE elD w B v P) (hB : B ≤ w.heap.size) (hV : Els elD w q V) (hm : V.length = m) (hm0 : 0 < m) (hm6 : m ≤ 100000) (hn6 : P.length ≤ 100000) (hv6 : ∀ p n c, v = .slice p n c → c ≤ 9223372036854775807) :
    Calls Tryz.prog 93 #[v, .int .i64 P.length, .slice q m cq] w fun e w' => ∃ v', e = .returned v' ∧ OwnE elD w' B v' (P ++ V) ∧ Turned (fun x => v.ownBlock = some x) w w' ∧ (∀ x, v'.ownBlock = some x → v.ownBlock = some x ∨ w.heap.size ≤ x) := by
  have e1 : ((m : Int) == 0) = false := by simp; omega
  subst hm
  have HO : Veil _ := ⟨ho⟩
  have HV : Veil _ := ⟨hV⟩
  have HBB : Veil _ := ⟨hB⟩
  have HS : Veil (P.length + V.length ≤ 1000000) := ⟨by omega⟩
  have hcase : v = .slice none 0 0 ∧ P = [] ∨ ∃ g c, v = .slice (some ⟨g, 0, none⟩) P.length c ∧ P.length ≤ c ∧ c ≤ 9223372036854775807 := by
    obtain ⟨-, h2⟩ := ho
    rcases h2 with ⟨e, h0⟩ | ⟨g, cap, cur, e, hg, hh, hn, hc, hs, ht⟩
    · exact .inl ⟨e, List.eq_nil_of_length_eq_zero h0⟩
    · exact .inr ⟨g, cap, e, hn, hv6 _ _ _ e⟩
  clear ho hV hB hv6
  rcases hcase with ⟨rfl, rfl⟩ | ⟨g, c, rfl, hPc, hc6⟩
  · go_enter Tryz.func93, Tryz.ntmps93
    go_wp2_with (at_builtin; refine wpList_append_els elD rfl (.tmp 23) (.tmp 24) rfl B _ [] V rfl HO.out _ _ rfl HV.out HS.out HBB.out ?_; intro v2 w2 ho2 hg2 hb2)
    go_ret
    refine ⟨v2, rfl, ho2, Turned.grown hg2 (fun x hx _ => hx), hb2⟩
  · have hw : (P.length : Int) = P.length := rfl
    go_enter Tryz.func93, Tryz.ntmps93
    go_wp2_with (at_builtin; refine wpList_append_els elD rfl (.tmp 23) (.tmp 24) rfl B _ P V rfl HO.out _ _ rfl HV.out HS.out HBB.out ?_; intro v2 w2 ho2 hg2 hb2)
    all_goals
      go_ret
      refine ⟨v2, rfl, ho2, Turned.grown hg2 (fun x hx _ => hx), hb2⟩
theorem besideD {w : World} {B2 g : Nat} {q : Option Addr} {cq : Nat} {V : List Nat} (hV : OwnE elD w B2 (.slice q V.length cq) V) (hne : ∀ x, (Value.slice q V.length cq).ownBlock = some x → g ≠ x) (hp : 0 < V.length) : ∃ g2 cur2, BesideD w g q cq V g2 cur2 := by
  obtain ⟨g2, c2, cur2, e, -, hb, hn, -, hc, -⟩ := hV.blk rfl hp
  cases e
  exact ⟨g2, cur2, rfl, hb, hne g2 rfl, by omega⟩
theorem cellsD_put {cur : List Value} {L V : List Nat} {i j : Nat} (ht : cur.take L.length = elCells elD L) (hi : i ≤ L.length) : elCells elD (L.take i ++ V ++ L.drop j) = cur.take i ++ elCells elD V ++ (cur.take L.length).drop j := by
  rw [elCells_append, elCells_append, cells1_take rfl, cells1_drop rfl, ht, ← ht, List.take_take, Nat.min_eq_left hi]
theorem cap63 {c : Nat} (h : c ≤ maxLen) : c ≤ 9223372036854775807 := by unfold maxLen at h; omega
theorem replaceD_any {w : World} {B B2 : Nat} {v : Value} {L V : List Nat} (ho : OwnE elD w B v L) (hB : B ≤ w.heap.size) {i j : Nat} (hij : i < j) (hj : j ≤ L.length) (hl : L.length ≤ 100000) {q : Option Addr} {cq : Nat} (hV : OwnE elD w B2 (.slice q V.length cq) V) (hne : ∀ x, (Value.slice q V.length cq).ownBlock = some x → v.ownBlock ≠ some x) (hm : V.length ≤ 100000) :
    Calls Tryz.prog 68 #[v, .int .i64 i, .int .i64 j, .slice q V.length cq] w fun e w' => ∃ v', e = .returned v' ∧ OwnE elD w' B v' (L.take i ++ V ++ L.drop j) ∧ Turned (fun x => v.ownBlock = some x) w w' ∧ (∀ x, v'.ownBlock = some x → v.ownBlock = some x ∨ w.heap.size ≤ x) := by
  obtain ⟨p, c0, e0, hEV, -⟩ := hV.form
  cases e0
  obtain ⟨g, c, cur, rfl, hBg, hb, hn, hcm, hc, ht⟩ := ho.blk rfl (by omega)
  have hc6 := cap63 hcm
  have hne' : ∀ x, (Value.slice q V.length cq).ownBlock = some x → g ≠ x := fun x hx e => hne x hx (by rw [e]; rfl)
  have hone : ∀ u ∈ cur.take L.length, u.oneCell' = true := fun u hu => elCells_one elD L u (by rwa [← ht])
  have hR : (L.take i ++ V ++ L.drop j).length = i + V.length + (L.length - j) := by simp only [List.length_append, List.length_take, List.length_drop]; omega
  have hcell := cellsD_put (V := V) (i := i) (j := j) ht (by omega)
  have hfin : ∀ {w' : World} {cur' : List Value}, BlkE elD w' g cur' → cur'.length = c → i + V.length + (L.length - j) ≤ c → cur'.take (i + V.length + (L.length - j)) = cur.take i ++ elCells elD V ++ (cur.take L.length).drop j → OwnE elD w' B (.slice (some ⟨g, 0, none⟩) (i + V.length + (L.length - j)) c) (L.take i ++ V ++ L.drop j) := fun hb' hc' ht' he => OwnE.of_blk rfl hR.symm hBg hb' hc' hcm (by omega) (by rw [hR, he, hcell])
  by_cases hjn : j = L.length
  · subst hjn
    have h0 : L.length - L.length = 0 := Nat.sub_self _
    have hd : L.drop L.length = [] := List.drop_length
    by_cases hs : i + V.length ≤ L.length
    · refine (replD_end (t := i + V.length) V hb hc hc6 hn hij hEV rfl hm hl hs rfl).mono ?_
      rintro e w' ⟨rfl, hT, cur', hb', hc', he⟩
      rw [h0, Nat.add_zero] at hfin
      exact ⟨_, rfl, hfin hb' hc' (by omega) (by rw [he]; simp), hT.wider (fun x _ e => by rw [e]; rfl), fun x hx => .inl hx⟩
    · have hp := ho.pre i (by omega) rfl
      refine (replD_more (B := B) (L.take i) V hp hB (by rw [List.length_take]; omega) hc6 hn hij hEV rfl hm hl (by omega)).mono ?_
      rintro e w' ⟨v', rfl, ho', hT, hx⟩
      exact ⟨v', rfl, by rw [hd, List.append_nil]; exact ho', hT.wider (fun x _ e => by rw [e]; rfl), fun x hh => (hx x hh).imp (fun e => by rw [e]; rfl) id⟩
  · by_cases hg : c < i + V.length + (L.length - j)
    · refine (replD_grow V hb hc hc6 hn hij (by omega) hEV rfl hm hl hone rfl hg).mono ?_
      rintro e w' ⟨c', rfl, hbl, cur', hb', hc', htc', hcm', he⟩
      refine ⟨_, rfl, OwnE.of_blk rfl hR.symm hB hb' hc' hcm' (by omega) (by rw [hR, he, hcell]), Turned.new hbl, fun x hx => .inr ?_⟩
      cases hx
      exact Nat.le_refl _
    · by_cases hf : i + V.length ≤ j
      · refine (replD_fit V hb hc hc6 hn hij (by omega) hEV rfl hm hl hone hf rfl).mono ?_
        rintro e w' ⟨rfl, hT, cur', hb', hc', he⟩
        exact ⟨_, rfl, hfin hb' hc' (by omega) he, hT.wider (fun x _ e => by rw [e]; rfl), fun x hx => .inl hx⟩
      · obtain ⟨g2, cur2, hBs⟩ := besideD hV hne' (by omega)
        refine (replD_shift V hb hc hc6 hn hij (by omega) hEV rfl hm hl hone hBs (by omega) rfl (by omega)).mono ?_
        rintro e w' ⟨rfl, hT, cur', hb', hc', he⟩
        exact ⟨_, rfl, hfin hb' hc' (by omega) he, hT.wider (fun x _ e => by rw [e]; rfl), fun x hx => .inl hx⟩
theorem insertD_any {w : World} {B B2 : Nat} {v : Value} {L V : List Nat} (ho : OwnE elD w B v L) (hB : B ≤ w.heap.size) {i : Nat} (hi : i ≤ L.length) (hl : L.length ≤ 100000) {q : Option Addr} {cq : Nat} (hV : OwnE elD w B2 (.slice q V.length cq) V) (hne : ∀ x, (Value.slice q V.length cq).ownBlock = some x → v.ownBlock ≠ some x) (hm : V.length ≤ 100000) :
    Calls Tryz.prog 93 #[v, .int .i64 i, .slice q V.length cq] w fun e w' => ∃ v', e = .returned v' ∧ OwnE elD w' B v' (L.take i ++ V ++ L.drop i) ∧ Turned (fun x => v.ownBlock = some x) w w' ∧ (∀ x, v'.ownBlock = some x → v.ownBlock = some x ∨ w.heap.size ≤ x) := by
  obtain ⟨p, c0, e0, hEV, -⟩ := hV.form
  cases e0
  by_cases hm0 : V.length = 0
  · have hVn := List.eq_nil_of_length_eq_zero hm0
    have hcase : (v = .slice none 0 0 ∧ L.length = 0) ∨ ∃ g c, v = .slice (some ⟨g, 0, none⟩) L.length c ∧ L.length ≤ c ∧ c ≤ 9223372036854775807 := by
      obtain ⟨-, h2⟩ := ho
      rcases h2 with ⟨e, h0⟩ | ⟨g, cap, cur, e, hg, hh, hn, hc, hs, ht⟩
      · exact .inl ⟨e, h0⟩
      · exact .inr ⟨g, cap, e, hn, cap63 hc⟩
    have hL : L.take i ++ V ++ L.drop i = L := by rw [hVn, List.append_nil, List.take_append_drop]
    rw [hm0, hL]
    rcases hcase with ⟨rfl, h0⟩ | ⟨g, c, rfl, hn, hc6⟩
    · refine (insD_none (w := w) (p := none) (n := 0) (c := 0) (i := i) (fun _ => ⟨rfl, rfl⟩) (Nat.le_refl _) (by decide) (by omega) (fun a h => by cases h) q cq).mono ?_
      rintro e w' ⟨rfl, rfl⟩
      exact ⟨_, rfl, ho, Turned.refl _ _, fun x hx => .inl hx⟩
    · refine (insD_none (w := w) (p := some ⟨g, 0, none⟩) (n := L.length) (c := c) (i := i) (fun h => by cases h) hn hc6 hi (fun a h => by cases h; exact ⟨rfl, rfl⟩) q cq).mono ?_
      rintro e w' ⟨rfl, rfl⟩
      exact ⟨_, rfl, ho, Turned.refl _ _, fun x hx => .inl hx⟩
  · by_cases hin : i = L.length
    · subst hin
      rw [List.take_length, List.drop_length, List.append_nil]
      refine (insD_end L V ho hB hEV rfl (by omega) hm hl (fun p n c e => ?_)).mono (fun e w' h => h)
      obtain ⟨-, h2⟩ := ho
      rcases h2 with ⟨e2, h0⟩ | ⟨g, cap, cur, e2, hg, hh, hn, hc, hs, ht⟩
      · rw [e2] at e; cases e; decide
      · rw [e2] at e; cases e; exact cap63 hc
    · obtain ⟨g, c, cur, rfl, hBg, hb, hn, hcm, hc, ht⟩ := ho.blk rfl (by omega)
      have hc6 := cap63 hcm
      have hne' : ∀ x, (Value.slice q V.length cq).ownBlock = some x → g ≠ x := fun x hx e => hne x hx (by rw [e]; rfl)
      have hone : ∀ u ∈ cur.take L.length, u.oneCell' = true := fun u hu => elCells_one elD L u (by rwa [← ht])
      have hR : (L.take i ++ V ++ L.drop i).length = L.length + V.length := by simp only [List.length_append, List.length_take, List.length_drop]; omega
      have hcell := cellsD_put (V := V) (i := i) (j := i) ht (by omega)
      by_cases hg : c < L.length + V.length
      · refine (insD_grow V hb hc hc6 hn (by omega) hEV rfl (by omega) hm hl hone rfl hg).mono ?_
        rintro e w' ⟨c', rfl, hbl, cur', hb', hc', htc', hcm', he⟩
        refine ⟨_, rfl, OwnE.of_blk rfl hR.symm hB hb' hc' hcm' (by omega) (by rw [hR, he, hcell]), Turned.new hbl, fun x hx => .inr ?_⟩
        cases hx
        exact Nat.le_refl _
      · obtain ⟨g2, cur2, hBs⟩ := besideD hV hne' (by omega)
        refine (insD_shift V hb hc hc6 hn (by omega) hEV rfl (by omega) hm hl hone hBs rfl (by omega)).mono ?_
        rintro e w' ⟨rfl, hT, cur', hb', hc', he⟩
        exact ⟨_, rfl, OwnE.of_blk rfl hR.symm hBg hb' hc' hcm (by omega) (by rw [hR, he, hcell]), hT.wider (fun x _ e => by rw [e]; rfl), fun x hx => .inl hx⟩
set_option maxRecDepth 20000 in
set_option maxHeartbeats 2000000 in
theorem replD_same {w : World} {p : Option Addr} {n c i m : Nat} {q : Option Addr} {cq : Nat} {R : Value → World → Prop} (hp : p = none → n = 0 ∧ c = 0) (hn : n ≤ c) (hc6 : c ≤ 9223372036854775807) (hi : i ≤ n) (hs : ∀ a, p = some a → a.off = 0 ∧ a.spot = none)
    (HI : Calls Tryz.prog 93 #[.slice p n c, .int .i64 i, .slice q m cq] w fun e w' => ∃ v', e = .returned v' ∧ R v' w') :
    Calls Tryz.prog 68 #[.slice p n c, .int .i64 i, .int .i64 i, .slice q m cq] w fun e w' => ∃ v', e = .returned v' ∧ R v' w' := by
  have H : Veil _ := ⟨HI⟩
  clear HI
  cases p with
  | none =>
    obtain ⟨rfl, rfl⟩ := hp rfl
    obtain rfl : i = 0 := by omega
    clear hp hn hi hs
    go_enter Tryz.func68, Tryz.ntmps68
    go_wp2_with (go_at_call 93; refine H.out.mono ?_; rintro e w2 ⟨v2, rfl, hr2⟩)
    go_ret
    exact ⟨v2, rfl, hr2⟩
  | some a =>
    obtain ⟨g, o, sp⟩ := a
    obtain ⟨h1, h2⟩ := hs _ rfl
    dsimp only at h1 h2
    subst h1 h2
    have hic : i ≤ c := by omega
    clear hp hs
    go_enter Tryz.func68, Tryz.ntmps68
    go_wp2_with (go_at_call 93; refine H.out.mono ?_; rintro e w2 ⟨v2, rfl, hr2⟩)
    all_goals
      go_ret
      exact ⟨v2, rfl, hr2⟩
theorem replaceD_all {w : World} {B B2 : Nat} {v : Value} {L V : List Nat} (ho : OwnE elD w B v L) (hB : B ≤ w.heap.size) {i j : Nat} (hij : i ≤ j) (hj : j ≤ L.length) (hl : L.length ≤ 100000) {q : Option Addr} {cq : Nat} (hV : OwnE elD w B2 (.slice q V.length cq) V) (hne : ∀ x, (Value.slice q V.length cq).ownBlock = some x → v.ownBlock ≠ some x) (hm : V.length ≤ 100000) :
    Calls Tryz.prog 68 #[v, .int .i64 i, .int .i64 j, .slice q V.length cq] w fun e w' => ∃ v', e = .returned v' ∧ OwnE elD w' B v' (L.take i ++ V ++ L.drop j) ∧ Turned (fun x => v.ownBlock = some x) w w' ∧ (∀ x, v'.ownBlock = some x → v.ownBlock = some x ∨ w.heap.size ≤ x) := by
  by_cases h : i < j
  · exact replaceD_any ho hB h hj hl hV hne hm
  · obtain rfl : i = j := by omega
    have HI := insertD_any ho hB hj hl hV hne hm
    have hcase : (v = .slice none 0 0 ∧ L.length = 0) ∨ ∃ g c, v = .slice (some ⟨g, 0, none⟩) L.length c ∧ L.length ≤ c ∧ c ≤ 9223372036854775807 := by
      obtain ⟨-, h2⟩ := ho
      rcases h2 with ⟨e, h0⟩ | ⟨g, cap, cur, e, hg, hh, hn, hc, hs, ht⟩
      · exact .inl ⟨e, h0⟩
      · exact .inr ⟨g, cap, e, hn, cap63 hc⟩
    rcases hcase with ⟨rfl, h0⟩ | ⟨g, c, rfl, hn, hc6⟩
    · exact replD_same (p := none) (n := 0) (c := 0) (fun _ => ⟨rfl, rfl⟩) (Nat.le_refl _) (by decide) (by omega) (fun a h => by cases h) HI
    · exact replD_same (p := some ⟨g, 0, none⟩) (n := L.length) (c := c) (fun h => by cases h) hn hc6 hj (fun a h => by cases h; exact ⟨rfl, rfl⟩) HI
end Go.Proofs.YtokbmimbbeedcaaGreatDoor

/- slices.Insert, slices.Replace over string. -/
namespace Go.Proofs.YtokbmimbbeedcaaGreatDoor
open Go Go.RowKit Sm
attribute [local go_sem] Oper.semAt_some

theorem slK : elK.sl = 90 := rfl
theorem zK : elK.z = 1 := rfl
theorem zcK : elK.zero.cells = #[elK.zero] := rfl
theorem zoK : elK.zero.oneCell' = true := rfl
theorem sizeK : (Tryz.prog.info? 9).map (·.size) = some 1 := by kernel_rfl
theorem overK {w : World} {g g2 : Nat} {cur cur2 : List Value} (h1 : BlkE elK w g cur) (h2 : BlkE elK w g2 cur2) (hne : g ≠ g2) (hn : 0 < cur2.length) (o1 o2 la ca lb cb : Nat) :
    (callFunc 98 #[.slice (some ⟨g, o1, none⟩) la ca, .slice (some ⟨g2, o2, none⟩) lb cb]).run Tryz.prog w = .ok (.value (.bool false)) w := by
  have hz : ∀ w : World, (Go.sizeOf elK.ty).run Tryz.prog w = .ok 1 w := fun w => by kernel_rfl
  rw [run_callFunc_extern Tryz.func98 (by kernel_rfl) (by kernel_rfl) (by kernel_rfl) (e := Extern.SlicesOverlaps.overlaps #[90, 90] #[4]) (by kernel_rfl),
    Go.Lib.run_overlaps_apart w 90 4 elK.ty elK.under 1 hz ⟨g, o1, none⟩ ⟨g2, o2, none⟩ la ca lb cb hne elK.ty elK.ty cur.length cur2.length
      (by simp [World.shape?, show w.heap[g]? = _ from h1]) (by simp [World.shape?, show w.heap[g2]? = _ from h2]) (by omega) (frozen_whole h1 _) (frozen_whole h1 _)]
  rfl
/-- What is handed in beside: a list in a block of its own. -/
structure BesideK (w : World) (g : Nat) (q : Option Addr) (cq : Nat) (V : List (List UInt8)) (g2 : Nat) (cur2 : List Value) : Prop where
  q : q = some ⟨g2, 0, none⟩
  b : BlkE elK w g2 cur2
  ne : g ≠ g2
  pos : 0 < cur2.length

set_option maxRecDepth 20000 in
set_option maxHeartbeats 2000000 in
theorem replK_fit {w : World} {g n c i j m t : Nat} {cur : List Value} {q : Option Addr} {cq : Nat} (V : List (List UInt8)) (hb : BlkE elK w g cur) (hc : cur.length = c) (hc6 : c ≤ 9223372036854775807) (hn : n ≤ c) (hij : i < j) (hjn : j < n) (hV : Els elK w q V) (hm : V.length = m) (hm6 : m ≤ 100000) (hn6 : n ≤ 100000) (hone : ∀ v ∈ cur.take n, v.oneCell' = true) (hfit : i + m ≤ j) (ht : i + m + (n - j) = t) :
    Calls Tryz.prog 69 #[.slice (some ⟨g, 0, none⟩) n c, .int .i64 i, .int .i64 j, .slice q m cq] w fun e w' => e = .returned (.slice (some ⟨g, 0, none⟩) t c) ∧ Turned (· = g) w w' ∧ ∃ cur', BlkE elK w' g cur' ∧ cur'.length = c ∧ cur'.take t = cur.take i ++ elCells elK V ++ (cur.take n).drop j := by
  obtain ⟨k, hk⟩ : ∃ k, i + m = k := ⟨_, rfl⟩
  have hjn2 : j ≤ n := by omega
  have hjc : j ≤ c := by omega
  have hic : i ≤ c := by omega
  have hci : ¬ c = i := by omega
  have hin : i ≤ n := by omega
  have e1 : ((i : Int) == (j : Int)) = false := by simp; omega
  have hwk : IntKind.i64.wrap ((i : Int) + (m : Int)) = (k : Int) := by rw [IntKind.wrap_i64]; omega
  have HK : Veil _ := ⟨hk⟩
  have e2 : ((j : Int) == (n : Int)) = false := by simp; omega
  have hcj : ¬ c = j := by omega
  have hkt : k ≤ t := by omega
  have hit : i ≤ t := by omega
  have HE : Veil (((k : Int) + ((n - j : Nat) : Int)) = (t : Int)) := ⟨by omega⟩
  have HT : Veil (t = k + (n - j)) := ⟨by omega⟩
  have HWt : Veil (wrap64 (t : Int) = t) := ⟨by unfold wrap64; omega⟩
  have htn : t ≤ n := by omega
  have htc : t ≤ c := by omega
  have hkc : ¬ c = k := by omega
  have hfj : k ≤ j := by omega
  have hl := cells1_len (E := elK) rfl V
  rw [hm] at hl
  have HO : Veil _ := ⟨elCells_one elK V⟩
  have HP : Veil (∀ W, Turned (fun _ => False) w W → 0 < (elCells elK V).length → ∃ ad, q = some ad ∧ ∀ j v, (elCells elK V)[j]? = some v → W.cell? (ad.add j) = some v) := ⟨fun W hW hpos => by
    have hne : V ≠ [] := by rintro rfl; simp [elCells] at hpos
    obtain ⟨b, o, rfl, hr⟩ := hV hne
    exact ⟨_, rfl, (hV.turned hW (fun _ _ h => h)).news _ rfl⟩⟩
  generalize elCells elK V = CV at HO HP hl ⊢
  have HB : Veil (∀ W, Turned (fun _ => False) w W → W.heap[g]? = some (.cells cur.toArray 9 (0, 0))) := ⟨fun W hW => hW.heap hb (fun h => h)⟩
  have HN : Veil (CV.length = m ∧ cur.length = c ∧ ((cur.take n).drop j).length = n - j) := ⟨hl, hc, by rw [List.length_drop, List.length_take]; omega⟩
  have HO2 : Veil (∀ v ∈ (cur.take n).drop j, v.oneCell' = true) := ⟨fun v hv => hone v (List.mem_of_mem_drop hv)⟩
  clear hb hV hm hl hc hfit ht hk hone
  go_enter Tryz.func69, Tryz.ntmps69
  go_wp2
  go_quiet (fail)
  rw [HE.out]
  try rw [HWt.out]
  obtain ⟨W1, hW1⟩ : ∃ W1, w.drewN nq = W1 := ⟨_, rfl⟩
  have HT1 : Veil (Turned (fun _ => False) w W1) := ⟨by rw [← hW1]; exact (Turned.refl _ w).drewN nq⟩
  have HS1 : Veil (W1.heap.size = w.heap.size) := ⟨by rw [← hW1]; exact (show (w.drewN nq).heap.size = w.heap.size from by simp)⟩
  rw [hW1]
  clear hW1
  go_wp2_with (with_reducible refine wpList_copy_at rfl (.tmp 95) (.tmp 96) 90 90 rfl 9 Tryz.underlying90 sizeK _ _ _ _ _ _ rfl rfl g i cur 9 (HB.out _ HT1.out) CV (by rw [HN.out.1]; exact (Nat.min_eq_left (by have := HK.out; omega)).symm) (fun hp => ⟨rfl, HP.out _ HT1.out hp⟩) (by rw [HN.out.1, HN.out.2.1]; have := HK.out; omega) HO.out ?_; intro w2 hb2 hT2)
  obtain ⟨W3, hW3⟩ : ∃ W3, w2.drew = W3 := ⟨_, rfl⟩
  have HT3 : Veil (Turned (· = g) w W3) := ⟨by rw [← hW3]; exact ((HT1.out.wider (F := (· = g)) (fun _ _ h => h.elim)).trans hT2).drew⟩
  have HB3 : Veil (W3.heap[g]? = some (.cells (splice cur i CV).toArray 9 (0, 0))) := ⟨by rw [← hW3]; exact hb2⟩
  refine region_tail 9 (by kernel_rfl) (by kernel_rfl) W3 hW3 ?_
  clear hW3 hb2 hT2
  simp only [List.take_succ_cons, List.take_zero, List.drop_succ_cons, List.drop_zero]
  iterate 9 still_step
  refine wpStill_nil ?_
  have hls : (splice cur i CV).length = c := by rw [splice_len _ _ _ (by rw [HN.out.1, HN.out.2.1]; have := HK.out; omega)]; exact HN.out.2.1
  have HLS : Veil _ := ⟨hls⟩
  have HSRC : Veil (∀ x v, ((cur.take n).drop j)[x]? = some v → W3.cell? ((⟨g, j, none⟩ : Addr).add x) = some v) := ⟨BlkE.from (E := elK) HB3.out j _ (fun x v hx => by
    rw [splice_aft _ _ _ _ (by rw [HN.out.1]; have := HK.out; omega) (by rw [HN.out.2.1]; omega)]
    exact drop_get hx)⟩
  clear hls
  go_wp2_with (with_reducible refine wpList_copy_at rfl (.tmp 103) (.tmp 106) 90 90 rfl 9 Tryz.underlying90 sizeK _ _ _ _ _ _ rfl rfl g k (splice cur i CV) 9 HB3.out ((cur.take n).drop j) (by rw [HN.out.2.2]; exact (Nat.min_eq_left (by have := HT.out; omega)).symm) (fun _ => ⟨rfl, _, rfl, HSRC.out⟩) (by rw [HN.out.2.2, HLS.out]; have := HT.out; omega) HO2.out ?_; intro w4 hb4 hT4)
  have HT4 : Veil (Turned (· = g) w w4) := ⟨HT3.out.trans hT4⟩
  have HB4 : Veil (BlkE elK w4 g (splice (splice cur i CV) k ((cur.take n).drop j))) := ⟨hb4⟩
  have hl4 : (splice (splice cur i CV) k ((cur.take n).drop j)).length = c := by rw [splice_len _ _ _ (by rw [HN.out.2.2, HLS.out]; have := HT.out; omega)]; exact HLS.out
  have HL4 : Veil _ := ⟨hl4⟩
  clear hb4 hT4 hl4
  refine only_normal ?_
  by_cases hct : c = t
  · go_wp2_with (with_reducible refine wpList_clear_blk elK 90 slK zK zcK zoK rfl (.tmp 110) rfl _ _ _ rfl g 0 _ (fun h => absurd h (by omega)) HB4.out (by rw [HL4.out]; omega) ?_; intro w5 hb5 hT5)
    go_ret
    rw [show n - t = 0 by omega, List.replicate_zero, splice_nil] at hb5
    refine ⟨by rw [hct]; rfl, HT4.out.trans hT5, _, hb5, HL4.out, ?_⟩
    rw [splice_end _ _ _ _ (by rw [HN.out.2.2]; exact HT.out) (by rw [HLS.out]; omega), splice_end _ _ _ _ (by rw [HN.out.1]; exact HK.out.symm) (by rw [HN.out.2.1]; exact hic)]
  · go_wp2_with (with_reducible refine wpList_clear_blk elK 90 slK zK zcK zoK rfl (.tmp 110) rfl _ _ _ rfl g t _ (fun _ => rfl) HB4.out (by rw [HL4.out]; omega) ?_; intro w5 hb5 hT5)
    go_ret
    refine ⟨rfl, HT4.out.trans hT5, _, hb5, ?_, ?_⟩
    · rw [splice_len _ _ _ (by rw [HL4.out, List.length_replicate]; omega)]; exact HL4.out
    · rw [splice_pre _ _ _ _ (Nat.le_refl _) (by rw [HL4.out]; exact htc), splice_end _ _ _ _ (by rw [HN.out.2.2]; exact HT.out) (by rw [HLS.out]; omega), splice_end _ _ _ _ (by rw [HN.out.1]; exact HK.out.symm) (by rw [HN.out.2.1]; exact hic)]
set_option maxRecDepth 20000 in
set_option maxHeartbeats 2000000 in
theorem replK_shift {w : World} {g n c i j m t : Nat} {cur : List Value} {q : Option Addr} {cq : Nat} (V : List (List UInt8)) (hb : BlkE elK w g cur) (hc : cur.length = c) (hc6 : c ≤ 9223372036854775807) (hn : n ≤ c) (hij : i < j) (hjn : j < n) (hV : Els elK w q V) (hm : V.length = m) (hm6 : m ≤ 100000) (hn6 : n ≤ 100000) (hone : ∀ v ∈ cur.take n, v.oneCell' = true) {g2 : Nat} {cur2 : List Value} (hBs : BesideK w g q cq V g2 cur2) (hfit : j < i + m) (ht : i + m + (n - j) = t) (htc : t ≤ c) :
    Calls Tryz.prog 69 #[.slice (some ⟨g, 0, none⟩) n c, .int .i64 i, .int .i64 j, .slice q m cq] w fun e w' => e = .returned (.slice (some ⟨g, 0, none⟩) t c) ∧ Turned (· = g) w w' ∧ ∃ cur', BlkE elK w' g cur' ∧ cur'.length = c ∧ cur'.take t = cur.take i ++ elCells elK V ++ (cur.take n).drop j := by
  obtain ⟨k, hk⟩ : ∃ k, i + m = k := ⟨_, rfl⟩
  have hjn2 : j ≤ n := by omega
  have hjc : j ≤ c := by omega
  have hic : i ≤ c := by omega
  have hci : ¬ c = i := by omega
  have hin : i ≤ n := by omega
  have e1 : ((i : Int) == (j : Int)) = false := by simp; omega
  have hwk : IntKind.i64.wrap ((i : Int) + (m : Int)) = (k : Int) := by rw [IntKind.wrap_i64]; omega
  have HK : Veil _ := ⟨hk⟩
  have e2 : ((j : Int) == (n : Int)) = false := by simp; omega
  have hcj : ¬ c = j := by omega
  have hkt : k ≤ t := by omega
  have hit : i ≤ t := by omega
  have HE : Veil (((k : Int) + ((n - j : Nat) : Int)) = (t : Int)) := ⟨by omega⟩
  have HT : Veil (t = k + (n - j)) := ⟨by omega⟩
  have HWt : Veil (wrap64 (t : Int) = t) := ⟨by unfold wrap64; omega⟩
  have hkc : ¬ c = k := by omega
  have hfj : ¬ k ≤ j := by omega
  have hfk : j < k := by omega
  have hl := cells1_len (E := elK) rfl V
  rw [hm] at hl
  have HO : Veil _ := ⟨elCells_one elK V⟩
  have HP : Veil (∀ W, Turned (fun _ => False) w W → 0 < (elCells elK V).length → ∃ ad, q = some ad ∧ ∀ j v, (elCells elK V)[j]? = some v → W.cell? (ad.add j) = some v) := ⟨fun W hW hpos => by
    have hne : V ≠ [] := by rintro rfl; simp [elCells] at hpos
    obtain ⟨b, o, rfl, hr⟩ := hV hne
    exact ⟨_, rfl, (hV.turned hW (fun _ _ h => h)).news _ rfl⟩⟩
  generalize elCells elK V = CV at HO HP hl ⊢
  have HB : Veil (∀ W, Turned (fun _ => False) w W → W.heap[g]? = some (.cells cur.toArray 9 (0, 0))) := ⟨fun W hW => hW.heap hb (fun h => h)⟩
  have HN : Veil (CV.length = m ∧ cur.length = c ∧ ((cur.take n).drop j).length = n - j) := ⟨hl, hc, by rw [List.length_drop, List.length_take]; omega⟩
  have HO2 : Veil (∀ v ∈ (cur.take n).drop j, v.oneCell' = true) := ⟨fun v hv => hone v (List.mem_of_mem_drop hv)⟩
  have HOv : Veil (∀ W, Turned (fun _ => False) w W → ∀ o1 la ca lb cb, (callFunc 98 #[.slice (some ⟨g, o1, none⟩) la ca, .slice (some ⟨g2, 0, none⟩) lb cb]).run Tryz.prog W = .ok (.value (.bool false)) W) := ⟨fun W hW o1 la ca lb cb => overK (hb.turned hW (fun h => h)) (hBs.b.turned hW (fun h => h)) hBs.ne hBs.pos o1 0 la ca lb cb⟩
  have HNe : Veil _ := ⟨hBs.ne⟩
  obtain rfl := hBs.q
  clear hb hV hm hl hc hfit ht hk hone hBs
  go_enter Tryz.func69, Tryz.ntmps69
  go_wp2
  go_quiet (fail)
  rw [HE.out]
  try rw [HWt.out]
  obtain ⟨W1, hW1⟩ : ∃ W1, w.drewN nq = W1 := ⟨_, rfl⟩
  have HT1 : Veil (Turned (fun _ => False) w W1) := ⟨by rw [← hW1]; exact (Turned.refl _ w).drewN nq⟩
  have HS1 : Veil (W1.heap.size = w.heap.size) := ⟨by rw [← hW1]; exact (show (w.drewN nq).heap.size = w.heap.size from by simp)⟩
  rw [hW1]
  clear hW1
  have hov := HOv.out _ HT1.out
  go_wp2_with (simp only [hov])
  clear hov
  obtain ⟨W3, hW3⟩ : ∃ W3, W1.drew = W3 := ⟨_, rfl⟩
  have HT3 : Veil (Turned (fun _ => False) w W3) := ⟨by rw [← hW3]; exact HT1.out.drew⟩
  refine region_tail 9 (by kernel_rfl) (by kernel_rfl) W3 hW3 ?_
  clear hW3
  simp only [List.take_succ_cons, List.take_zero, List.drop_succ_cons, List.drop_zero]
  iterate 9 still_step
  refine wpStill_nil ?_
  have HSRC : Veil (∀ x v, ((cur.take n).drop j)[x]? = some v → W3.cell? ((⟨g, j, none⟩ : Addr).add x) = some v) := ⟨BlkE.from (E := elK) (HB.out _ HT3.out) j _ (fun x v hx => drop_get hx)⟩
  go_wp2_with (with_reducible refine wpList_copy_at rfl (.tmp 126) (.tmp 129) 90 90 rfl 9 Tryz.underlying90 sizeK _ _ _ _ _ _ rfl rfl g k cur 9 (HB.out _ HT3.out) ((cur.take n).drop j) (by rw [HN.out.2.2]; exact (Nat.min_eq_left (by have := HT.out; omega)).symm) (fun _ => ⟨rfl, _, rfl, HSRC.out⟩) (by rw [HN.out.2.2, HN.out.2.1]; have := HT.out; omega) HO2.out ?_; intro w4 hb4 hT4)
  have hls : (splice cur k ((cur.take n).drop j)).length = c := by rw [splice_len _ _ _ (by rw [HN.out.2.2, HN.out.2.1]; have := HT.out; omega)]; exact HN.out.2.1
  have HLS : Veil _ := ⟨hls⟩
  have HT4 : Veil (Turned (· = g) w w4) := ⟨(HT3.out.wider (F := (· = g)) (fun _ _ h => h.elim)).trans hT4⟩
  have HP4 : Veil (0 < CV.length → ∃ ad, (some ⟨g2, 0, none⟩ : Option Addr) = some ad ∧ ∀ j v, CV[j]? = some v → w4.cell? (ad.add j) = some v) := ⟨fun hp => by
    obtain ⟨ad, he, hr⟩ := HP.out _ HT3.out hp
    cases he
    exact ⟨_, rfl, fun j v hj => hT4.cell (hr j v hj) (by rw [Addr.add_lit]; exact fun e => HNe.out e.symm)⟩⟩
  have HB4 : Veil (w4.heap[g]? = some (.cells (splice cur k ((cur.take n).drop j)).toArray 9 (0, 0))) := ⟨hb4⟩
  clear hls hb4 hT4
  refine only_normal ?_
  go_wp2_with (with_reducible refine wpList_copy_at rfl (.tmp 133) (.tmp 134) 90 90 rfl 9 Tryz.underlying90 sizeK _ _ _ _ _ _ rfl rfl g i (splice cur k ((cur.take n).drop j)) 9 HB4.out CV (by rw [HN.out.1]; exact (Nat.min_eq_left (by have := HK.out; omega)).symm) (fun hp => ⟨rfl, HP4.out hp⟩) (by rw [HN.out.1, HLS.out]; have := HK.out; omega) HO.out ?_; intro w5 hb5 hT5)
  go_ret
  refine ⟨rfl, HT4.out.trans hT5, _, hb5, ?_, ?_⟩
  · rw [splice_len _ _ _ (by rw [HN.out.1, HLS.out]; have := HK.out; omega)]; exact HLS.out
  · rw [splice_mid _ _ _ _ (by rw [HN.out.1]; have := HK.out; omega) (by rw [HLS.out]; exact htc), splice_pre _ _ _ _ (by have := HK.out; omega) (by rw [HN.out.2.1]; omega), splice_end _ _ _ _ (by rw [HN.out.2.2]; exact HT.out) (by rw [HN.out.2.1]; omega), HN.out.1, HK.out, List.drop_left' (by rw [List.length_take, HN.out.2.1]; omega)]
set_option maxRecDepth 20000 in
set_option maxHeartbeats 2000000 in
theorem replK_grow {w : World} {g n c i j m t : Nat} {cur : List Value} {q : Option Addr} {cq : Nat} (V : List (List UInt8)) (hb : BlkE elK w g cur) (hc : cur.length = c) (hc6 : c ≤ 9223372036854775807) (hn : n ≤ c) (hij : i < j) (hjn : j < n) (hV : Els elK w q V) (hm : V.length = m) (hm6 : m ≤ 100000) (hn6 : n ≤ 100000) (hone : ∀ v ∈ cur.take n, v.oneCell' = true) (ht : i + m + (n - j) = t) (htc : c < t) :
    Calls Tryz.prog 69 #[.slice (some ⟨g, 0, none⟩) n c, .int .i64 i, .int .i64 j, .slice q m cq] w fun e w' => ∃ c', e = .returned (.slice (some ⟨w.heap.size, 0, none⟩) t c') ∧ Below w.heap.size w w' ∧ ∃ cur', BlkE elK w' w.heap.size cur' ∧ cur'.length = c' ∧ t ≤ c' ∧ c' ≤ maxLen ∧ cur'.take t = cur.take i ++ elCells elK V ++ (cur.take n).drop j := by
  obtain ⟨k, hk⟩ : ∃ k, i + m = k := ⟨_, rfl⟩
  have hjn2 : j ≤ n := by omega
  have hjc : j ≤ c := by omega
  have hic : i ≤ c := by omega
  have hci : ¬ c = i := by omega
  have hin : i ≤ n := by omega
  have e1 : ((i : Int) == (j : Int)) = false := by simp; omega
  have hwk : IntKind.i64.wrap ((i : Int) + (m : Int)) = (k : Int) := by rw [IntKind.wrap_i64]; omega
  have HK : Veil _ := ⟨hk⟩
  have e2 : ((j : Int) == (n : Int)) = false := by simp; omega
  have hcj : ¬ c = j := by omega
  have hkt : k ≤ t := by omega
  have hit : i ≤ t := by omega
  have HE : Veil (((k : Int) + ((n - j : Nat) : Int)) = (t : Int)) := ⟨by omega⟩
  have HT : Veil (t = k + (n - j)) := ⟨by omega⟩
  have HWt : Veil (wrap64 (t : Int) = t) := ⟨by unfold wrap64; omega⟩
  have ht6 : t ≤ 900000 := by omega
  have hkt2 : k < t := by omega
  have hit2 : i < t := by omega
  have HZ : Veil (wrap64 ((t : Int) - (i : Int)) = ((t - i : Nat) : Int) ∧ ((t : Int) - (i : Int)) = ((t - i : Nat) : Int)) := ⟨by unfold wrap64; omega, by omega⟩
  have hl := cells1_len (E := elK) rfl V
  rw [hm] at hl
  have HO : Veil _ := ⟨elCells_one elK V⟩
  have HP : Veil (∀ W, Turned (fun _ => False) w W → 0 < (elCells elK V).length → ∃ ad, q = some ad ∧ ∀ j v, (elCells elK V)[j]? = some v → W.cell? (ad.add j) = some v) := ⟨fun W hW hpos => by
    have hne : V ≠ [] := by rintro rfl; simp [elCells] at hpos
    obtain ⟨b, o, rfl, hr⟩ := hV hne
    exact ⟨_, rfl, (hV.turned hW (fun _ _ h => h)).news _ rfl⟩⟩
  generalize elCells elK V = CV at HO HP hl ⊢
  have HB : Veil (∀ W, Turned (fun _ => False) w W → W.heap[g]? = some (.cells cur.toArray 9 (0, 0))) := ⟨fun W hW => hW.heap hb (fun h => h)⟩
  have HN : Veil (CV.length = m ∧ cur.length = c ∧ ((cur.take n).drop j).length = n - j) := ⟨hl, hc, by rw [List.length_drop, List.length_take]; omega⟩
  have HO2 : Veil (∀ v ∈ (cur.take n).drop j, v.oneCell' = true) := ⟨fun v hv => hone v (List.mem_of_mem_drop hv)⟩
  have hgl : g < w.heap.size := lt_of_heap hb
  have HGL : Veil _ := ⟨hgl⟩
  clear hb hV hm hl hc ht hk hone hgl
  go_enter Tryz.func69, Tryz.ntmps69
  go_wp2
  go_quiet (fail)
  rw [HE.out]
  try rw [HWt.out]
  obtain ⟨W1, hW1⟩ : ∃ W1, w.drewN nq = W1 := ⟨_, rfl⟩
  have HT1 : Veil (Turned (fun _ => False) w W1) := ⟨by rw [← hW1]; exact (Turned.refl _ w).drewN nq⟩
  have HS1 : Veil (W1.heap.size = w.heap.size) := ⟨by rw [← hW1]; exact (show (w.drewN nq).heap.size = w.heap.size from by simp)⟩
  rw [hW1]
  clear hW1
  go_wp2_with (first
    | (at_builtin; refine wpList_zeros_onto elK 90 slK zK zcK rfl (.tmp 63) (.tmp 66) 3 Tryz.underlying3 rfl _ _ _ rfl _ rfl g cur rfl (HB.out _ HT1.out) (by rw [HN.out.2.1]; exact hic) (t - i) t (by first | exact HZ.out.1 | exact HZ.out.2) (by omega) (by omega) (by omega) (by omega) ?_; intro w2 c' cur2 hb2 hl2 htc2 hcm2 hpre2 hbl2; rw [HS1.out] at hb2 hbl2; obtain ⟨H, hH⟩ : ∃ H, w.heap.size = H := ⟨_, rfl⟩; rw [HS1.out, hH]; have HH : Veil (H = w.heap.size) := ⟨hH.symm⟩; have HB2 : Veil (w2.heap[H]? = some (.cells cur2.toArray 9 (0, 0))) := ⟨by rw [← hH]; exact hb2⟩; have HBl : Veil (Below w.heap.size w w2) := ⟨(show Below w.heap.size w W1 from Turned.toBelow HT1.out (Nat.le_refl _) (fun _ _ h => h.elim)).trans hbl2⟩; have HP2 : Veil (0 < CV.length → ∃ ad, q = some ad ∧ ∀ j v, CV[j]? = some v → w2.cell? (ad.add j) = some v) := ⟨HP.out _ (Turned.new HBl.out)⟩; have HL2 : Veil _ := ⟨hl2⟩; have HPr : Veil _ := ⟨hpre2⟩; have hc2i : ¬ c' = i := (by omega); have hc2k : ¬ c' = k := (by omega); have hic2 : i ≤ c' := (by omega); have hkc2 : k ≤ c' := (by omega); clear hb2 hl2 hpre2 hbl2 hH)
    | (with_reducible refine wpList_copy_at rfl (.tmp 70) (.tmp 71) 90 90 rfl 9 Tryz.underlying90 sizeK _ _ _ _ _ _ rfl rfl H i cur2 9 HB2.out CV (by rw [HN.out.1]; exact (Nat.min_eq_left (by have := HK.out; omega)).symm) (fun hp => ⟨rfl, HP2.out hp⟩) (by rw [HN.out.1, HL2.out]; have := HK.out; omega) HO.out ?_; intro w3 hb3 hT3))
  obtain ⟨W3, hW3⟩ : ∃ W3, w3.drew = W3 := ⟨_, rfl⟩
  have HT3 : Veil (Turned (· = H) w2 W3) := ⟨by rw [← hW3]; exact hT3.drew⟩
  have HB3 : Veil (W3.heap[H]? = some (.cells (splice cur2 i CV).toArray 9 (0, 0))) := ⟨by rw [← hW3]; exact hb3⟩
  refine region_tail 9 (by kernel_rfl) (by kernel_rfl) W3 hW3 ?_
  clear hW3 hb3 hT3
  simp only [List.take_succ_cons, List.take_zero, List.drop_succ_cons, List.drop_zero]
  iterate 9 still_step
  refine wpStill_nil ?_
  have hls : (splice cur2 i CV).length = c' := by rw [splice_len _ _ _ (by rw [HN.out.1, HL2.out]; have := HK.out; omega)]; exact HL2.out
  have HLS : Veil _ := ⟨hls⟩
  have HSRC : Veil (∀ x v, ((cur.take n).drop j)[x]? = some v → W3.cell? ((⟨g, j, none⟩ : Addr).add x) = some v) := ⟨BlkE.from (E := elK) (HT3.out.heap ((HBl.out.block _ (lt_of_heap (HB.out _ (Turned.refl _ _)))).trans (HB.out _ (Turned.refl _ _))) (by have := HGL.out; have := HH.out; omega)) j _ (fun x v hx => drop_get hx)⟩
  clear hls
  go_wp2_with (with_reducible refine wpList_copy_at rfl (.tmp 78) (.tmp 81) 90 90 rfl 9 Tryz.underlying90 sizeK _ _ _ _ _ _ rfl rfl H k (splice cur2 i CV) 9 HB3.out ((cur.take n).drop j) (by rw [HN.out.2.2]; exact (Nat.min_eq_left (by have := HT.out; omega)).symm) (fun _ => ⟨rfl, _, rfl, HSRC.out⟩) (by rw [HN.out.2.2, HLS.out]; have := HT.out; omega) HO2.out ?_; intro w4 hb4 hT4)
  have hT4' : Below w.heap.size w w4 := (Turned.toBelow (F := (· = H)) ((Turned.new HBl.out).trans (HT3.out.trans hT4)) (Nat.le_refl _) (fun x hx e => by have := HH.out; omega))
  have HT4 : Veil _ := ⟨hT4'⟩
  have HB4 : Veil (BlkE elK w4 H (splice (splice cur2 i CV) k ((cur.take n).drop j))) := ⟨hb4⟩
  clear hb4 hT4 hT4'
  refine only_normal ?_
  go_wp2
  go_ret
  rw [← HH.out]
  refine ⟨c', rfl, HH.out ▸ HT4.out, _, HB4.out, ?_, htc2, hcm2, ?_⟩
  · rw [splice_len _ _ _ (by rw [HN.out.2.2, HLS.out]; have := HT.out; omega)]; exact HLS.out
  · rw [splice_end _ _ _ _ (by rw [HN.out.2.2]; exact HT.out) (by rw [HLS.out]; omega), splice_end _ _ _ _ (by rw [HN.out.1]; exact HK.out.symm) (by rw [HL2.out]; exact hic2), HPr.out]
set_option maxRecDepth 20000 in
set_option maxHeartbeats 2000000 in
theorem replK_end {w : World} {g n c i m t : Nat} {cur : List Value} {q : Option Addr} {cq : Nat} (V : List (List UInt8)) (hb : BlkE elK w g cur) (hc : cur.length = c) (_hc6 : c ≤ 9223372036854775807) (hn : n ≤ c) (hij : i < n) (hV : Els elK w q V) (hm : V.length = m) (_hm6 : m ≤ 100000) (hn6 : n ≤ 100000)  (hfit : i + m ≤ n) (ht : i + m = t) :
    Calls Tryz.prog 69 #[.slice (some ⟨g, 0, none⟩) n c, .int .i64 i, .int .i64 n, .slice q m cq] w fun e w' => e = .returned (.slice (some ⟨g, 0, none⟩) t c) ∧ Turned (· = g) w w' ∧ ∃ cur', BlkE elK w' g cur' ∧ cur'.length = c ∧ cur'.take t = cur.take i ++ elCells elK V := by
  have hic : i ≤ c := by omega
  have htc : t ≤ c := by omega
  have htn : t ≤ n := by omega
  have e1 : ((i : Int) == (n : Int)) = false := by simp; omega
  have hl := cells1_len (E := elK) rfl V
  rw [hm] at hl
  have HB : Veil (BlkE elK w g cur) := ⟨hb⟩
  have HV : Veil (Els elK w q V ∧ V.length = m ∧ i + m = t ∧ cur.length = c ∧ (elCells elK V).length = m) := ⟨hV, hm, ht, hc, hl⟩
  clear hb hV hm hl hc ht hfit
  have HC : Veil (t ≤ c) := ⟨htc⟩
  by_cases hkn : t < n
  · have hct : ¬ c = t := by omega
    go_enter Tryz.func69, Tryz.ntmps69
    go_wp2_with (first
      | (at_builtin; refine wpList_append_in elK 90 slK zK rfl (.tmp 32) (.tmp 33) rfl _ _ _ rfl g cur rfl HB.out V _ _ m t rfl HV.out.2.1 HV.out.2.2.1 HV.out.1 (by rw [HV.out.2.2.1, HV.out.2.2.2.1]; exact HC.out) (by rw [HV.out.2.2.1]; exact HC.out) ?_; intro w2 hb2 hT2; have HB2 : Veil _ := ⟨hb2⟩; have HT2 : Veil _ := ⟨hT2⟩; have HL2 : Veil ((splice cur i (elCells elK V)).length = c) := ⟨by rw [splice_len _ _ _ (by rw [HV.out.2.2.2.2, HV.out.2.2.1, HV.out.2.2.2.1]; exact HC.out)]; exact HV.out.2.2.2.1⟩; clear hb2 hT2)
      | (with_reducible refine wpList_clear_blk elK 90 slK zK zcK zoK rfl (.tmp 43) rfl _ _ _ rfl g t _ (fun _ => rfl) HB2.out (by rw [HL2.out]; omega) ?_; intro w5 hb5 hT5))
    go_ret
    refine ⟨rfl, HT2.out.trans hT5, _, hb5, ?_, ?_⟩
    · rw [splice_len _ _ _ (by rw [HL2.out, List.length_replicate]; omega)]; exact HL2.out
    · rw [splice_pre _ _ _ _ (Nat.le_refl _) (by rw [HL2.out]; exact HC.out), splice_end _ _ _ _ (by rw [HV.out.2.2.2.2]; exact HV.out.2.2.1.symm) (by rw [HV.out.2.2.2.1]; exact hic)]
  · go_enter Tryz.func69, Tryz.ntmps69
    go_wp2_with (first
      | (at_builtin; refine wpList_append_in elK 90 slK zK rfl (.tmp 32) (.tmp 33) rfl _ _ _ rfl g cur rfl HB.out V _ _ m t rfl HV.out.2.1 HV.out.2.2.1 HV.out.1 (by rw [HV.out.2.2.1, HV.out.2.2.2.1]; exact HC.out) (by rw [HV.out.2.2.1]; exact HC.out) ?_; intro w2 hb2 hT2))
    go_ret
    refine ⟨rfl, hT2, _, hb2, ?_, ?_⟩
    · rw [splice_len _ _ _ (by rw [HV.out.2.2.2.2, HV.out.2.2.1, HV.out.2.2.2.1]; exact HC.out)]; exact HV.out.2.2.2.1
    · rw [splice_end _ _ _ _ (by rw [HV.out.2.2.2.2]; exact HV.out.2.2.1.symm) (by rw [HV.out.2.2.2.1]; exact hic)]
set_option maxRecDepth 20000 in
set_option maxHeartbeats 2000000 in
theorem replK_more {w : World} {g n c i m B : Nat} {q : Option Addr} {cq : Nat} (P V : List (List UInt8)) (ho : OwnE elK w B (.slice (some ⟨g, 0, none⟩) i c) P) (hB : B ≤ w.heap.size) (hP : P.length = i) (_hc6 : c ≤ 9223372036854775807) (hn : n ≤ c) (hij : i < n) (hV : Els elK w q V) (hm : V.length = m) (hm6 : m ≤ 100000) (hn6 : n ≤ 100000) (hfit : n < i + m) :
    Calls Tryz.prog 69 #[.slice (some ⟨g, 0, none⟩) n c, .int .i64 i, .int .i64 n, .slice q m cq] w fun e w' => ∃ v', e = .returned v' ∧ OwnE elK w' B v' (P ++ V) ∧ Turned (fun x => x = g) w w' ∧ (∀ x, v'.ownBlock = some x → g = x ∨ w.heap.size ≤ x) := by
  have hic : i ≤ c := by omega
  have e1 : ((i : Int) == (n : Int)) = false := by simp; omega
  subst hm
  have HO : Veil _ := ⟨ho⟩
  have HV : Veil _ := ⟨hV⟩
  have HL : Veil (P.length = i) := ⟨hP⟩
  have HBB : Veil _ := ⟨hB⟩
  have HS : Veil (P.length + V.length ≤ 1000000) := ⟨by omega⟩
  have HG : Veil (g < w.heap.size) := ⟨(ho.lt (j := g) rfl).2⟩
  clear ho hV hP hB
  go_enter Tryz.func69, Tryz.ntmps69
  go_wp2_with (at_builtin; refine wpList_append_els elK rfl (.tmp 32) (.tmp 33) rfl B _ P V rfl HO.out _ _ rfl HV.out HS.out HBB.out ?_; intro v2 w2 ho2 hg2 hb2; obtain ⟨p2, c2, ev2, -, -⟩ := ho2.form; subst ev2; have HO2 : Veil _ := ⟨ho2⟩; have HLn : Veil ((P ++ V).length = i + V.length) := ⟨by rw [List.length_append, HL.out]⟩; rw [HLn.out]; have HG2 : Veil _ := ⟨hg2⟩; have HN2 : Veil _ := ⟨hb2⟩; clear ho2 hg2 hb2)
  go_ret
  refine ⟨_, rfl, by have := HO2.out; rwa [HLn.out] at this, Turned.grown HG2.out (fun x hx _ => (Option.some.inj hx).symm), fun x hx => ?_⟩
  have := HN2.out x (by rw [HLn.out]; exact hx)
  rcases this with h | h
  · exact .inl (Option.some.inj h)
  · exact .inr h
set_option maxRecDepth 20000 in
set_option maxHeartbeats 2000000 in
theorem insK_grow {w : World} {g n c i m t : Nat} {cur : List Value} {q : Option Addr} {cq : Nat} (V : List (List UInt8)) (hb : BlkE elK w g cur) (hc : cur.length = c) (hc6 : c ≤ 9223372036854775807) (hn : n ≤ c) (hij : i < n) (hV : Els elK w q V) (hm : V.length = m) (hm0 : 0 < m) (hm6 : m ≤ 100000) (hn6 : n ≤ 100000) (hone : ∀ v ∈ cur.take n, v.oneCell' = true) (ht : n + m = t) (htc : c < t) :
    Calls Tryz.prog 97 #[.slice (some ⟨g, 0, none⟩) n c, .int .i64 i, .slice q m cq] w fun e w' => ∃ c', e = .returned (.slice (some ⟨w.heap.size, 0, none⟩) t c') ∧ Below w.heap.size w w' ∧ ∃ cur', BlkE elK w' w.heap.size cur' ∧ cur'.length = c' ∧ t ≤ c' ∧ c' ≤ maxLen ∧ cur'.take t = cur.take i ++ elCells elK V ++ (cur.take n).drop i := by
  obtain ⟨k, hk⟩ : ∃ k, i + m = k := ⟨_, rfl⟩
  have hic : i ≤ c := by omega
  have hin : i ≤ n := by omega
  have hit : i ≤ t := by omega
  have hkt : k ≤ t := by omega
  have hkt2 : k < t := by omega
  have hit2 : i < t := by omega
  have ht6 : t ≤ 900000 := by omega
  have hci : ¬ c = i := by omega
  have e1 : ((m : Int) == 0) = false := by simp; omega
  have e2 : ((i : Int) == (n : Int)) = false := by simp; omega
  have hwk : IntKind.i64.wrap ((i : Int) + (m : Int)) = (k : Int) := by rw [IntKind.wrap_i64]; omega
  have hwt : IntKind.i64.wrap ((n : Int) + (m : Int)) = (t : Int) := by rw [IntKind.wrap_i64]; omega
  have HK : Veil _ := ⟨hk⟩
  have HT : Veil (t = k + (n - i)) := ⟨by omega⟩
  have HZ : Veil (wrap64 ((t : Int) - (i : Int)) = ((t - i : Nat) : Int) ∧ ((t : Int) - (i : Int)) = ((t - i : Nat) : Int)) := ⟨by unfold wrap64; omega, by omega⟩
  have hl := cells1_len (E := elK) rfl V
  rw [hm] at hl
  have HO : Veil _ := ⟨elCells_one elK V⟩
  have HP : Veil (∀ W, Turned (fun _ => False) w W → 0 < (elCells elK V).length → ∃ ad, q = some ad ∧ ∀ j v, (elCells elK V)[j]? = some v → W.cell? (ad.add j) = some v) := ⟨fun W hW hpos => by
    have hne : V ≠ [] := by rintro rfl; simp [elCells] at hpos
    obtain ⟨b, o, rfl, hr⟩ := hV hne
    exact ⟨_, rfl, (hV.turned hW (fun _ _ h => h)).news _ rfl⟩⟩
  generalize elCells elK V = CV at HO HP hl ⊢
  have HB : Veil (∀ W, Turned (fun _ => False) w W → W.heap[g]? = some (.cells cur.toArray 9 (0, 0))) := ⟨fun W hW => hW.heap hb (fun h => h)⟩
  have HN : Veil (CV.length = m ∧ cur.length = c ∧ ((cur.take n).drop i).length = n - i) := ⟨hl, hc, by rw [List.length_drop, List.length_take]; omega⟩
  have HO2 : Veil (∀ v ∈ (cur.take n).drop i, v.oneCell' = true) := ⟨fun v hv => hone v (List.mem_of_mem_drop hv)⟩
  have HGL : Veil (g < w.heap.size) := ⟨lt_of_heap hb⟩
  clear hb hV hm hl hc ht hk hone
  go_enter Tryz.func97, Tryz.ntmps97
  go_wp2_with (first
    | (at_builtin; refine wpList_zeros_onto elK 90 slK zK zcK rfl (.tmp 34) (.tmp 39) 3 Tryz.underlying3 rfl _ _ _ rfl _ rfl g cur rfl (HB.out _ (Turned.refl _ _)) (by rw [HN.out.2.1]; exact hic) (t - i) t (by first | exact HZ.out.1 | exact HZ.out.2) (by omega) (by omega) (by omega) (by omega) ?_; intro w2 c' cur2 hb2 hl2 htc2 hcm2 hpre2 hbl2; obtain ⟨H, hH⟩ : ∃ H, w.heap.size = H := ⟨_, rfl⟩; rw [hH]; have HH : Veil (H = w.heap.size) := ⟨hH.symm⟩; have HB2 : Veil (w2.heap[H]? = some (.cells cur2.toArray 9 (0, 0))) := ⟨by rw [← hH]; exact hb2⟩; have HBl : Veil (Below w.heap.size w w2) := ⟨hbl2⟩; have HP2 : Veil (0 < CV.length → ∃ ad, q = some ad ∧ ∀ j v, CV[j]? = some v → w2.cell? (ad.add j) = some v) := ⟨HP.out _ (Turned.new HBl.out)⟩; have HL2 : Veil _ := ⟨hl2⟩; have HPr : Veil _ := ⟨hpre2⟩; have hc2i : ¬ c' = i := (by omega); have hc2k : ¬ c' = k := (by omega); have hic2 : i ≤ c' := (by omega); have hkc2 : k ≤ c' := (by omega); clear hb2 hl2 hpre2 hbl2 hH)
    | (with_reducible refine wpList_copy_at rfl (.tmp 43) (.tmp 44) 90 90 rfl 9 Tryz.underlying90 sizeK _ _ _ _ _ _ rfl rfl H i cur2 9 HB2.out CV (by rw [HN.out.1]; exact (Nat.min_eq_left (by have := HK.out; omega)).symm) (fun hp => ⟨rfl, HP2.out hp⟩) (by rw [HN.out.1, HL2.out]; have := HK.out; omega) HO.out ?_; intro w3 hb3 hT3))
  obtain ⟨W3, hW3⟩ : ∃ W3, w3.drew = W3 := ⟨_, rfl⟩
  have HT3 : Veil (Turned (· = H) w2 W3) := ⟨by rw [← hW3]; exact hT3.drew⟩
  have HB3 : Veil (W3.heap[H]? = some (.cells (splice cur2 i CV).toArray 9 (0, 0))) := ⟨by rw [← hW3]; exact hb3⟩
  refine region_tail 8 (by kernel_rfl) (by kernel_rfl) W3 hW3 ?_
  clear hW3 hb3 hT3
  simp only [List.take_succ_cons, List.take_zero, List.drop_succ_cons, List.drop_zero]
  iterate 8 still_step
  refine wpStill_nil ?_
  have hls : (splice cur2 i CV).length = c' := by rw [splice_len _ _ _ (by rw [HN.out.1, HL2.out]; have := HK.out; omega)]; exact HL2.out
  have HLS : Veil _ := ⟨hls⟩
  have HSRC : Veil (∀ x v, ((cur.take n).drop i)[x]? = some v → W3.cell? ((⟨g, i, none⟩ : Addr).add x) = some v) := ⟨BlkE.from (E := elK) (HT3.out.heap ((HBl.out.block _ (lt_of_heap (HB.out _ (Turned.refl _ _)))).trans (HB.out _ (Turned.refl _ _))) (by have := HGL.out; have := HH.out; omega)) i _ (fun x v hx => drop_get hx)⟩
  clear hls
  go_wp2_with (with_reducible refine wpList_copy_at rfl (.tmp 50) (.tmp 53) 90 90 rfl 9 Tryz.underlying90 sizeK _ _ _ _ _ _ rfl rfl H k (splice cur2 i CV) 9 HB3.out ((cur.take n).drop i) (by rw [HN.out.2.2]; exact (Nat.min_eq_left (by have := HT.out; omega)).symm) (fun _ => ⟨rfl, _, rfl, HSRC.out⟩) (by rw [HN.out.2.2, HLS.out]; have := HT.out; omega) HO2.out ?_; intro w4 hb4 hT4)
  have hT4' : Below w.heap.size w w4 := (Turned.toBelow (F := (· = H)) ((Turned.new HBl.out).trans (HT3.out.trans hT4)) (Nat.le_refl _) (fun x hx e => by have := HH.out; omega))
  have HT4 : Veil _ := ⟨hT4'⟩
  have HB4 : Veil (BlkE elK w4 H (splice (splice cur2 i CV) k ((cur.take n).drop i))) := ⟨hb4⟩
  clear hb4 hT4 hT4'
  refine only_normal ?_
  go_wp2
  go_ret
  rw [← HH.out]
  refine ⟨c', rfl, HH.out ▸ HT4.out, _, HB4.out, ?_, htc2, hcm2, ?_⟩
  · rw [splice_len _ _ _ (by rw [HN.out.2.2, HLS.out]; have := HT.out; omega)]; exact HLS.out
  · rw [splice_end _ _ _ _ (by rw [HN.out.2.2]; exact HT.out) (by rw [HLS.out]; omega), splice_end _ _ _ _ (by rw [HN.out.1]; exact HK.out.symm) (by rw [HL2.out]; exact hic2), HPr.out]
set_option maxRecDepth 20000 in
set_option maxHeartbeats 2000000 in
theorem insK_shift {w : World} {g n c i m t : Nat} {cur : List Value} {q : Option Addr} {cq : Nat} (V : List (List UInt8)) (hb : BlkE elK w g cur) (hc : cur.length = c) (hc6 : c ≤ 9223372036854775807) (hn : n ≤ c) (hij : i < n) (hV : Els elK w q V) (hm : V.length = m) (hm0 : 0 < m) (hm6 : m ≤ 100000) (hn6 : n ≤ 100000) (hone : ∀ v ∈ cur.take n, v.oneCell' = true) {g2 : Nat} {cur2 : List Value} (hBs : BesideK w g q cq V g2 cur2) (ht : n + m = t) (htc : t ≤ c) :
    Calls Tryz.prog 97 #[.slice (some ⟨g, 0, none⟩) n c, .int .i64 i, .slice q m cq] w fun e w' => e = .returned (.slice (some ⟨g, 0, none⟩) t c) ∧ Turned (· = g) w w' ∧ ∃ cur', BlkE elK w' g cur' ∧ cur'.length = c ∧ cur'.take t = cur.take i ++ elCells elK V ++ (cur.take n).drop i := by
  obtain ⟨k, hk⟩ : ∃ k, i + m = k := ⟨_, rfl⟩
  have hic : i ≤ c := by omega
  have hin : i ≤ n := by omega
  have hit : i ≤ t := by omega
  have hkt : k ≤ t := by omega
  have hkt2 : k < t := by omega
  have hit2 : i < t := by omega
  have ht6 : t ≤ 900000 := by omega
  have hci : ¬ c = i := by omega
  have e1 : ((m : Int) == 0) = false := by simp; omega
  have e2 : ((i : Int) == (n : Int)) = false := by simp; omega
  have hwk : IntKind.i64.wrap ((i : Int) + (m : Int)) = (k : Int) := by rw [IntKind.wrap_i64]; omega
  have hwt : IntKind.i64.wrap ((n : Int) + (m : Int)) = (t : Int) := by rw [IntKind.wrap_i64]; omega
  have HK : Veil _ := ⟨hk⟩
  have HT : Veil (t = k + (n - i)) := ⟨by omega⟩
  have HZ : Veil (wrap64 ((t : Int) - (i : Int)) = ((t - i : Nat) : Int) ∧ ((t : Int) - (i : Int)) = ((t - i : Nat) : Int)) := ⟨by unfold wrap64; omega, by omega⟩
  have hkc : ¬ c = k := by omega
  have hct : ¬ c < t := by omega
  have hl := cells1_len (E := elK) rfl V
  rw [hm] at hl
  have HO : Veil _ := ⟨elCells_one elK V⟩
  have HP : Veil (∀ W, Turned (fun _ => False) w W → 0 < (elCells elK V).length → ∃ ad, q = some ad ∧ ∀ j v, (elCells elK V)[j]? = some v → W.cell? (ad.add j) = some v) := ⟨fun W hW hpos => by
    have hne : V ≠ [] := by rintro rfl; simp [elCells] at hpos
    obtain ⟨b, o, rfl, hr⟩ := hV hne
    exact ⟨_, rfl, (hV.turned hW (fun _ _ h => h)).news _ rfl⟩⟩
  generalize elCells elK V = CV at HO HP hl ⊢
  have HB : Veil (∀ W, Turned (fun _ => False) w W → W.heap[g]? = some (.cells cur.toArray 9 (0, 0))) := ⟨fun W hW => hW.heap hb (fun h => h)⟩
  have HN : Veil (CV.length = m ∧ cur.length = c ∧ ((cur.take n).drop i).length = n - i) := ⟨hl, hc, by rw [List.length_drop, List.length_take]; omega⟩
  have HO2 : Veil (∀ v ∈ (cur.take n).drop i, v.oneCell' = true) := ⟨fun v hv => hone v (List.mem_of_mem_drop hv)⟩
  have HOv : Veil (∀ lb cb, (callFunc 98 #[.slice (some ⟨g2, 0, none⟩) m cq, .slice (some ⟨g, k, none⟩) lb cb]).run Tryz.prog w = .ok (.value (.bool false)) w) := ⟨fun lb cb => overK hBs.b hb hBs.ne.symm (by omega) 0 k m cq lb cb⟩
  have HNe : Veil _ := ⟨hBs.ne⟩
  obtain rfl := hBs.q
  clear hb hV hm hl hc ht hk hone hBs
  have hov := HOv.out
  go_enter Tryz.func97, Tryz.ntmps97
  go_wp2_with (simp only [hov])
  clear hov
  obtain ⟨W3, hW3⟩ : ∃ W3, w.drew = W3 := ⟨_, rfl⟩
  have HT3 : Veil (Turned (fun _ => False) w W3) := ⟨by rw [← hW3]; exact (Turned.refl _ w).drew⟩
  refine region_tail 8 (by kernel_rfl) (by kernel_rfl) W3 hW3 ?_
  clear hW3
  simp only [List.take_succ_cons, List.take_zero, List.drop_succ_cons, List.drop_zero]
  iterate 8 still_step
  refine wpStill_nil ?_
  have HSRC : Veil (∀ x v, ((cur.take n).drop i)[x]? = some v → W3.cell? ((⟨g, i, none⟩ : Addr).add x) = some v) := ⟨BlkE.from (E := elK) (HB.out _ HT3.out) i _ (fun x v hx => drop_get hx)⟩
  go_wp2_with (with_reducible refine wpList_copy_at rfl (.tmp 73) (.tmp 76) 90 90 rfl 9 Tryz.underlying90 sizeK _ _ _ _ _ _ rfl rfl g k cur 9 (HB.out _ HT3.out) ((cur.take n).drop i) (by rw [HN.out.2.2]; exact (show n - i = min (t - i) (t - k) by have := HT.out; have := HK.out; omega)) (fun _ => ⟨rfl, _, rfl, HSRC.out⟩) (by rw [HN.out.2.2, HN.out.2.1]; have := HT.out; omega) HO2.out ?_; intro w4 hb4 hT4)
  have hls : (splice cur k ((cur.take n).drop i)).length = c := by rw [splice_len _ _ _ (by rw [HN.out.2.2, HN.out.2.1]; have := HT.out; omega)]; exact HN.out.2.1
  have HLS : Veil _ := ⟨hls⟩
  have HT4 : Veil (Turned (· = g) w w4) := ⟨(HT3.out.wider (F := (· = g)) (fun _ _ h => h.elim)).trans hT4⟩
  have HP4 : Veil (0 < CV.length → ∃ ad, (some ⟨g2, 0, none⟩ : Option Addr) = some ad ∧ ∀ j v, CV[j]? = some v → w4.cell? (ad.add j) = some v) := ⟨fun hp => by
    obtain ⟨ad, he, hr⟩ := HP.out _ HT3.out hp
    cases he
    exact ⟨_, rfl, fun j v hj => hT4.cell (hr j v hj) (by rw [Addr.add_lit]; exact fun e => HNe.out e.symm)⟩⟩
  have HB4 : Veil (w4.heap[g]? = some (.cells (splice cur k ((cur.take n).drop i)).toArray 9 (0, 0))) := ⟨hb4⟩
  clear hls hb4 hT4
  refine only_normal ?_
  go_wp2_with (with_reducible refine wpList_copy_at rfl (.tmp 80) (.tmp 81) 90 90 rfl 9 Tryz.underlying90 sizeK _ _ _ _ _ _ rfl rfl g i (splice cur k ((cur.take n).drop i)) 9 HB4.out CV (by rw [HN.out.1]; exact (Nat.min_eq_left (by have := HK.out; omega)).symm) (fun hp => ⟨rfl, HP4.out hp⟩) (by rw [HN.out.1, HLS.out]; have := HK.out; omega) HO.out ?_; intro w5 hb5 hT5)
  go_ret
  refine ⟨rfl, HT4.out.trans hT5, _, hb5, ?_, ?_⟩
  · rw [splice_len _ _ _ (by rw [HN.out.1, HLS.out]; have := HK.out; omega)]; exact HLS.out
  · rw [splice_mid _ _ _ _ (by rw [HN.out.1]; have := HK.out; omega) (by rw [HLS.out]; exact htc), splice_pre _ _ _ _ (by have := HK.out; omega) (by rw [HN.out.2.1]; omega), splice_end _ _ _ _ (by rw [HN.out.2.2]; exact HT.out) (by rw [HN.out.2.1]; omega), HN.out.1, HK.out, List.drop_left' (by rw [List.length_take, HN.out.2.1]; omega)]
set_option maxRecDepth 20000 in
set_option maxHeartbeats 2000000 in
theorem insK_none {w : World} {p : Option Addr} {n c i : Nat} (hp : p = none → n = 0 ∧ c = 0) (hn : n ≤ c) (hc6 : c ≤ 9223372036854775807) (hi : i ≤ n) (hs : ∀ a, p = some a → a.off = 0 ∧ a.spot = none) (q : Option Addr) (cq : Nat) :
    Calls Tryz.prog 97 #[.slice p n c, .int .i64 i, .slice q 0 cq] w fun e w' => e = .returned (.slice p n c) ∧ w' = w := by
  cases p with
  | none =>
    obtain ⟨rfl, rfl⟩ := hp rfl
    obtain rfl : i = 0 := by omega
    clear hp hn hi hs
    go_enter Tryz.func97, Tryz.ntmps97
    go_wp2
    go_ret
    exact ⟨rfl, rfl⟩
  | some a =>
    obtain ⟨g, o, sp⟩ := a
    obtain ⟨h1, h2⟩ := hs _ rfl
    dsimp only at h1 h2
    subst h1 h2
    have hic : i ≤ c := by omega
    clear hp hs
    go_enter Tryz.func97, Tryz.ntmps97
    go_wp2
    all_goals
      go_ret
      exact ⟨rfl, rfl⟩
set_option maxRecDepth 20000 in
set_option maxHeartbeats 2000000 in
theorem insK_end {w : World} {v : Value} {m B : Nat} {q : Option Addr} {cq : Nat} (P V : List (List UInt8)) (ho : OwnE elK w B v P) (hB : B ≤ w.heap.size) (hV : Els elK w q V) (hm : V.length = m) (hm0 : 0 < m) (hm6 : m ≤ 100000) (hn6 : P.length ≤ 100000) (hv6 : ∀ p n c, v = .slice p n c → c ≤ 9223372036854775807) :
    Calls Tryz.prog 97 #[v, .int .i64 P.length, .slice q m cq] w fun e w' => ∃ v', e = .returned v' ∧ OwnE elK w' B v' (P ++ V) ∧ Turned (fun x => v.ownBlock = some x) w w' ∧ (∀ x, v'.ownBlock = some x → v.ownBlock = some x ∨ w.heap.size ≤ x) := by
  have e1 : ((m : Int) == 0) = false := by simp; omega
  subst hm
  have HO : Veil _ := ⟨ho⟩
  have HV : Veil _ := ⟨hV⟩
  have HBB : Veil _ := ⟨hB⟩
  have HS : Veil (P.length + V.length ≤ 1000000) := ⟨by omega⟩
  have hcase : v = .slice none 0 0 ∧ P = [] ∨ ∃ g c, v = .slice (some ⟨g, 0, none⟩) P.length c ∧ P.length ≤ c ∧ c ≤ 9223372036854775807 := by
    obtain ⟨-, h2⟩ := ho
    rcases h2 with ⟨e, h0⟩ | ⟨g, cap, cur, e, hg, hh, hn, hc, hs, ht⟩
    · exact .inl ⟨e, List.eq_nil_of_length_eq_zero h0⟩
    · exact .inr ⟨g, cap, e, hn, hv6 _ _ _ e⟩
  clear ho hV hB hv6
  rcases hcase with ⟨rfl, rfl⟩ | ⟨g, c, rfl, hPc, hc6⟩
  · go_enter Tryz.func97, Tryz.ntmps97
    go_wp2_with (at_builtin; refine wpList_append_els elK rfl (.tmp 23) (.tmp 24) rfl B _ [] V rfl HO.out _ _ rfl HV.out HS.out HBB.out ?_; intro v2 w2 ho2 hg2 hb2)
    go_ret
    refine ⟨v2, rfl, ho2, Turned.grown hg2 (fun x hx _ => hx), hb2⟩
  · have hw : (P.length : Int) = P.length := rfl
    go_enter Tryz.func97, Tryz.ntmps97
    go_wp2_with (at_builtin; refine wpList_append_els elK rfl (.tmp 23) (.tmp 24) rfl B _ P V rfl HO.out _ _ rfl HV.out HS.out HBB.out ?_; intro v2 w2 ho2 hg2 hb2)
    all_goals
      go_ret
      refine ⟨v2, rfl, ho2, Turned.grown hg2 (fun x hx _ => hx), hb2⟩
theorem besideK {w : World} {B2 g : Nat} {q : Option Addr} {cq : Nat} {V : List (List UInt8)} (hV : OwnE elK w B2 (.slice q V.length cq) V) (hne : ∀ x, (Value.slice q V.length cq).ownBlock = some x → g ≠ x) (hp : 0 < V.length) : ∃ g2 cur2, BesideK w g q cq V g2 cur2 := by
  obtain ⟨g2, c2, cur2, e, -, hb, hn, -, hc, -⟩ := hV.blk rfl hp
  cases e
  exact ⟨g2, cur2, rfl, hb, hne g2 rfl, by omega⟩
theorem cellsK_put {cur : List Value} {L V : List (List UInt8)} {i j : Nat} (ht : cur.take L.length = elCells elK L) (hi : i ≤ L.length) : elCells elK (L.take i ++ V ++ L.drop j) = cur.take i ++ elCells elK V ++ (cur.take L.length).drop j := by
  rw [elCells_append, elCells_append, cells1_take rfl, cells1_drop rfl, ht, ← ht, List.take_take, Nat.min_eq_left hi]
theorem replaceK_any {w : World} {B B2 : Nat} {v : Value} {L V : List (List UInt8)} (ho : OwnE elK w B v L) (hB : B ≤ w.heap.size) {i j : Nat} (hij : i < j) (hj : j ≤ L.length) (hl : L.length ≤ 100000) {q : Option Addr} {cq : Nat} (hV : OwnE elK w B2 (.slice q V.length cq) V) (hne : ∀ x, (Value.slice q V.length cq).ownBlock = some x → v.ownBlock ≠ some x) (hm : V.length ≤ 100000) :
    Calls Tryz.prog 69 #[v, .int .i64 i, .int .i64 j, .slice q V.length cq] w fun e w' => ∃ v', e = .returned v' ∧ OwnE elK w' B v' (L.take i ++ V ++ L.drop j) ∧ Turned (fun x => v.ownBlock = some x) w w' ∧ (∀ x, v'.ownBlock = some x → v.ownBlock = some x ∨ w.heap.size ≤ x) := by
  obtain ⟨p, c0, e0, hEV, -⟩ := hV.form
  cases e0
  obtain ⟨g, c, cur, rfl, hBg, hb, hn, hcm, hc, ht⟩ := ho.blk rfl (by omega)
  have hc6 := cap63 hcm
  have hne' : ∀ x, (Value.slice q V.length cq).ownBlock = some x → g ≠ x := fun x hx e => hne x hx (by rw [e]; rfl)
  have hone : ∀ u ∈ cur.take L.length, u.oneCell' = true := fun u hu => elCells_one elK L u (by rwa [← ht])
  have hR : (L.take i ++ V ++ L.drop j).length = i + V.length + (L.length - j) := by simp only [List.length_append, List.length_take, List.length_drop]; omega
  have hcell := cellsK_put (V := V) (i := i) (j := j) ht (by omega)
  have hfin : ∀ {w' : World} {cur' : List Value}, BlkE elK w' g cur' → cur'.length = c → i + V.length + (L.length - j) ≤ c → cur'.take (i + V.length + (L.length - j)) = cur.take i ++ elCells elK V ++ (cur.take L.length).drop j → OwnE elK w' B (.slice (some ⟨g, 0, none⟩) (i + V.length + (L.length - j)) c) (L.take i ++ V ++ L.drop j) := fun hb' hc' ht' he => OwnE.of_blk rfl hR.symm hBg hb' hc' hcm (by omega) (by rw [hR, he, hcell])
  by_cases hjn : j = L.length
  · subst hjn
    have h0 : L.length - L.length = 0 := Nat.sub_self _
    have hd : L.drop L.length = [] := List.drop_length
    by_cases hs : i + V.length ≤ L.length
    · refine (replK_end (t := i + V.length) V hb hc hc6 hn hij hEV rfl hm hl hs rfl).mono ?_
      rintro e w' ⟨rfl, hT, cur', hb', hc', he⟩
      rw [h0, Nat.add_zero] at hfin
      exact ⟨_, rfl, hfin hb' hc' (by omega) (by rw [he]; simp), hT.wider (fun x _ e => by rw [e]; rfl), fun x hx => .inl hx⟩
    · have hp := ho.pre i (by omega) rfl
      refine (replK_more (B := B) (L.take i) V hp hB (by rw [List.length_take]; omega) hc6 hn hij hEV rfl hm hl (by omega)).mono ?_
      rintro e w' ⟨v', rfl, ho', hT, hx⟩
      exact ⟨v', rfl, by rw [hd, List.append_nil]; exact ho', hT.wider (fun x _ e => by rw [e]; rfl), fun x hh => (hx x hh).imp (fun e => by rw [e]; rfl) id⟩
  · by_cases hg : c < i + V.length + (L.length - j)
    · refine (replK_grow V hb hc hc6 hn hij (by omega) hEV rfl hm hl hone rfl hg).mono ?_
      rintro e w' ⟨c', rfl, hbl, cur', hb', hc', htc', hcm', he⟩
      refine ⟨_, rfl, OwnE.of_blk rfl hR.symm hB hb' hc' hcm' (by omega) (by rw [hR, he, hcell]), Turned.new hbl, fun x hx => .inr ?_⟩
      cases hx
      exact Nat.le_refl _
    · by_cases hf : i + V.length ≤ j
      · refine (replK_fit V hb hc hc6 hn hij (by omega) hEV rfl hm hl hone hf rfl).mono ?_
        rintro e w' ⟨rfl, hT, cur', hb', hc', he⟩
        exact ⟨_, rfl, hfin hb' hc' (by omega) he, hT.wider (fun x _ e => by rw [e]; rfl), fun x hx => .inl hx⟩
      · obtain ⟨g2, cur2, hBs⟩ := besideK hV hne' (by omega)
        refine (replK_shift V hb hc hc6 hn hij (by omega) hEV rfl hm hl hone hBs (by omega) rfl (by omega)).mono ?_
        rintro e w' ⟨rfl, hT, cur', hb', hc', he⟩
        exact ⟨_, rfl, hfin hb' hc' (by omega) he, hT.wider (fun x _ e => by rw [e]; rfl), fun x hx => .inl hx⟩
theorem insertK_any {w : World} {B B2 : Nat} {v : Value} {L V : List (List UInt8)} (ho : OwnE elK w B v L) (hB : B ≤ w.heap.size) {i : Nat} (hi : i ≤ L.length) (hl : L.length ≤ 100000) {q : Option Addr} {cq : Nat} (hV : OwnE elK w B2 (.slice q V.length cq) V) (hne : ∀ x, (Value.slice q V.length cq).ownBlock = some x → v.ownBlock ≠ some x) (hm : V.length ≤ 100000) :
    Calls Tryz.prog 97 #[v, .int .i64 i, .slice q V.length cq] w fun e w' => ∃ v', e = .returned v' ∧ OwnE elK w' B v' (L.take i ++ V ++ L.drop i) ∧ Turned (fun x => v.ownBlock = some x) w w' ∧ (∀ x, v'.ownBlock = some x → v.ownBlock = some x ∨ w.heap.size ≤ x) := by
  obtain ⟨p, c0, e0, hEV, -⟩ := hV.form
  cases e0
  by_cases hm0 : V.length = 0
  · have hVn := List.eq_nil_of_length_eq_zero hm0
    have hcase : (v = .slice none 0 0 ∧ L.length = 0) ∨ ∃ g c, v = .slice (some ⟨g, 0, none⟩) L.length c ∧ L.length ≤ c ∧ c ≤ 9223372036854775807 := by
      obtain ⟨-, h2⟩ := ho
      rcases h2 with ⟨e, h0⟩ | ⟨g, cap, cur, e, hg, hh, hn, hc, hs, ht⟩
      · exact .inl ⟨e, h0⟩
      · exact .inr ⟨g, cap, e, hn, cap63 hc⟩
    have hL : L.take i ++ V ++ L.drop i = L := by rw [hVn, List.append_nil, List.take_append_drop]
    rw [hm0, hL]
    rcases hcase with ⟨rfl, h0⟩ | ⟨g, c, rfl, hn, hc6⟩
    · refine (insK_none (w := w) (p := none) (n := 0) (c := 0) (i := i) (fun _ => ⟨rfl, rfl⟩) (Nat.le_refl _) (by decide) (by omega) (fun a h => by cases h) q cq).mono ?_
      rintro e w' ⟨rfl, rfl⟩
      exact ⟨_, rfl, ho, Turned.refl _ _, fun x hx => .inl hx⟩
    · refine (insK_none (w := w) (p := some ⟨g, 0, none⟩) (n := L.length) (c := c) (i := i) (fun h => by cases h) hn hc6 hi (fun a h => by cases h; exact ⟨rfl, rfl⟩) q cq).mono ?_
      rintro e w' ⟨rfl, rfl⟩
      exact ⟨_, rfl, ho, Turned.refl _ _, fun x hx => .inl hx⟩
  · by_cases hin : i = L.length
    · subst hin
      rw [List.take_length, List.drop_length, List.append_nil]
      refine (insK_end L V ho hB hEV rfl (by omega) hm hl (fun p n c e => ?_)).mono (fun e w' h => h)
      obtain ⟨-, h2⟩ := ho
      rcases h2 with ⟨e2, h0⟩ | ⟨g, cap, cur, e2, hg, hh, hn, hc, hs, ht⟩
      · rw [e2] at e; cases e; decide
      · rw [e2] at e; cases e; exact cap63 hc
    · obtain ⟨g, c, cur, rfl, hBg, hb, hn, hcm, hc, ht⟩ := ho.blk rfl (by omega)
      have hc6 := cap63 hcm
      have hne' : ∀ x, (Value.slice q V.length cq).ownBlock = some x → g ≠ x := fun x hx e => hne x hx (by rw [e]; rfl)
      have hone : ∀ u ∈ cur.take L.length, u.oneCell' = true := fun u hu => elCells_one elK L u (by rwa [← ht])
      have hR : (L.take i ++ V ++ L.drop i).length = L.length + V.length := by simp only [List.length_append, List.length_take, List.length_drop]; omega
      have hcell := cellsK_put (V := V) (i := i) (j := i) ht (by omega)
      by_cases hg : c < L.length + V.length
      · refine (insK_grow V hb hc hc6 hn (by omega) hEV rfl (by omega) hm hl hone rfl hg).mono ?_
        rintro e w' ⟨c', rfl, hbl, cur', hb', hc', htc', hcm', he⟩
        refine ⟨_, rfl, OwnE.of_blk rfl hR.symm hB hb' hc' hcm' (by omega) (by rw [hR, he, hcell]), Turned.new hbl, fun x hx => .inr ?_⟩
        cases hx
        exact Nat.le_refl _
      · obtain ⟨g2, cur2, hBs⟩ := besideK hV hne' (by omega)
        refine (insK_shift V hb hc hc6 hn (by omega) hEV rfl (by omega) hm hl hone hBs rfl (by omega)).mono ?_
        rintro e w' ⟨rfl, hT, cur', hb', hc', he⟩
        exact ⟨_, rfl, OwnE.of_blk rfl hR.symm hBg hb' hc' hcm (by omega) (by rw [hR, he, hcell]), hT.wider (fun x _ e => by rw [e]; rfl), fun x hx => .inl hx⟩
set_option maxRecDepth 20000 in
set_option maxHeartbeats 2000000 in
theorem replK_same {w : World} {p : Option Addr} {n c i m : Nat} {q : Option Addr} {cq : Nat} {R : Value → World → Prop} (hp : p = none → n = 0 ∧ c = 0) (hn : n ≤ c) (hc6 : c ≤ 9223372036854775807) (hi : i ≤ n) (hs : ∀ a, p = some a → a.off = 0 ∧ a.spot = none)
    (HI : Calls Tryz.prog 97 #[.slice p n c, .int .i64 i, .slice q m cq] w fun e w' => ∃ v', e = .returned v' ∧ R v' w') :
    Calls Tryz.prog 69 #[.slice p n c, .int .i64 i, .int .i64 i, .slice q m cq] w fun e w' => ∃ v', e = .returned v' ∧ R v' w' := by
  have H : Veil _ := ⟨HI⟩
  clear HI
  cases p with
  | none =>
    obtain ⟨rfl, rfl⟩ := hp rfl
    obtain rfl : i = 0 := by omega
    clear hp hn hi hs
    go_enter Tryz.func69, Tryz.ntmps69
    go_wp2_with (go_at_call 97; refine H.out.mono ?_; rintro e w2 ⟨v2, rfl, hr2⟩)
    go_ret
    exact ⟨v2, rfl, hr2⟩
  | some a =>
    obtain ⟨g, o, sp⟩ := a
    obtain ⟨h1, h2⟩ := hs _ rfl
    dsimp only at h1 h2
    subst h1 h2
    have hic : i ≤ c := by omega
    clear hp hs
    go_enter Tryz.func69, Tryz.ntmps69
    go_wp2_with (go_at_call 97; refine H.out.mono ?_; rintro e w2 ⟨v2, rfl, hr2⟩)
    all_goals
      go_ret
      exact ⟨v2, rfl, hr2⟩
theorem replaceK_all {w : World} {B B2 : Nat} {v : Value} {L V : List (List UInt8)} (ho : OwnE elK w B v L) (hB : B ≤ w.heap.size) {i j : Nat} (hij : i ≤ j) (hj : j ≤ L.length) (hl : L.length ≤ 100000) {q : Option Addr} {cq : Nat} (hV : OwnE elK w B2 (.slice q V.length cq) V) (hne : ∀ x, (Value.slice q V.length cq).ownBlock = some x → v.ownBlock ≠ some x) (hm : V.length ≤ 100000) :
    Calls Tryz.prog 69 #[v, .int .i64 i, .int .i64 j, .slice q V.length cq] w fun e w' => ∃ v', e = .returned v' ∧ OwnE elK w' B v' (L.take i ++ V ++ L.drop j) ∧ Turned (fun x => v.ownBlock = some x) w w' ∧ (∀ x, v'.ownBlock = some x → v.ownBlock = some x ∨ w.heap.size ≤ x) := by
  by_cases h : i < j
  · exact replaceK_any ho hB h hj hl hV hne hm
  · obtain rfl : i = j := by omega
    have HI := insertK_any ho hB hj hl hV hne hm
    have hcase : (v = .slice none 0 0 ∧ L.length = 0) ∨ ∃ g c, v = .slice (some ⟨g, 0, none⟩) L.length c ∧ L.length ≤ c ∧ c ≤ 9223372036854775807 := by
      obtain ⟨-, h2⟩ := ho
      rcases h2 with ⟨e, h0⟩ | ⟨g, cap, cur, e, hg, hh, hn, hc, hs, ht⟩
      · exact .inl ⟨e, h0⟩
      · exact .inr ⟨g, cap, e, hn, cap63 hc⟩
    rcases hcase with ⟨rfl, h0⟩ | ⟨g, c, rfl, hn, hc6⟩
    · exact replK_same (p := none) (n := 0) (c := 0) (fun _ => ⟨rfl, rfl⟩) (Nat.le_refl _) (by decide) (by omega) (fun a h => by cases h) HI
    · exact replK_same (p := some ⟨g, 0, none⟩) (n := L.length) (c := c) (fun h => by cases h) hn hc6 hj (fun a h => by cases h; exact ⟨rfl, rfl⟩) HI
end Go.Proofs.YtokbmimbbeedcaaGreatDoor
