/- The walk of Crash, where it is one. -/
import Derived.Test.YtbmdodkgaehgnaaDA
namespace Go.Proofs.Ytbmdodkgaehgnaa
open Go.RowKit
attribute [local go_sem] Oper.semAt_some

/-- Between two rounds of either loop. -/
structure CrashI (w : World) (d kb sb : Nat) (v : Value) (D : Dk) (Bp Bk Bx : Nat) (s : Value) (kept seen : List (List UInt8)) (A : World) : Prop where
  disk : DiskAt A d kb sb v { D with kept := kept, seen := seen }
  bp : A.heap[Bp]? = some (.cells #[.pointer (some ⟨d, 0, none⟩)] 38 (0, 0))
  bk : A.heap[Bk]? = some (.cells #[s] 48 (0, 0))
  bx : A.heap[Bx]? = some (.cells #[.pointer (some ⟨d, 0, none⟩)] 38 (0, 0))
  turned : Turned (Foot d kb sb v) w A
theorem CrashI.booked {w : World} {d kb sb : Nat} {v : Value} {D : Dk} {Bp Bk Bx : Nat} {s : Value} {kept seen : List (List UInt8)} {A A' : World} {B : Nat} (h : CrashI w d kb sb v D Bp Bk Bx s kept seen A) (hb : Booked B A A') (hB : w.heap.size ≤ B) : CrashI w d kb sb v D Bp Bk Bx s kept seen A' :=
  ⟨h.disk.booked hb, hb.heap h.bp, hb.heap h.bk, hb.heap h.bx, hb.turned h.turned hB⟩
theorem CrashI.new {w : World} {d kb sb : Nat} {v : Value} {D : Dk} {Bp Bk Bx : Nat} {s : Value} {kept seen : List (List UInt8)} {A A' : World} (h : CrashI w d kb sb v D Bp Bk Bx s kept seen A) (hb : Turned (fun _ => False) A A') : CrashI w d kb sb v D Bp Bk Bx s kept seen A' :=
  ⟨h.disk.kept' hb (fun _ => False.elim), hb.heap h.bp (fun h => h), hb.heap h.bk (fun h => h), hb.heap h.bx (fun h => h), h.turned.trans (hb.wider fun _ _ h => h.elim)⟩

/-- The writes, each with how many of its bytes are kept. -/
def torn (D : Dk) (zs : List Int) : List ((Nat × List UInt8) × Nat) := D.uns.zip (zs.map Int.toNat)

set_option maxRecDepth 10000 in
set_option maxHeartbeats 1000000 in
theorem crash_any {w : World} {d kb sb : Nat} {v : Value} {D : Dk} (h : DiskAt w d kb sb v D) (p : Option Addr) (zs : List Int) (cap : Nat) (hm : zs.length ≤ D.uns.length) (hz : Ints w p zs) (hp : Apart w d kb sb v p) (ha : allIn 0 64 zs = true) :
    Calls Try.prog 48 #[.pointer (some ⟨d, 0, none⟩), .slice p zs.length cap] w (DiskPost w d kb sb v (D.crash zs) (.int .i64 0)) := by
  refine calls_of_wp_marks Try.func48 rfl ?_
  simp only [Try.ntmps48, List.size_toArray, List.length_cons, List.length_nil, Nat.reduceAdd, Nat.reduceSub, Array.replicate_succ, Array.replicate_zero, List.push_toArray, List.append_toArray, List.nil_append, List.cons_append]
  have hfew := h.ok.few
  have hdlt := h.dlt
  have hc2 := h.c2
  have HH := Lib.hid h
  obtain ⟨q, qc, rfl⟩ : ∃ q qc, v = .slice q D.uns.length qc := by
    rcases h.uns.2 with ⟨h1, h2⟩ | ⟨g, cap, cur, h, _⟩
    · exact ⟨none, 0, by rw [h1, h2]⟩
    · exact ⟨_, _, h⟩
  have HA := Lib.hid ha
  clear h ha
  go_wp2
  go_step3
  go_wp2
  have e1 : ((w.alloc (.cells #[.pointer (some ⟨d, 0, none⟩)] 38)).alloc (.cells #[.slice p zs.length cap] 48)).drew.cell? ⟨w.heap.size, 0, none⟩ = some (.pointer (some ⟨d, 0, none⟩)) := by simp [go_sem]
  have e2 : ((w.alloc (.cells #[.pointer (some ⟨d, 0, none⟩)] 38)).alloc (.cells #[.slice p zs.length cap] 48)).drew.cell? ⟨w.heap.size + 1, 0, none⟩ = some (.slice p zs.length cap) := by simp [go_sem]
  have hb2 : Below w.heap.size w ((w.alloc (.cells #[.pointer (some ⟨d, 0, none⟩)] 38)).alloc (.cells #[.slice p zs.length cap] 48)).drew := (below_al (below_al (Below.refl _ _) _) _).drew
  have e3 := (hb2.cell (p := ⟨d, 2, none⟩) hdlt).trans hc2
  have hz2 := hz.kept (fun b off he => hb2.block b (hp b off he).1)
  obtain ⟨W, hW⟩ : ∃ W, ((w.alloc (.cells #[.pointer (some ⟨d, 0, none⟩)] 38)).alloc (.cells #[.slice p zs.length cap] 48)).drew = W := ⟨_, rfl⟩
  refine region_tail 8 (by kernel_rfl) (by kernel_rfl) W hW ?_
  rw [hW] at e1 e2 e3 hb2 hz2
  have HZ := Lib.hid hz2
  have HW := Lib.hid hW
  clear hW hc2 hz2
  simp only [List.take_succ_cons, List.take_zero, List.drop_succ_cons, List.drop_zero]
  iterate 8 still_step
  refine wpStill_nil ?_
  go_wp2
  refine only_normal ?_
  go_wp2_with (go_at_call 40; refine (within_any 0 64 p zs cap W HZ.out (by omega)).mono ?_; rintro e w3 ⟨rfl, rfl⟩; rw [HA.out])
  have hd2 : DiskAt W d kb sb (.slice q D.uns.length qc) D := HH.out.kept' (Turned.new hb2) (fun _ => False.elim)
  have hs2 : w.heap.size + 2 ≤ W.heap.size := by rw [← HW.out]; simp
  have hp2 : W.heap[w.heap.size]? = some (.cells #[.pointer (some ⟨d, 0, none⟩)] 38 (0, 0)) := by rw [← HW.out]; exact heap_alloc2_old _ _ _
  have hk2 : W.heap[w.heap.size + 1]? = some (.cells #[.slice p zs.length cap] 48 (0, 0)) := by rw [← HW.out]; exact heap_alloc2_new _ _ _
  have hfoot : ∀ k, Foot d kb sb (.slice q D.uns.length qc) k → k < w.heap.size := fun k hk => HH.out.flt hk
  have hT2 : Turned (Foot d kb sb (.slice q D.uns.length qc)) w W := Turned.new hb2
  have H2 := Lib.hid hd2
  have HZ2 := Lib.hid hz
  have HP2 := Lib.hid hp2
  have HK2 := Lib.hid hk2
  have HT2 := Lib.hid hT2
  have HF := Lib.hid hfoot
  have HAp := Lib.hid hp
  clear hd2 hp2 hk2 hT2 hfoot hp hz HW HZ hb2
  go_step3
  go_wp2_with (go_at_call 53; refine (writes_any d _).mono ?_; rintro e w4 ⟨rfl, hw4⟩)
  have hbel : Below W.heap.size W w4 := by rw [← hw4]; exact below_al (Below.refl _ _) _
  have hx4 : w4.heap[W.heap.size]? = some (.cells #[.pointer (some ⟨d, 0, none⟩)] 38 (0, 0)) := by rw [← hw4]; exact heap_alloc_new _ _
  have hs4 : W.heap.size < w4.heap.size := lt_of_heap hx4
  have hBw : w.heap.size ≤ W.heap.size := by omega
  have hI0 : CrashI w d kb sb (.slice q D.uns.length qc) D w.heap.size (w.heap.size + 1) W.heap.size (.slice p zs.length cap) D.kept D.seen w4 :=
    ⟨H2.out.kept' (F := fun _ => False) (Turned.new hbel) (fun _ => False.elim), by rw [hbel.block _ (lt_of_heap HP2.out)]; exact HP2.out, by rw [hbel.block _ (lt_of_heap HK2.out)]; exact HK2.out, hx4, HT2.out.trans (Turned.new hbel)⟩
  generalize W.heap.size = Bx at *
  clear hw4 hbel hx4 H2 HP2 HK2 HT2 e1 e2 e3
  have hlt : (torn D zs).length = zs.length := by simp [torn]; omega
  have HL := Lib.hid hlt
  clear hlt
  refine wp_range_break (gf := 69) (lb := #[.pointer (some ⟨Bx, 0, none⟩)]) rfl (enters_of Try.func69 (by kernel_rfl) rfl)
    (writes_seq Bx d (.slice q D.uns.length qc) D.uns (fun x hx => (HH.out.ok.u64 x hx).2) HH.out.ok.few) (fun k => rfl)
    (fun k A => k ≤ zs.length ∧ CrashI w d kb sb (.slice q D.uns.length qc) D w.heap.size (w.heap.size + 1) Bx (.slice p zs.length cap) (keepAll D.kept ((torn D zs).take k)) D.seen A)
    (CrashI w d kb sb (.slice q D.uns.length qc) D w.heap.size (w.heap.size + 1) Bx (.slice p zs.length cap) (keepAll D.kept (torn D zs)) D.seen) ?hI ?hIx ?hF ?h0 ?hN ?hround ?hend
  case hI => rintro k A A' ⟨h1, h2⟩ hb; exact ⟨h1, h2.booked hb (by omega)⟩
  case hIx => intro A A' h2 hb; exact h2.booked hb (by omega)
  case hF => rintro k A ⟨_, h⟩; exact ⟨by simp [World.cell?, h.bx], h.disk.c2, h.disk.uns⟩
  case h0 => exact ⟨Nat.zero_le _, hI0⟩
  case hround =>
    rintro l n k A hl hlt ⟨hkz, hi⟩
    obtain ⟨x, hx⟩ : ∃ x, D.uns[k]? = some x := ⟨_, List.getElem?_eq_getElem hlt⟩
    have hx64 := HH.out.ok.u64 x (List.mem_of_getElem? hx)
    have hgd : D.uns.getD k (0, zero64) = x := by simp [List.getD, hx]
    simp only [hands, hgd, List.zip_cons_cons, List.zip_nil_right, List.foldl_cons, List.foldl_nil, List.setIfInBounds_toArray, List.set_cons_succ, List.set_cons_zero]
    have hl65 : (wcells x).length = 65 := by rw [wcells, List.length_cons, length_u8s, hx64.2]
    have hi65 : (Try.prog.info? 99).map (·.size) = some (wcells x).length := by rw [hl65]; exact siz71
    have hf65 : 0 + (wcells x).length ≤ (Value.int .i64 0 :: u8s zero64).length := by rw [hl65]; simp [length_u8s, zero64]
    have hsp : splice (Value.int .i64 0 :: u8s zero64) 0 (wcells x) = wcells x := splice_all _ _ (by rw [hl65]; simp [length_u8s, zero64])
    have HI := Lib.hid hi65
    have HF6 := Lib.hid hf65
    have HSP := Lib.hid hsp
    have HX := Lib.hid hx
    have H64 := Lib.hid hx64
    have H1 := Lib.hid hi
    have HI0 := Lib.hid hI0
    clear hgd hl65 hi65 hf65 hsp hx hx64 hi hI0
    gi_wp2_with (first | (refine listIn_op rfl (fun K hK => ?_); refine wpList_alloc_at rfl 99 rfl _ (zero71 A) ?_; intro w2 hw2 hT2; refine wpList_nil (one_normal (hK _ _ ?_)); clear hK K) | (refine listIn_op rfl (fun K hK => ?_); refine wpList_store_at rfl 99 (.tmp 6) (.tmp 27) rfl A.heap.size 0 (wcells x) rfl rfl (.int .i64 0 :: u8s zero64) 99 hw2.out HF6.out HI.out (oneCell_wcells x) ?_; intro w3 hw3 hT3; refine wpList_nil (one_normal (hK _ _ ?_)); clear hK K))
    have hA3 : Turned (fun _ => False) A w3 := hT2.then hT3 (fun j hj e => by omega)
    refine ⟨keepsFrom_new hA3, fun A2 hbk hsz => ?_⟩
    clear hsz
    have hb4 : A2.heap[A.heap.size]? = some (.cells (wcells x).toArray 99 (0, 0)) := by
      have := hbk.heap hw3.out
      rwa [HSP.out] at this
    have hi2 := (H1.out.new hA3).booked hbk (by omega)
    generalize A.heap.size = B4 at *
    clear hw2 hw3 hT2 hT3 hA3 hbk H1 HF6 HSP
    have e5 : A2.cell? ⟨w.heap.size + 1, 0, none⟩ = some (.slice p zs.length cap) := by simp [World.cell?, hi2.bk]
    have H2 := Lib.hid hi2
    clear hi2
    by_cases hkl : k = zs.length
    · subst hkl
      gi_wp2
      refine ⟨KeepsFrom.refl _ _, rfl, ?_⟩
      have := H2.out
      rwa [List.take_of_length_le (by rw [HL.out]; exact Nat.le_refl _)] at this
    · have hkz2 : k < zs.length := by omega
      clear hkl
      gi_wp2_with fail
      obtain ⟨pb, po, rfl, hpc⟩ := HZ2.out (by intro h; rw [h] at hkz2; simp at hkz2)
      obtain ⟨hplt, hpf⟩ := HAp.out pb po rfl
      have hzk := List.all_eq_true.1 HA.out (zs[k]) (List.getElem_mem hkz2)
      simp only [Bool.and_eq_true, decide_eq_true_eq] at hzk
      obtain ⟨m, hm1⟩ : ∃ m : Nat, zs[k] = (m : Int) := ⟨zs[k].toNat, by omega⟩
      have hm64 : m ≤ 64 := by omega
      have e7 : A2.drew.cell? ⟨pb, po + k, none⟩ = some (.int .i64 m) := by
        have := hpc k hkz2
        rw [show zs.getD k 0 = (m : Int) by simp [List.getD, hkz2, hm1]] at this
        exact H2.out.turned.cell this hpf
      have e1 : A2.drew.cell? ⟨w.heap.size, 0, none⟩ = some (.pointer (some ⟨d, 0, none⟩)) := by rw [World.cell?_drew]; simp [World.cell?, H2.out.bp]
      have e6 : A2.drew.cell? ⟨w.heap.size + 1, 0, none⟩ = some (.slice (some ⟨pb, po, none⟩) zs.length cap) := e5
      have hD3 : DiskAt A2.drew d kb sb _ _ := H2.out.disk.kept' ((Turned.refl (fun _ => False) A2).drew) (fun _ => False.elim)
      have hb3 : A2.drew.heap[B4]? = some (.cells (wcells x).toArray 99 (0, 0)) := hb4
      obtain ⟨fs, hfs⟩ := und71
      have HU := Lib.hid hfs
      have HM := Lib.hid hm1
      clear hfs hm1 hzk hpc
      obtain ⟨w5, hw5⟩ : ∃ w5, A2.drew = w5 := ⟨_, rfl⟩
      have hT25 : Turned (fun _ => False) A2 w5 := by rw [← hw5]; exact (Turned.refl _ A2).drew
      refine region_tail_in 8 (by kernel_rfl) (by kernel_rfl) (by rfl) w5 hw5 ?_
      rw [hw5] at hD3 e1 e6 e7 hb3
      clear hw5 e5
      simp only [List.take_succ_cons, List.take_zero, List.drop_succ_cons, List.drop_zero]
      iterate 3 still_step
      refine wpStill_load_mid rfl 99 (.tmp 6) rfl B4 0 rfl (wcells x) _ ?e1 HU.out rfl HI.out ?_
      case e1 => have := rangeAt_whole hb3 0 (wcells x).length; rwa [List.drop_zero, List.take_length] at this
      iterate 4 still_step
      refine wpStill_nil ?_
      have hko : (keepAll D.kept ((torn D zs).take k))[x.1]? = some ((keepAll D.kept ((torn D zs).take k)).getD x.1 []) := by
        have : x.1 < (keepAll D.kept ((torn D zs).take k)).length := by rw [length_keepAll]; exact H64.out.1
        simp [List.getD, this]
      have HK := Lib.hid hko
      clear hko
      go_wp2_with (go_at_call 67; refine (keep_any hD3 x.1 x.2 _ m HK.out H64.out.2 hm64).mono ?_; rintro e w6 ⟨rfl, hD6, hT6⟩)
      refine only_normal ?_
      show KeepsFrom w4.heap.size A2 w6 ∧ k + 1 ≤ zs.length ∧ CrashI w d kb sb _ D w.heap.size (w.heap.size + 1) Bx (.slice (some ⟨pb, po, none⟩) zs.length cap) (keepAll D.kept ((torn D zs).take (k + 1))) D.seen w6
      have htk : (torn D zs).take (k + 1) = (torn D zs).take k ++ [(x, m)] := by
        rw [List.take_add_one]
        have : (torn D zs)[k]? = some (x, m) := by
          simp only [torn, List.getElem?_zip_eq_some, HX.out, List.getElem?_map, List.getElem?_eq_getElem hkz2, HM.out]
          simp
        rw [this]; rfl
      refine ⟨?_, hkz2, ?_⟩
      · refine keepsFrom_turned ((hT25.wider (F := (· = kb)) fun _ _ h => h.elim).trans hT6) fun j hj => .inl ?_
        have := HF.out j (.inr (.inl hj))
        omega
      · have hkl : kb < w.heap.size := HF.out kb (.inr (.inl rfl))
        rw [htk, keepAll_snoc]
        refine ⟨hD6, hT6.heap (hT25.heap H2.out.bp (fun h => h)) (fun e => by omega), hT6.heap (hT25.heap H2.out.bk (fun h => h)) (fun e => by omega), hT6.heap (hT25.heap H2.out.bx (fun h => h)) (fun e => by omega), ?_⟩
        exact (H2.out.turned.trans (hT25.wider fun _ _ h => h.elim)).trans (hT6.wider fun _ _ h => .inr (.inl h))
  case hN =>
    rintro A ⟨hle, hi0⟩
    rwa [List.take_of_length_le (by rw [HL.out]; exact hm)] at hi0
  case hend =>
    rintro D1 A hD1 hi hdd
    have hDA : D1 < A.heap.size := lt_of_heap hdd
    have e1 : A.cell? ⟨w.heap.size, 0, none⟩ = some (.pointer (some ⟨d, 0, none⟩)) := by simp [World.cell?, hi.bp]
    have HI := Lib.hid hi
    have HD := Lib.hid hdd
    clear hi hdd hI0
    go_wp2_with (go_at_call 53; refine (writes_any d _).mono ?_; rintro e w7 ⟨rfl, hw7⟩)
    have hbel : Below A.heap.size A w7 := by rw [← hw7]; exact below_al (Below.refl _ _) _
    have hx7 : w7.heap[A.heap.size]? = some (.cells #[.pointer (some ⟨d, 0, none⟩)] 38 (0, 0)) := by rw [← hw7]; exact heap_alloc_new _ _
    have hs7 : A.heap.size < w7.heap.size := lt_of_heap hx7
    have hd7 : w7.heap[D1]? = some (.deferred (some [])) := by rw [hbel.block _ hDA]; exact HD.out
    have hi7 : CrashI w d kb sb (.slice q D.uns.length qc) D w.heap.size (w.heap.size + 1) A.heap.size (.slice p zs.length cap) (keepAll D.kept (torn D zs)) D.seen w7 :=
      ⟨HI.out.disk.kept' (F := fun _ => False) (Turned.new hbel) (fun _ => False.elim), by rw [hbel.block _ (lt_of_heap HI.out.bp)]; exact HI.out.bp, by rw [hbel.block _ (lt_of_heap HI.out.bk)]; exact HI.out.bk, hx7, HI.out.turned.trans (Turned.new hbel)⟩
    have hAw : w.heap.size ≤ A.heap.size := by omega
    generalize A.heap.size = By at *
    clear hw7 hbel hx7 HI e1
    refine wp_range_seq (gf := 69) (lb := #[.pointer (some ⟨By, 0, none⟩)]) rfl (enters_of Try.func69 (by kernel_rfl) rfl)
      (writes_seq By d (.slice q D.uns.length qc) D.uns (fun x hx => (HH.out.ok.u64 x hx).2) HH.out.ok.few) (fun k => rfl)
      (fun k A => A.heap[D1]? = some (.deferred (some [])) ∧ CrashI w d kb sb (.slice q D.uns.length qc) D w.heap.size (w.heap.size + 1) By (.slice p zs.length cap) (keepAll D.kept (torn D zs)) (fallAll (keepAll D.kept (torn D zs)) D.seen (D.uns.take k)) A)
      (fun _ _ _ => False) ?hI2 (fun _ _ _ _ h _ => h) ?hF2 ?h02 ?hround2 ?hdone2 (fun _ _ _ _ _ _ h => h.elim)
    case hI2 => rintro k A A' ⟨h1, h2⟩ hb; exact ⟨hb.old h1 (by omega), h2.booked hb (by omega)⟩
    case hF2 => rintro k A ⟨_, h⟩; exact ⟨by simp [World.cell?, h.bx], h.disk.c2, h.disk.uns⟩
    case h02 => exact ⟨hd7, hi7⟩
    case hround2 =>
      rintro l n k A hl hlt ⟨hda, hi⟩
      obtain ⟨x, hx⟩ : ∃ x, D.uns[k]? = some x := ⟨_, List.getElem?_eq_getElem hlt⟩
      have hx64 := HH.out.ok.u64 x (List.mem_of_getElem? hx)
      have hgd : D.uns.getD k (0, zero64) = x := by simp [List.getD, hx]
      simp only [hands, hgd, List.zip_cons_cons, List.zip_nil_right, List.foldl_cons, List.foldl_nil, List.setIfInBounds_toArray, List.set_cons_succ, List.set_cons_zero]
      have hl65 : (wcells x).length = 65 := by rw [wcells, List.length_cons, length_u8s, hx64.2]
      have hi65 : (Try.prog.info? 99).map (·.size) = some (wcells x).length := by rw [hl65]; exact siz71
      have hf65 : 0 + (wcells x).length ≤ (Value.int .i64 0 :: u8s zero64).length := by rw [hl65]; simp [length_u8s, zero64]
      have hsp : splice (Value.int .i64 0 :: u8s zero64) 0 (wcells x) = wcells x := splice_all _ _ (by rw [hl65]; simp [length_u8s, zero64])
      have HI := Lib.hid hi65
      have HF6 := Lib.hid hf65
      have HSP := Lib.hid hsp
      have HX := Lib.hid hx
      have H64 := Lib.hid hx64
      have H1 := Lib.hid hi
      have HDA := Lib.hid hda
      have HI7 := Lib.hid hi7
      have HD7 := Lib.hid hd7
      clear hgd hl65 hi65 hf65 hsp hx hx64 hi hi7 hda hd7
      gi_wp2_with (first | (refine listIn_op rfl (fun K hK => ?_); refine wpList_alloc_at rfl 99 rfl _ (zero71 A) ?_; intro w2 hw2 hT2; refine wpList_nil (one_normal (hK _ _ ?_)); clear hK K) | (refine listIn_op rfl (fun K hK => ?_); refine wpList_store_at rfl 99 (.tmp 8) (.tmp 44) rfl A.heap.size 0 (wcells x) rfl rfl (.int .i64 0 :: u8s zero64) 99 hw2.out HF6.out HI.out (oneCell_wcells x) ?_; intro w3 hw3 hT3; refine wpList_nil (one_normal (hK _ _ ?_)); clear hK K))
      have hA3 : Turned (fun _ => False) A w3 := hT2.then hT3 (fun j hj e => by omega)
      refine ⟨keepsFrom_new hA3, fun A2 hbk hsz => ?_⟩
      clear hsz
      have hb4 : A2.heap[A.heap.size]? = some (.cells (wcells x).toArray 99 (0, 0)) := by
        have := hbk.heap hw3.out
        rwa [HSP.out] at this
      have hi2 := (H1.out.new hA3).booked hbk (by omega)
      have hda2 : A2.heap[D1]? = some (.deferred (some [])) := hbk.old (hA3.heap HDA.out (fun h => h)) (by omega)
      generalize A.heap.size = B4 at *
      have H2 := Lib.hid hi2
      have HDA2 := Lib.hid hda2
      clear hw2 hw3 hT2 hT3 hA3 hbk H1 HF6 HSP hi2 HDA hda2
      gi_wp2_with fail
      have e1 : A2.drew.cell? ⟨w.heap.size, 0, none⟩ = some (.pointer (some ⟨d, 0, none⟩)) := by rw [World.cell?_drew]; simp [World.cell?, H2.out.bp]
      have e2 : A2.drew.cell? ⟨B4, 0, none⟩ = some (.int .i64 x.1) := by rw [World.cell?_drew, cell_whole hb4]; rfl
      have hD3 : DiskAt A2.drew d kb sb _ _ := H2.out.disk.kept' ((Turned.refl (fun _ => False) A2).drew) (fun _ => False.elim)
      obtain ⟨w5, hw5⟩ : ∃ w5, A2.drew = w5 := ⟨_, rfl⟩
      have hT25 : Turned (fun _ => False) A2 w5 := by rw [← hw5]; exact (Turned.refl _ A2).drew
      refine region_tail_in 5 (by kernel_rfl) (by kernel_rfl) (by rfl) w5 hw5 ?_
      rw [hw5] at hD3 e1 e2
      clear hw5 hb4
      simp only [List.take_succ_cons, List.take_zero, List.drop_succ_cons, List.drop_zero]
      iterate 5 still_step
      refine wpStill_nil ?_
      have hko : (keepAll D.kept (torn D zs))[x.1]? = some ((keepAll D.kept (torn D zs)).getD x.1 []) := by
        have : x.1 < (keepAll D.kept (torn D zs)).length := by rw [length_keepAll]; exact H64.out.1
        simp [List.getD, this]
      have HK := Lib.hid hko
      clear hko
      go_wp2_with (go_at_call 68; refine (fall_any hD3 x.1 _ HK.out).mono ?_; rintro e w6 ⟨rfl, hD6, hT6⟩)
      refine only_normal ?_
      have hsl : sb < w.heap.size := HF.out sb (.inr (.inr (.inl rfl)))
      show KeepsFrom w7.heap.size A2 w6 ∧ w6.heap[D1]? = some (.deferred (some [])) ∧ CrashI w d kb sb _ D w.heap.size (w.heap.size + 1) By (.slice p zs.length cap) (keepAll D.kept (torn D zs)) (fallAll (keepAll D.kept (torn D zs)) D.seen (D.uns.take (k + 1))) w6
      refine ⟨?_, hT6.heap (hT25.heap HDA2.out (fun h => h)) (fun e => by omega), ?_⟩
      · refine keepsFrom_turned ((hT25.wider (F := (· = sb)) fun _ _ h => h.elim).trans hT6) fun j hj => .inl ?_
        omega
      · rw [List.take_add_one, HX.out, Option.toList_some, fallAll_snoc]
        refine ⟨hD6, hT6.heap (hT25.heap H2.out.bp (fun h => h)) (fun e => by omega), hT6.heap (hT25.heap H2.out.bk (fun h => h)) (fun e => by omega), hT6.heap (hT25.heap H2.out.bx (fun h => h)) (fun e => by omega), ?_⟩
        exact (H2.out.turned.trans (hT25.wider fun _ _ h => h.elim)).trans (hT6.wider fun _ _ h => .inr (.inr (.inl h)))
    case hdone2 =>
      rintro D2 A hD2 ⟨hda, hi⟩ hdd
      have hc0 : A.cell? ⟨w.heap.size, 0, none⟩ = some (.pointer (some ⟨d, 0, none⟩)) := by simp [World.cell?, hi.bp]
      have hc2 := hi.disk.c2
      have hf2 := hi.disk.fz 2
      have hdw : d < w.heap.size := HF.out d (.inl rfl)
      have h1 : CrashI w d kb sb (.slice q D.uns.length qc) D w.heap.size (w.heap.size + 1) By (.slice p zs.length cap) (keepAll D.kept (torn D zs)) (fallAll (keepAll D.kept (torn D zs)) D.seen (D.uns.take D.uns.length)) A := hi
      rw [List.take_length] at h1
      have H1 := Lib.hid h1
      have HDA := Lib.hid hda
      have HDD := Lib.hid hdd
      clear h1 hi hda hdd hi7 hd7
      go_wp2
      rw [Exit.noGoto_ret]
      have hk9 : Turned (· = d) A (A.setCell ⟨d, 2, none⟩ (.slice none 0 0)) := (Turned.refl (· = d) A).setCell (p := ⟨d, 2, none⟩) rfl _
      have hT9 : Turned (Foot d kb sb (.slice q D.uns.length qc)) w (A.setCell ⟨d, 2, none⟩ (.slice none 0 0)) := H1.out.turned.setCell (p := ⟨d, 2, none⟩) (.inl rfl) _
      have hh1 := hk9.heap HDA.out (fun e => by omega)
      have hh2 := hk9.heap HDD.out (fun e => by omega)
      have hbx := heap_setCell_at H1.out.disk.box 2 (.slice none 0 0)
      have hne : D2 ≠ D1 := by omega
      have hDf : DiskAt (A.setCell ⟨d, 2, none⟩ (.slice none 0 0)) d kb sb (.slice none 0 0) (D.crash zs) := by
        refine ⟨?_, ?_, ?_, ?_, World.ownsRow_nil _ _ _ _, H1.out.disk.dk, H1.out.disk.ds, H1.out.disk.ks, by simp [Value.ownBlock], by simp [Value.ownBlock], by simp [Value.ownBlock]⟩
        · exact { H1.out.disk.ok with u64 := fun x hx => by simp [Dk.crash] at hx, few := by simp [Dk.crash] }
        · rw [hbx]; simp [Dk.crash, crashKept, torn]
        · exact hk9.heap H1.out.disk.kept (fun e => H1.out.disk.dk e.symm)
        · exact hk9.heap H1.out.disk.seen (fun e => H1.out.disk.ds e.symm)
      refine leaves_mark (D := D2) (B := w.heap.size + 1) hh2 (by omega) fun w' hb hk => ?_
      refine leaves_mark (D := D1) (B := w.heap.size + 1) (by rw [hk D1 (fun e => hne e.symm)]; exact hh1) (by omega) fun w'' hb' _ => ?_
      refine leaves_none (results_tmp rfl _ _ _) ?_
      exact ⟨rfl, _, (hDf.booked hb).booked hb', hb'.turned (hb.turned hT9 (by omega)) (by omega), .inr (by simp [Value.ownBlock])⟩
end Go.Proofs.Ytbmdodkgaehgnaa
