/- The plain disk's Sync. -/
import Derived.StillTailTactics
import Derived.Test.YtapmppiiphbcpaaKE2
namespace Go.Proofs.Ytapmppiiphbcpaa
open Go Go.RowKit

/-- What is kept, k writes laid over it. -/
def overN (D : Dk) (k : Nat) : List (List UInt8) := keepAll D.kept (all64 (D.uns.take k))
theorem length_over (D : Dk) (k : Nat) : (overN D k).length = D.kept.length := length_keepAll _ _
theorem over_next {D : Dk} (h : D.Inv) {k : Nat} (hk : k < D.uns.length) : overN D (k + 1) = (overN D k).set D.uns[k].1 D.uns[k].2 := by
  have hu := h.u64 _ (List.getElem_mem hk)
  have ea : all64 (D.uns.take (k + 1)) = all64 (D.uns.take k) ++ [(D.uns[k], 64)] := by
    show (D.uns.take (k + 1)).map _ = (D.uns.take k).map _ ++ [(D.uns[k], 64)]
    rw [List.take_succ_eq_append_getElem hk, List.map_append]; rfl
  unfold overN
  rw [ea, keepAll_snoc]
  have h64 : ((keepAll D.kept (all64 (D.uns.take k))).getD D.uns[k].1 []).length = 64 := by
    have hmem : (keepAll D.kept (all64 (D.uns.take k))).getD D.uns[k].1 [] ∈ keepAll D.kept (all64 (D.uns.take k)) := by
      have : D.uns[k].1 < (keepAll D.kept (all64 (D.uns.take k))).length := by rw [length_keepAll]; exact hu.1
      simp [List.getD, this]
    exact keepAll_64 (all64 (D.uns.take k)) (fun y hy => by
      simp only [all64, List.mem_map] at hy
      obtain ⟨z, hz, rfl⟩ := hy
      exact ⟨(h.u64 z (List.mem_of_mem_take hz)).2, Nat.le_refl _⟩) D.kept (fun y hy => by
      simp only [all64, List.mem_map] at hy
      obtain ⟨z, hz, rfl⟩ := hy
      exact (h.u64 z (List.mem_of_mem_take hz)).1) h.k64 _ hmem
  rw [tear_all hu.2 h64]

theorem cell_drew {w W : World} {a : Addr} {v : Value} (h : w.drew = W) (hc : w.cell? a = some v) : W.cell? a = some v := by rw [← h, World.cell?_drew]; exact hc
theorem row_cell {w : World} {base e g n n' cap i : Nat} {xs : List Value} (h : w.ownsRow base e 1 (.slice (some ⟨g, 0, none⟩) n' cap) n xs) (hi : i < xs.length) : ∃ v, w.cell? ⟨g, i, none⟩ = some v ∧ w.frozen? ⟨g, i, none⟩ = false := by
  refine ⟨xs[i], ?_, ?_⟩
  · have hc := h.cells (g := g) rfl i xs[i] (List.getElem?_eq_getElem hi)
    rwa [Addr.add_mid, Nat.zero_add] at hc
  · rcases h.2 with ⟨h2, -⟩ | ⟨g', cap', cur, hv, hg, hh, _⟩
    · cases h2
    · simp only [Value.slice.injEq, Option.some.injEq, Addr.mk.injEq] at hv
      obtain ⟨⟨rfl, -, -⟩, -, -⟩ := hv
      exact frozen_whole hh i

/-- What a change of the plain disk leaves. -/
def RefPost (w : World) (r : Nat) (vs vw vb : Value) (D : Dk) (e : Ending) (ans : Value) (w' : World) : Prop :=
  e = .returned ans ∧ ∃ vw' vb', RefAt w' r vs vw' vb' D ∧ Turned (RFoot r vs vw vb) w w' ∧ (∀ k, vw'.ownBlock = some k → vw.ownBlock = some k ∨ w.heap.size ≤ k) ∧ ∀ k, vb'.ownBlock = some k → vb.ownBlock = some k ∨ w.heap.size ≤ k

set_option maxRecDepth 10000 in
set_option maxHeartbeats 2000000 in
theorem rsync_any {w : World} {r : Nat} {vs vw vb : Value} {D : Dk} (h : RefAt w r vs vw vb D) (hi : D.Inv) (h0 : 0 < D.kept.length) (hm : Veil (D.uns.length ≤ 1000000)) (hops : Veil (D.ops ≤ 1000000)) :
    Calls Try.prog 50 #[.pointer (some ⟨r, 0, none⟩)] w fun e w' => RefPost w r vs vw vb D.sync e (.tuple #[]) w' := by
  obtain ⟨ps, cs, rfl, hs⟩ := row_form h.s
  obtain ⟨gs, rfl, -⟩ := hs h0
  obtain ⟨pw, cw, rfl, hw⟩ := row_form h.u
  obtain ⟨pb, cb, rfl, hb⟩ := row_form h.b
  have c0 := h.c0
  have c1 := h.c1
  have c2 := h.c2
  have HI : Veil _ := ⟨hi⟩
  have HH : Veil (RefAt w r (.slice (some ⟨gs, 0, none⟩) D.kept.length cs) (.slice pw D.uns.length cw) (.slice pb D.uns.length cb) { D with kept := overN D 0 }) := ⟨h⟩
  clear hs hw hb hi
  go_enter Try.func50, Try.ntmps50
  go_wp2
  go_loopw [2] (fun i wr => ∃ k : Nat, k ≤ D.uns.length ∧ i = .int .i64 k ∧ Veil (RefAt wr r (.slice (some ⟨gs, 0, none⟩) D.kept.length cs) (.slice pw D.uns.length cw) (.slice pb D.uns.length cb) { D with kept := overN D k }) ∧ Veil (Turned (RFoot r (.slice (some ⟨gs, 0, none⟩) D.kept.length cs) (.slice pw D.uns.length cw) (.slice pb D.uns.length cb)) w wr)) (fun i _ => D.uns.length - (intOf i).toNat)
  case atStart => exact ⟨0, Nat.zero_le _, rfl, HH, ⟨Turned.refl _ _⟩⟩
  case round =>
    obtain ⟨k, hk, rfl, hR, hT⟩ := hrel
    have d1 := hR.out.c1
    by_cases hlt : k < D.uns.length
    · obtain ⟨pw', cw', ew, hw⟩ := row_form hR.out.u
      obtain ⟨pb', cb', eb, hb⟩ := row_form hR.out.b
      cases ew
      cases eb
      obtain ⟨gw, rfl, hw'⟩ := hw (by show 0 < D.uns.length; omega)
      obtain ⟨gb, rfl, hb'⟩ := hb (by show 0 < D.uns.length; omega)
      have d0 := hR.out.c0
      have d2 := hR.out.c2
      have cwj : wr.cell? ⟨gw, k, none⟩ = some (.int .i64 (D.uns[k].1 : Nat)) := hw' k _ (by simp [hlt, atv])
      have cbj : wr.cell? ⟨gb, k, none⟩ = some (sv D.uns[k].2) := hb' k _ (by simp [hlt])
      have hu := HI.out.u64 _ (List.getElem_mem hlt)
      have hov : Veil _ := ⟨over_next HI.out hlt⟩
      have hu1 : Veil _ := ⟨hu.1⟩
      have hu2 : D.uns[k].1 < D.kept.length := hu.1
      revert cwj cbj hov hu1 hu2
      generalize D.uns[k].2 = bs
      generalize D.uns[k].1 = m
      intro cwj cbj hov hu1 hu2
      unfold sv at cbj
      have hwk : wrap64 ((k : Int) + 1) = (k : Int) + 1 := by have := hm.out; unfold wrap64; omega
      obtain ⟨ck, hck, hcf⟩ := row_cell hR.out.s (show m < ((overN D k).map sv).length by rw [List.length_map, length_over]; exact hu2)
      clear hw hb hu hw' hb'
      go_wp2_with fail
      obtain ⟨W, hW⟩ : ∃ W, wr.drew = W := ⟨_, rfl⟩
      refine region_tail 18 (by kernel_rfl) (by kernel_rfl) W hW ?_
      simp only [List.take_succ_cons, List.take_zero, List.drop_succ_cons, List.drop_zero]
      have E0 := cell_drew hW d0
      have E1 := cell_drew hW d1
      have E2 := cell_drew hW d2
      have E3 := cell_drew hW cwj
      have E4 := cell_drew hW cbj
      have E5 := cell_drew hW hck
      have E6 : W.frozen? ⟨gs, m, none⟩ = false := by rw [← hW]; exact hcf
      have hRW : Veil (RefAt W r (.slice (some ⟨gs, 0, none⟩) D.kept.length cs) (.slice (some ⟨gw, 0, none⟩) D.uns.length cw) (.slice (some ⟨gb, 0, none⟩) D.uns.length cb) { D with kept := overN D k }) := ⟨by rw [← hW]; exact hR.out.kept' ((Turned.refl (fun _ => False) wr).drew) (fun _ => False.elim)⟩
      have hTW : Veil (Turned (RFoot r (.slice (some ⟨gs, 0, none⟩) D.kept.length cs) (.slice (some ⟨gw, 0, none⟩) D.uns.length cw) (.slice (some ⟨gb, 0, none⟩) D.uns.length cb)) w W) := ⟨by rw [← hW]; exact hT.out.drew⟩
      clear d0 d1 d2 cwj cbj hck hcf hR hT hW
      iterate 18 still_step
      refine wpStill_nil ?_
      go_wp2
      refine only_normal ?_
      go_wp2
      refine ⟨⟨k + 1, by omega, by rw [hwk]; go_num, ⟨by rw [hov.out]; exact hRW.out.setS m bs⟩, ⟨hTW.out.setCell (p := ⟨gs, m, none⟩) (.inr (.inl rfl)) _⟩⟩, ?_⟩
      rw [hwk]
      simp [intOf]
      omega
    · obtain rfl : k = D.uns.length := by omega
      have d3 := hR.out.c3
      have f1 := hR.out.fz 1
      have f2 := hR.out.fz 2
      have f3 := hR.out.fz 3
      have d2 := hR.out.c2
      have hwo : wrap64 ((D.ops : Int) + 1) = (D.ops : Int) + 1 := by have := hops.out; unfold wrap64; omega
      have hbx := heap_setCell_at (heap_setCell_at (heap_setCell_at hR.out.box 1 (.slice none 0 0)) 2 (.slice none 0 0)) 3 (.int .i64 ((D.ops : Int) + 1))
      have hTr : Turned (· = r) wr (((wr.setCell ⟨r, 1, none⟩ (.slice none 0 0)).setCell ⟨r, 2, none⟩ (.slice none 0 0)).setCell ⟨r, 3, none⟩ (.int .i64 ((D.ops : Int) + 1))) := (((Turned.refl (· = r) wr).setCell (p := ⟨r, 1, none⟩) rfl _).setCell (p := ⟨r, 2, none⟩) rfl _).setCell (p := ⟨r, 3, none⟩) rfl _
      have HC : Veil _ := ⟨hR.out.cleared (D.ops + 1) hTr hbx⟩
      have HT : Veil _ := ⟨hT.out.trans (hTr.wider fun k _ e => .inl e)⟩
      clear hbx hTr
      go_wp2
      go_end0
      refine ⟨rfl, .slice none 0 0, .slice none 0 0, ?_, HT.out, fun k hk => by simp [Value.ownBlock] at hk, fun k hk => by simp [Value.ownBlock] at hk⟩
      have := HC.out
      rwa [show overN D D.uns.length = D.sync.kept by unfold overN; rw [List.take_length]; rfl] at this
end Go.Proofs.Ytapmppiiphbcpaa

/- The plain disk's Write. -/
namespace Go.Proofs.Ytapmppiiphbcpaa
open Go Go.RowKit

set_option maxRecDepth 10000 in
set_option maxHeartbeats 1000000 in
theorem rwrite_sector {w : World} {r : Nat} {vs vw vb : Value} {D : Dk} (h : RefAt w r vs vw vb D) (i : Int) (s : ByteArray) (hx : i < 0 ∨ (0 ≤ i ∧ (D.kept.length : Int) ≤ i)) :
    Calls Try.prog 49 #[.pointer (some ⟨r, 0, none⟩), .int .i64 i, .string s] w fun e w' => e = .returned (.int .i64 10) ∧ w = w' := by
  obtain ⟨p, cap, rfl, -⟩ := row_form h.s
  have hc := h.c0
  clear h
  go_enter Try.func49, Try.ntmps49
  rcases hx with hx | ⟨h0, hx⟩
  · go_wp2
    go_ret
    exact ⟨rfl, rfl⟩
  · go_wp2
    go_ret
    exact ⟨rfl, rfl⟩

set_option maxRecDepth 10000 in
set_option maxHeartbeats 1000000 in
theorem rwrite_long {w : World} {r : Nat} {vs vw vb : Value} {D : Dk} (h : RefAt w r vs vw vb D) (i : Int) (s : List UInt8) (h0 : 0 ≤ i) (hx : i < (D.kept.length : Int)) (hs : 64 < s.length) :
    Calls Try.prog 49 #[.pointer (some ⟨r, 0, none⟩), .int .i64 i, .string ⟨s.toArray⟩] w fun e w' => e = .returned (.int .i64 2) ∧ w = w' := by
  obtain ⟨p, cap, rfl, -⟩ := row_form h.s
  have hc := h.c0
  have h1 : (64 : Int) < s.length := by omega
  clear h hs
  go_enter Try.func49, Try.ntmps49
  go_wp2
  go_ret
  exact ⟨rfl, rfl⟩

def iv (n : Nat) : Value := .int .i64 n
/-- The plain disk between two statements: its three lists each by itself. -/
structure RefG (w : World) (r : Nat) (vs vw vb : Value) (S : List (List UInt8)) (U : List Nat) (B : List (List UInt8)) (n : Nat) : Prop where
  box : w.heap[r]? = some (.cells #[vs, vw, vb, .int .i64 n] 39 (0, 0))
  s : w.ownsRow 0 9 1 vs S.length (S.map sv)
  u : w.ownsRow 0 3 1 vw U.length (U.map iv)
  b : w.ownsRow 0 9 1 vb B.length (B.map sv)
  rs : vs.ownBlock ≠ some r
  ru : vw.ownBlock ≠ some r
  rb : vb.ownBlock ≠ some r
  su : ∀ k, vs.ownBlock = some k → vw.ownBlock ≠ some k
  sb : ∀ k, vs.ownBlock = some k → vb.ownBlock ≠ some k
  ub : ∀ k, vw.ownBlock = some k → vb.ownBlock ≠ some k
theorem RefAt.parts {w : World} {r : Nat} {vs vw vb : Value} {D : Dk} (h : RefAt w r vs vw vb D) : RefG w r vs vw vb D.kept (D.uns.map (·.1)) (D.uns.map (·.2)) D.ops :=
  ⟨h.box, h.s, by rw [List.length_map, List.map_map]; exact h.u, by rw [List.length_map, List.map_map]; exact h.b, h.rs, h.ru, h.rb, h.su, h.sb, h.ub⟩
theorem RefG.whole {w : World} {r : Nat} {vs vw vb : Value} {D : Dk} (h : RefG w r vs vw vb D.kept (D.uns.map (·.1)) (D.uns.map (·.2)) D.ops) : RefAt w r vs vw vb D :=
  ⟨h.box, h.s, by have := h.u; rw [List.length_map, List.map_map] at this; exact this, by have := h.b; rw [List.length_map, List.map_map] at this; exact this, h.rs, h.ru, h.rb, h.su, h.sb, h.ub⟩
theorem RefG.kept' {w w' : World} {r : Nat} {vs vw vb : Value} {S : List (List UInt8)} {U : List Nat} {B : List (List UInt8)} {n : Nat} {F : Nat → Prop} (h : RefG w r vs vw vb S U B n) (ht : Turned F w w') (hF : ∀ k, F k → ¬ RFoot r vs vw vb k) : RefG w' r vs vw vb S U B n :=
  ⟨ht.heap h.box fun hf => hF _ hf (.inl rfl), ht.ownsRow h.s fun k hk hf => hF k hf (.inr (.inl hk)), ht.ownsRow h.u fun k hk hf => hF k hf (.inr (.inr (.inl hk))), ht.ownsRow h.b fun k hk hf => hF k hf (.inr (.inr (.inr hk))), h.rs, h.ru, h.rb, h.su, h.sb, h.ub⟩
/-- One number more. -/
theorem RefG.pushU {w w2 : World} {r g gc : Nat} {vs vw vb : Value} {S : List (List UInt8)} {U : List Nat} {B : List (List UInt8)} {n i : Nat} (h : RefG w r vs vw vb S U B n) (hT : Turned (fun k => vw.ownBlock = some k) w w2)
    (hown : w2.ownsRow 0 3 1 (.slice (some ⟨g, 0, none⟩) (U.length + 1) gc) (U.length + 1) (U.map iv ++ [iv i])) (hl : vw.ownBlock = some g ∨ w.heap.size ≤ g) :
    RefG (w2.setCell ⟨r, 1, none⟩ (.slice (some ⟨g, 0, none⟩) (U.length + 1) gc)) r vs (.slice (some ⟨g, 0, none⟩) (U.length + 1) gc) vb S (U ++ [i]) B n := by
  have hr : r < w.heap.size := lt_of_heap h.box
  have hS : Turned (· = r) w2 (w2.setCell ⟨r, 1, none⟩ (.slice (some ⟨g, 0, none⟩) (U.length + 1) gc)) := (Turned.refl (· = r) w2).setCell (p := ⟨r, 1, none⟩) rfl _
  have hgo : (Value.slice (some ⟨g, 0, none⟩) (U.length + 1) gc).ownBlock = some g := rfl
  have hgr : g ≠ r := by
    rcases hl with hl | hl
    · exact fun e => h.ru (by rw [hl, e])
    · omega
  have hgs : ∀ k, vs.ownBlock = some k → g ≠ k := fun k hk e => by
    rcases hl with hl | hl
    · exact h.su k hk (by rw [hl, e])
    · have := (h.s.lt k hk).2; omega
  have hgb : ∀ k, vb.ownBlock = some k → g ≠ k := fun k hk e => by
    rcases hl with hl | hl
    · exact h.ub g hl (by rw [hk, e])
    · have := (h.b.lt k hk).2; omega
  refine ⟨?_, hS.ownsRow (hT.ownsRow h.s fun k hk hf => h.su k hk hf) fun k hk e => h.rs (by rw [hk, e]), ?_, hS.ownsRow (hT.ownsRow h.b fun k hk hf => h.ub k hf hk) fun k hk e => h.rb (by rw [hk, e]), h.rs, fun e => hgr (by simpa [hgo] using e), h.rb, fun k hk e => hgs k hk (by simpa [hgo] using e), h.sb, fun k hk e => hgb k e (by simpa [hgo] using hk)⟩
  · exact heap_setCell_at (hT.heap h.box fun hf => h.ru hf) 1 _
  · have := hS.ownsRow hown fun k hk e => hgr (by rw [hgo] at hk; cases hk; exact e)
    simpa using this
/-- One text more. -/
theorem RefG.pushB {w w2 : World} {r g gc : Nat} {vs vw vb : Value} {S : List (List UInt8)} {U : List Nat} {B : List (List UInt8)} {n : Nat} {s : List UInt8} (h : RefG w r vs vw vb S U B n) (hT : Turned (fun k => vb.ownBlock = some k) w w2)
    (hown : w2.ownsRow 0 9 1 (.slice (some ⟨g, 0, none⟩) (B.length + 1) gc) (B.length + 1) (B.map sv ++ [sv s])) (hl : vb.ownBlock = some g ∨ w.heap.size ≤ g) :
    RefG (w2.setCell ⟨r, 2, none⟩ (.slice (some ⟨g, 0, none⟩) (B.length + 1) gc)) r vs vw (.slice (some ⟨g, 0, none⟩) (B.length + 1) gc) S U (B ++ [s]) n := by
  have hr : r < w.heap.size := lt_of_heap h.box
  have hS : Turned (· = r) w2 (w2.setCell ⟨r, 2, none⟩ (.slice (some ⟨g, 0, none⟩) (B.length + 1) gc)) := (Turned.refl (· = r) w2).setCell (p := ⟨r, 2, none⟩) rfl _
  have hgo : (Value.slice (some ⟨g, 0, none⟩) (B.length + 1) gc).ownBlock = some g := rfl
  have hgr : g ≠ r := by
    rcases hl with hl | hl
    · exact fun e => h.rb (by rw [hl, e])
    · omega
  have hgs : ∀ k, vs.ownBlock = some k → g ≠ k := fun k hk e => by
    rcases hl with hl | hl
    · exact h.sb k hk (by rw [hl, e])
    · have := (h.s.lt k hk).2; omega
  have hgu : ∀ k, vw.ownBlock = some k → g ≠ k := fun k hk e => by
    rcases hl with hl | hl
    · exact h.ub k hk (by rw [hl, e])
    · have := (h.u.lt k hk).2; omega
  refine ⟨?_, hS.ownsRow (hT.ownsRow h.s fun k hk hf => h.sb k hk hf) fun k hk e => h.rs (by rw [hk, e]), hS.ownsRow (hT.ownsRow h.u fun k hk hf => h.ub k hk hf) fun k hk e => h.ru (by rw [hk, e]), ?_, h.rs, h.ru, fun e => hgr (by simpa [hgo] using e), h.su, fun k hk e => hgs k hk (by simpa [hgo] using e), fun k hk e => hgu k hk (by simpa [hgo] using e)⟩
  · exact heap_setCell_at (hT.heap h.box fun hf => h.rb hf) 2 _
  · have := hS.ownsRow hown fun k hk e => hgr (by rw [hgo] at hk; cases hk; exact e)
    simpa using this

theorem RefG.more {w : World} {r : Nat} {vs vw vb : Value} {S : List (List UInt8)} {U : List Nat} {B : List (List UInt8)} {n : Nat} (h : RefG w r vs vw vb S U B n) (m : Nat) : RefG (w.setCell ⟨r, 3, none⟩ (.int .i64 (m : Nat))) r vs vw vb S U B m := by
  have hS : Turned (· = r) w (w.setCell ⟨r, 3, none⟩ (.int .i64 (m : Nat))) := (Turned.refl (· = r) w).setCell (p := ⟨r, 3, none⟩) rfl _
  exact ⟨heap_setCell_at h.box 3 _, hS.ownsRow h.s fun k hk e => h.rs (by rw [hk, e]), hS.ownsRow h.u fun k hk e => h.ru (by rw [hk, e]), hS.ownsRow h.b fun k hk e => h.rb (by rw [hk, e]), h.rs, h.ru, h.rb, h.su, h.sb, h.ub⟩
theorem str_join (s t : List UInt8) : (⟨s.toArray⟩ : ByteArray) ++ ⟨t.toArray⟩ = ⟨(s ++ t).toArray⟩ := by
  apply ByteArray.ext
  simp [ByteArray.data_append]
theorem info_int : (Try.prog.info? 3).map (fun i => (i.zero, i.size, i.bytes)) = some (some (.int .i64 0), 1, 8) := by kernel_rfl
theorem info_str : (Try.prog.info? 9).map (fun i => (i.zero, i.size, i.bytes)) = some (some (.string ⟨#[]⟩), 1, 16) := by kernel_rfl

set_option maxRecDepth 10000 in
set_option maxHeartbeats 2000000 in
theorem rwrite_in {w : World} {r : Nat} {vs vw vb : Value} {D : Dk} (h : RefAt w r vs vw vb D) (i : Nat) (s : List UInt8) (hx : i < D.kept.length) (hs : Veil (s.length ≤ 64)) (hm : Veil (D.uns.length ≤ 1000000)) (hops : Veil (D.ops ≤ 1000000)) :
    Calls Try.prog 49 #[.pointer (some ⟨r, 0, none⟩), .int .i64 i, .string ⟨s.toArray⟩] w fun e w' => RefPost w r vs vw vb (D.write i s) e (.int .i64 0) w' := by
  obtain ⟨p, cap, rfl, -⟩ := row_form h.s
  have c0 := h.c0
  have c1 := h.c1
  have hs64 : ¬ (64 : Int) < s.length := by have := hs.out; omega
  have hG := h.parts
  obtain ⟨U, hU⟩ : ∃ U, D.uns.map (·.1) = U := ⟨_, rfl⟩
  obtain ⟨B, hB⟩ : ∃ B, D.uns.map (·.2) = B := ⟨_, rfl⟩
  have hUl : U.length = D.uns.length := by rw [← hU, List.length_map]
  have hBl : B.length = D.uns.length := by rw [← hB, List.length_map]
  have mU : Veil (U.length ≤ 1000000) := ⟨by rw [hUl]; exact hm.out⟩
  have mB : Veil (B.length ≤ 1000000) := ⟨by rw [hBl]; exact hm.out⟩
  rw [hU, hB] at hG
  have HG : Veil _ := ⟨hG⟩
  obtain ⟨i0, hi0, hz0, hz1, hz2⟩ := info_parts info_int
  obtain ⟨j0, hj0, hy0, hy1, hy2⟩ := info_parts info_str
  have HI0 : Veil _ := ⟨And.intro hi0 (And.intro hz0 (And.intro hz1 hz2))⟩
  have HJ0 : Veil _ := ⟨And.intro hj0 (And.intro hy0 (And.intro hy1 hy2))⟩
  have HUB : Veil _ := ⟨And.intro hU hB⟩
  have hr : r < w.heap.size := lt_of_heap h.box
  clear h hG hi0 hz0 hz1 hz2 hj0 hy0 hy1 hy2 hU hB hUl hBl
  go_enter Try.func49, Try.ntmps49
  go_wp2_with (refine wpList_append_lies _ rfl (.tmp 25) (.tmp 27) 32 rfl 0 3 i0 _ 1 8 Try.underlying32 HI0.out.1 HI0.out.2.1 HI0.out.2.2.1 HI0.out.2.2.2 rfl (by decide) vw U.length (U.map iv) rfl ((HG.out.kept' ((Turned.refl (fun _ => False) w).alloc (.cells #[.int .i64 i] 3)) (fun _ => False.elim)).u) ⟨w.heap.size, 0, none⟩ 1 1 [iv i] rfl rfl (cell_one_new _ _ _) (by intro u hu; obtain rfl := List.mem_singleton.1 hu; rfl) (by decide) (by unfold maxLen; have := mU.out; omega) (by have := mU.out; omega) (Nat.zero_le _) _ rfl ?_; intro g gc w2 hown hgrow hlies hglt; have hgr2 : Veil _ := ⟨hgrow⟩; have hown2 : Veil _ := ⟨hown⟩; have hl2 : Veil _ := ⟨hlies⟩; have hTg : Turned (fun k => vw.ownBlock = some k) (w.alloc (.cells #[.int .i64 i] 3)) w2 := Turned.grown hgrow (fun k hk _ => hk); have e1 : w2.cell? ⟨r, 1, none⟩ = some vw := hTg.cell (by rw [World.cell?_alloc_lt]; exact c1; exact hr) (fun hk => HG.out.ru hk); have e2 : w2.frozen? ⟨r, 1, none⟩ = false := frozen_whole (hTg.heap (by rw [heap_alloc_if, if_neg (by omega)]; exact HG.out.box) (fun hk => HG.out.ru hk)) _; have HTg : Veil _ := ⟨hTg⟩; clear hgrow hown hlies hTg)
  have hG2 := RefG.pushU (i := i) (HG.out.kept' ((Turned.refl (fun _ => False) w).alloc (.cells #[.int .i64 i] 3)) (fun _ => False.elim)) HTg.out hown2.out (by rcases hl2.out with hl | hl <;> first | (left; exact hl) | (right; simpa using hl) | (right; have := hl; simp at *; omega))
  have HG2 : Veil _ := ⟨hG2⟩
  clear hG2
  obtain ⟨W2, hW2⟩ : ∃ W2, w2.setCell ⟨r, 1, none⟩ (.slice (some ⟨g, 0, none⟩) (U.length + 1) gc) = W2 := ⟨_, rfl⟩
  rw [hW2] at HG2
  rw [hW2]
  obtain ⟨W3, hW3⟩ : ∃ W3, W2.drew = W3 := ⟨_, rfl⟩
  have HG3 : Veil (RefG W3 r (.slice p D.kept.length cap) (.slice (some ⟨g, 0, none⟩) (U.length + 1) gc) vb D.kept (U ++ [i]) B D.ops) := ⟨by rw [← hW3]; exact HG2.out.kept' ((Turned.refl (fun _ => False) W2).drew) (fun _ => False.elim)⟩
  have c2 : W3.cell? ⟨r, 2, none⟩ = some vb := by rw [cell_whole HG3.out.box]; rfl
  refine region_plan 13 [(true, 0), (true, 1), (true, 2), (true, 3), (true, 4), (true, 5), (true, 6), (true, 7), (true, 8), (false, 9), (true, 10), (false, 11), (false, 12)] (by kernel_rfl) (by kernel_rfl) (fun w' => w'.cell? ⟨r, 2, none⟩ = some vb) W3 hW3 c2 ?_
  simp only [planOps, List.filterMap_cons, List.filterMap_nil, List.getElem?_toArray, List.getElem?_cons_zero, List.getElem?_cons_succ, Option.map_some]
  iterate 9 (refine plan_quiet rfl ?_ ?_ (fun K hK => ?_); rotate_left; (intro w' hw'; go_simp; rfl); (go_simp; refine hK _ ?_; clear hK K))
  refine plan_change (fun K hK => ?_)
  have hwz : IntKind.i64.wrap (64 - (s.length : Int)) = ((64 - s.length : Nat) : Int) := by have := hs.out; rw [IntKind.wrap_i64]; omega
  rw [hwz]
  clear hwz
  go_wp2_with (go_at_call 47; refine (zeros_any (64 - s.length) (by omega) W3).mono ?_; rintro e w4 ⟨rfl, hB4⟩)
  have HG4 : Veil (RefG w4 r (.slice p D.kept.length cap) (.slice (some ⟨g, 0, none⟩) (U.length + 1) gc) vb D.kept (U ++ [i]) B D.ops) := ⟨HG3.out.kept' (Turned.new hB4 : Turned (fun _ => False) W3 w4) (fun _ => False.elim)⟩
  have HB4 : Veil _ := ⟨hB4⟩
  clear hB4 HG3 HG2
  refine hK _ _ (by rw [cell_whole HG4.out.box]; rfl) ?_
  clear hK K
  simp only [sv]
  have n1 : ¬ 9223372036854775807 < s.length + (64 - s.length) := by have := hs.out; omega
  refine plan_quiet rfl ?_ ?_ (fun K hK => ?_); rotate_left; (intro w' hw'; go_simp; rfl); (go_simp; refine hK _ ?_; clear hK K)
  have hpd : ({ data := s.toArray } : ByteArray) ++ { data := Array.replicate (64 - s.length) 0 } = ⟨(pad s).toArray⟩ := by rw [← List.toArray_replicate]; exact str_join s _
  rw [hpd]
  clear hpd
  refine plan_change (fun K hK => ?_)
  go_wp2
  have hr4 : r < w4.heap.size := lt_of_heap HG4.out.box
  have HG5 : Veil (RefG (w4.alloc (.cells #[.string ⟨(pad s).toArray⟩] 9)) r (.slice p D.kept.length cap) (.slice (some ⟨g, 0, none⟩) (U.length + 1) gc) vb D.kept (U ++ [i]) B D.ops) := ⟨HG4.out.kept' ((Turned.refl (fun _ => False) w4).alloc _) (fun _ => False.elim)⟩
  refine hK _ _ (by rw [cell_whole HG5.out.box]; rfl) ?_
  clear hK K
  refine plan_change (fun K hK => ?_)
  refine wpList_append_lies _ rfl (.tmp 35) (.tmp 42) 37 rfl 0 9 j0 _ 1 16 Try.underlying37 HJ0.out.1 HJ0.out.2.1 HJ0.out.2.2.1 HJ0.out.2.2.2 rfl (by decide) vb B.length (B.map sv) rfl HG5.out.b ⟨w4.heap.size, 0, none⟩ 1 1 [sv (pad s)] rfl rfl (cell_one_new _ _ _) (by intro u hu; obtain rfl := List.mem_singleton.1 hu; rfl) (by decide) (by unfold maxLen; have := mB.out; omega) (by have := mB.out; omega) (Nat.zero_le _) _ rfl ?_
  intro g2 gc2 w6 hown hgrow hlies hglt2
  have hT6 : Turned (fun k => vb.ownBlock = some k) (w4.alloc (.cells #[.string ⟨(pad s).toArray⟩] 9)) w6 := Turned.grown hgrow (fun k hk _ => hk)
  have hbx6 := hT6.heap HG5.out.box HG5.out.rb
  have hG6 := RefG.pushB (s := pad s) HG5.out hT6 hown (by rcases hlies with hl | hl <;> first | (left; exact hl) | (right; simpa using hl) | (right; have := hl; simp at *; omega))
  have c26 : w6.cell? ⟨r, 2, none⟩ = some vb := by rw [cell_whole hbx6]; rfl
  have f26 : w6.frozen? ⟨r, 2, none⟩ = false := frozen_whole hbx6 _
  refine wpList_nil ?_
  refine hK _ _ c26 ?_
  clear hK K
  refine wpPlan_nil ?_
  simp only [List.drop_succ_cons, List.drop_zero]
  go_wp2
  refine only_normal ?_
  obtain ⟨W6, hW6⟩ : ∃ W6, w6.setCell ⟨r, 2, none⟩ (.slice (some ⟨g2, 0, none⟩) (B.length + 1) gc2) = W6 := ⟨_, rfl⟩
  rw [hW6] at hG6
  rw [hW6]
  have HG6 : Veil _ := ⟨hG6⟩
  have c36 : W6.cell? ⟨r, 3, none⟩ = some (.int .i64 D.ops) := by rw [cell_whole hG6.box]; rfl
  have f36 : W6.frozen? ⟨r, 3, none⟩ = false := frozen_whole hG6.box _
  have hw1 : wrap64 ((D.ops : Int) + 1) = ((D.ops + 1 : Nat) : Int) := by have := hops.out; unfold wrap64; omega
  have hw2 : IntKind.i64.wrap ((D.ops : Int) + 1) = ((D.ops + 1 : Nat) : Int) := by have := hops.out; rw [IntKind.wrap_i64]; omega
  clear hG6
  go_wp2
  go_ret
  have hG7 := HG6.out.more (D.ops + 1)
  have T2 : Turned (RFoot r (.slice p D.kept.length cap) vw vb) w W2 := by rw [← hW2]; exact (((Turned.refl _ w).alloc _).trans (HTg.out.wider fun k _ e => .inr (.inr (.inl e)))).setCell (p := ⟨r, 1, none⟩) (.inl rfl) _
  have T3 : Turned (RFoot r (.slice p D.kept.length cap) vw vb) w W3 := by rw [← hW3]; exact T2.drew
  have T6 := ((T3.trans (Turned.new HB4.out)).alloc (.cells #[.string ⟨(pad s).toArray⟩] 9)).trans (hT6.wider fun k _ e => .inr (.inr (.inr e)))
  have T7 : Turned (RFoot r (.slice p D.kept.length cap) vw vb) w W6 := by rw [← hW6]; exact T6.setCell (p := ⟨r, 2, none⟩) (.inl rfl) _
  have hsz : w.heap.size ≤ w4.heap.size := (T3.trans (Turned.new HB4.out)).size
  refine ⟨rfl, .slice (some ⟨g, 0, none⟩) (U.length + 1) gc, .slice (some ⟨g2, 0, none⟩) (B.length + 1) gc2, ?_, T7.setCell (p := ⟨r, 3, none⟩) (.inl rfl) _, ?_, ?_⟩
  · refine RefG.whole (D := D.write i s) ?_
    have e1 : (D.write i s).uns.map (·.1) = D.uns.map (·.1) ++ [i] := by simp [Dk.write]
    have e2 : (D.write i s).uns.map (·.2) = D.uns.map (·.2) ++ [pad s] := by simp [Dk.write]
    rw [e1, e2, HUB.out.1, HUB.out.2]
    exact hG7
  · intro k hk
    have hk : g = k := by simpa [Value.ownBlock] using hk
    subst hk
    rcases hl2.out with hl | hl
    · exact .inl hl
    · rw [World.size_alloc] at hl; exact .inr (by omega)
  · intro k hk
    have hk : g2 = k := by simpa [Value.ownBlock] using hk
    subst hk
    rcases hlies with hl | hl
    · exact .inl hl
    · rw [World.size_alloc] at hl; exact .inr (by omega)
end Go.Proofs.Ytapmppiiphbcpaa
