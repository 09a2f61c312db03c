/- The plain disk's Crash, where the cut is refused. -/
import Derived.StillTailTactics
import Derived.Test.YtapmppiiphbcpaaKE3
namespace Go.Proofs.Ytapmppiiphbcpaa
open Go Go.RowKit

set_option maxRecDepth 10000 in
set_option maxHeartbeats 1000000 in
theorem rcrash_more {w : World} {r : Nat} {vs vw vb : Value} {D : Dk} (h : RefAt w r vs vw vb D) (p : Option Addr) (zs : List Int) (cap : Nat) (_hl : zs.length ≤ 9223372036854775807) (hm : D.uns.length < zs.length) :
    Calls Try.prog 52 #[.pointer (some ⟨r, 0, none⟩), .slice p zs.length cap] w fun e w' => e = .returned (.int .i64 2) ∧ w = w' := by
  obtain ⟨pw, cw, rfl, -⟩ := row_form h.u
  have c1 := h.c1
  clear h
  go_enter Try.func52, Try.ntmps52
  go_wp2
  go_ret
  exact ⟨rfl, rfl⟩

set_option maxRecDepth 10000 in
set_option maxHeartbeats 2000000 in
theorem rcrash_wrong {w : World} {r : Nat} {vs vw vb : Value} {D : Dk} (h : RefAt w r vs vw vb D) (p : Option Addr) (zs : List Int) (cap : Nat) (hm : zs.length ≤ D.uns.length) (hm1 : D.uns.length ≤ 1000000) (hz : Ints w p zs) (ha : allIn 0 64 zs = false) :
    Calls Try.prog 52 #[.pointer (some ⟨r, 0, none⟩), .slice p zs.length cap] w fun e w' => e = .returned (.int .i64 2) ∧ w = w' := by
  obtain ⟨pw, cw, rfl, -⟩ := row_form h.u
  have c1 := h.c1
  have HA : Veil _ := ⟨ha⟩
  clear h ha
  go_enter Try.func52, Try.ntmps52
  go_wp2
  go_loop [5] (fun i => ∃ k : Nat, k ≤ zs.length ∧ i = .int .i64 k ∧ allIn 0 64 (zs.take k) = true) (fun i => zs.length - (intOf i).toNat)
  case atStart => exact ⟨0, Nat.zero_le _, rfl, rfl⟩
  case round =>
    obtain ⟨k, hk, rfl, hall⟩ := hrel
    by_cases hlt : k < zs.length
    · obtain ⟨b, off, rfl, hc⟩ := hz (by intro h; simp [h] at hlt)
      have hck := hc k hlt
      have ht := allIn_take 0 64 zs k hlt
      by_cases h1 : 0 ≤ zs.getD k 0 ∧ zs.getD k 0 ≤ 64
      · obtain ⟨h1, h2⟩ := h1
        generalize hx : zs.getD k 0 = x at *
        have ht' : allIn 0 64 (zs.take (k + 1)) = true := by rw [ht, hall]; simp [h1, h2]
        have HT : Veil _ := ⟨ht'⟩
        clear ht ht' hall hc hz hx
        go_wp2
        go_round
        case rel => exact ⟨k + 1, by omega, by go_num, HT.out⟩
        case measure => simp [intOf]; omega
      · generalize hx : zs.getD k 0 = x at *
        clear ht hall hc hz hx
        by_cases h3 : x < 0
        · clear h1
          go_wp2
          go_ret
          exact ⟨rfl, rfl⟩
        · have h4 : 64 < x := by omega
          clear h1
          go_wp2
          go_ret
          exact ⟨rfl, rfl⟩
    · obtain rfl : k = zs.length := by omega
      exact absurd (by simpa using hall) (by rw [HA.out]; decide)
end Go.Proofs.Ytapmppiiphbcpaa

/- The plain disk's Crash. -/
namespace Go.Proofs.Ytapmppiiphbcpaa
open Go Go.RowKit

/-- What is kept, k writes laid over it, each as far as its number says. -/
def keptN (D : Dk) (zs : List Int) (k : Nat) : List (List UInt8) := keepAll D.kept ((D.uns.zip (zs.map Int.toNat)).take k)
theorem length_keptN (D : Dk) (zs : List Int) (k : Nat) : (keptN D zs k).length = D.kept.length := length_keepAll _ _
theorem kept_next {D : Dk} {zs : List Int} {k : Nat} (hk : k < D.uns.length) (hz : k < zs.length) : keptN D zs (k + 1) = (keptN D zs k).set D.uns[k].1 (tear D.uns[k].2 ((keptN D zs k).getD D.uns[k].1 []) (zs.getD k 0).toNat) := by
  have hl : k < (D.uns.zip (zs.map Int.toNat)).length := by simp; omega
  have e : (D.uns.zip (zs.map Int.toNat))[k] = (D.uns[k], (zs.getD k 0).toNat) := by simp [List.getD, hz]
  unfold keptN
  rw [List.take_succ_eq_append_getElem hl, keepAll_snoc, e]
theorem kept_64 {D : Dk} (h : D.Inv) {zs : List Int} (hz : ∀ z ∈ zs, 0 ≤ z ∧ z ≤ 64) (k : Nat) : ∀ s ∈ keptN D zs k, s.length = 64 := by
  have hmem : ∀ x ∈ (D.uns.zip (zs.map Int.toNat)).take k, x.1 ∈ D.uns ∧ x.2 ≤ 64 := fun x hx => by
    have h1 := List.of_mem_zip (a := x.1) (b := x.2) (by simpa using List.mem_of_mem_take hx)
    obtain ⟨z, hz', e⟩ := List.mem_map.1 h1.2
    exact ⟨h1.1, by have := hz z hz'; omega⟩
  exact keepAll_64 _ (fun x hx => ⟨(h.u64 _ (hmem x hx).1).2, (hmem x hx).2⟩) _ (fun x hx => (h.u64 _ (hmem x hx).1).1) h.k64

/-- What is seen is not the plain disk's to say. -/
theorem RefAt.seen' {w : World} {r : Nat} {vs vw vb : Value} {D : Dk} (h : RefAt w r vs vw vb D) (L : List (List UInt8)) : RefAt w r vs vw vb { D with seen := L } := ⟨h.box, h.s, h.u, h.b, h.rs, h.ru, h.rb, h.su, h.sb, h.ub⟩
theorem cut_at (s : List UInt8) (a b : Nat) : (⟨s.toArray⟩ : ByteArray).extract a b = ⟨((s.drop a).take (b - a)).toArray⟩ := by
  apply ByteArray.ext
  rw [ByteArray.data_extract]
  simp [List.extract_eq_take_drop]

set_option maxRecDepth 10000 in
set_option maxHeartbeats 2000000 in
theorem rcrash_any' {w : World} {r : Nat} {vs vw vb : Value} {D : Dk} (h : RefAt w r vs vw vb D) (hi : D.Inv) (h0 : 0 < D.kept.length) (p : Option Addr) (zs : List Int) (cap : Nat) (hm : zs.length ≤ D.uns.length) (hm1 : Veil (D.uns.length ≤ 1000000)) (hz : Ints w p zs) (hp : zs ≠ [] → ∀ b off, p = some ⟨b, off, none⟩ → b < w.heap.size ∧ ¬ RFoot r vs vw vb b) (ha : allIn 0 64 zs = true) :
    Calls Try.prog 52 #[.pointer (some ⟨r, 0, none⟩), .slice p zs.length cap] w fun e w' => RefPost w r vs vw vb (D.crash zs) e (.int .i64 0) w' := by
  obtain ⟨ps, cs, rfl, hs⟩ := row_form h.s
  obtain ⟨gs, rfl, -⟩ := hs h0
  obtain ⟨pw, cw, rfl, -⟩ := row_form h.u
  obtain ⟨pb, cb, rfl, -⟩ := row_form h.b
  have c1 := h.c1
  have hall : ∀ z ∈ zs, 0 ≤ z ∧ z ≤ 64 := fun z hz => by have := List.all_eq_true.1 ha z hz; simpa using this
  have HA : Veil _ := ⟨hall⟩
  have HI : Veil _ := ⟨hi⟩
  have HZ : Veil _ := ⟨hz⟩
  have HP : Veil _ := ⟨hp⟩
  have HH : Veil (RefAt w r (.slice (some ⟨gs, 0, none⟩) D.kept.length cs) (.slice pw D.uns.length cw) (.slice pb D.uns.length cb) { D with kept := keptN D zs 0 }) := ⟨h⟩
  clear h ha hs hi hall hz hp
  go_enter Try.func52, Try.ntmps52
  go_wp2
  go_loop [5] (fun i => ∃ k : Nat, k ≤ zs.length ∧ i = .int .i64 k) (fun i => zs.length - (intOf i).toNat)
  case atStart => exact ⟨0, Nat.zero_le _, rfl⟩
  case round =>
    obtain ⟨k, hk, rfl⟩ := hrel
    by_cases hlt : k < zs.length
    · obtain ⟨b, off, rfl, hc⟩ := HZ.out (by intro h; simp [h] at hlt)
      have hck := hc k hlt
      have hzk := HA.out (zs.getD k 0) (by simp [List.getD, hlt])
      revert hck hzk
      generalize zs.getD k 0 = x
      rintro hck ⟨h1, h2⟩
      have hm1' := hm1.out
      clear hc
      go_wp2
      go_round
      case rel => exact ⟨k + 1, by omega, by go_num⟩
      case measure => simp [intOf]; omega
    · obtain rfl : k = zs.length := by omega
      go_wp2
      go_loopw [6, 7] (fun i _ wr => ∃ k : Nat, k ≤ zs.length ∧ i = .int .i64 k ∧ Veil (RefAt wr r (.slice (some ⟨gs, 0, none⟩) D.kept.length cs) (.slice pw D.uns.length cw) (.slice pb D.uns.length cb) { D with kept := keptN D zs k }) ∧ Veil (Turned (RFoot r (.slice (some ⟨gs, 0, none⟩) D.kept.length cs) (.slice pw D.uns.length cw) (.slice pb D.uns.length cb)) w wr)) (fun i _ _ => zs.length - (intOf i).toNat)
      case atStart => exact ⟨0, Nat.zero_le _, rfl, HH, ⟨Turned.refl _ _⟩⟩
      case round =>
        obtain ⟨k, hk, rfl, hR, hT⟩ := hrel
        have d1 := hR.out.c1
        by_cases hlt : k < zs.length
        · obtain ⟨pw', cw', ew, hw⟩ := row_form hR.out.u
          obtain ⟨pb', cb', eb, hb⟩ := row_form hR.out.b
          obtain ⟨ps', cs', es, hs⟩ := row_form hR.out.s
          cases ew
          cases eb
          simp only [Value.slice.injEq] at es
          obtain ⟨es, -, -⟩ := es
          subst es
          obtain ⟨gw, rfl, hw'⟩ := hw (by show 0 < D.uns.length; omega)
          obtain ⟨gb, rfl, hb'⟩ := hb (by show 0 < D.uns.length; omega)
          obtain ⟨gs', eg, hs'⟩ := hs (by show 0 < (keptN D zs k).length; rw [length_keptN]; exact h0)
          cases eg
          obtain ⟨b, off, rfl, hc⟩ := HZ.out (by intro h; simp [h] at hlt)
          have hltu : k < D.uns.length := by omega
          have d0 := hR.out.c0
          have d2 := hR.out.c2
          have hck : wr.cell? ⟨b, off + k, none⟩ = some (.int .i64 (zs.getD k 0)) := by rw [World.cell?_of_block (w := w) (hT.out.block b (HP.out (by intro h; simp [h] at hlt) b off rfl).1 (HP.out (by intro h; simp [h] at hlt) b off rfl).2)]; exact hc k hlt
          have hzk := HA.out (zs.getD k 0) (by simp [List.getD, hlt])
          have cwj : wr.cell? ⟨gw, k, none⟩ = some (.int .i64 (D.uns[k].1 : Nat)) := hw' k _ (by simp [hltu, atv])
          have cbj : wr.cell? ⟨gb, k, none⟩ = some (sv D.uns[k].2) := hb' k _ (by simp [hltu])
          have hu := HI.out.u64 _ (List.getElem_mem hltu)
          have hov : Veil _ := ⟨kept_next hltu hlt⟩
          have hu1 := hu.1
          have hb64 : Veil _ := ⟨hu.2⟩
          have hml : D.uns[k].1 < (keptN D zs k).length := by rw [length_keptN]; exact hu.1
          have csj : wr.cell? ⟨gs, D.uns[k].1, none⟩ = some (sv ((keptN D zs k).getD D.uns[k].1 [])) := hs' _ _ (by simp [List.getD, hml])
          have ho64 : Veil (((keptN D zs k).getD D.uns[k].1 []).length = 64) := ⟨kept_64 HI.out HA.out k _ (by simp [List.getD, hml])⟩
          obtain ⟨-, -, hcf⟩ := row_cell hR.out.s (show D.uns[k].1 < ((keptN D zs k).map sv).length by rw [List.length_map]; exact hml)
          obtain ⟨n, hn⟩ : ∃ n : Nat, zs.getD k 0 = (n : Int) := ⟨(zs.getD k 0).toNat, by omega⟩
          rw [hn] at hov hck hzk
          clear hw hb hs hw' hb' hs' hc hu hml hn
          revert csj ho64 cwj cbj hov hu1 hb64 hcf
          generalize (keptN D zs k).getD D.uns[k].1 [] = old
          generalize D.uns[k].2 = bs
          generalize D.uns[k].1 = m
          intro cwj cbj hu1 hb64 csj ho64 hcf hov
          unfold sv at cbj csj
          have hwk : wrap64 ((k : Int) + 1) = (k : Int) + 1 := by have := hm1.out; unfold wrap64; omega
          go_wp2_with fail
          obtain ⟨W, hW⟩ : ∃ W, wr.drew = W := ⟨_, rfl⟩
          refine region_tail 36 (by kernel_rfl) (by kernel_rfl) W hW ?_
          simp only [List.take_succ_cons, List.take_zero, List.drop_succ_cons, List.drop_zero]
          have E0 := cell_drew hW d0
          have E1 := cell_drew hW d1
          have E2 := cell_drew hW d2
          have E3 := cell_drew hW cwj
          have E4 := cell_drew hW cbj
          have E5 := cell_drew hW csj
          have E6 : W.frozen? ⟨gs, m, none⟩ = false := by rw [← hW]; exact hcf
          have hRW : Veil (RefAt W r (.slice (some ⟨gs, 0, none⟩) D.kept.length cs) (.slice (some ⟨gw, 0, none⟩) D.uns.length cw) (.slice (some ⟨gb, 0, none⟩) D.uns.length cb) { D with kept := keptN D zs k }) := ⟨by rw [← hW]; exact hR.out.kept' ((Turned.refl (fun _ => False) wr).drew) (fun _ => False.elim)⟩
          have hTW : Veil (Turned (RFoot r (.slice (some ⟨gs, 0, none⟩) D.kept.length cs) (.slice (some ⟨gw, 0, none⟩) D.uns.length cw) (.slice (some ⟨gb, 0, none⟩) D.uns.length cb)) w W) := ⟨by rw [← hW]; exact hT.out.drew⟩
          have nb : n ≤ bs.length := by have := hb64.out; omega
          have no : n ≤ old.length := by have := ho64.out; omega
          clear d0 d1 d2 cwj cbj csj hcf hR hT hW hck
          iterate 35 still_step
          have ha : ({ data := bs.toArray } : ByteArray).extract 0 n = ⟨(bs.take n).toArray⟩ := by rw [cut_at]; simp
          have hb : ({ data := old.toArray } : ByteArray).extract n old.length = ⟨(old.drop n).toArray⟩ := by rw [cut_at, List.take_of_length_le (by simp)]
          rw [ha, hb]
          have hte : Veil (tear bs old ((n : Nat) : Int).toNat = bs.take n ++ old.drop n) := ⟨by rw [Int.toNat_natCast]; rfl⟩
          have la : (bs.take n).length ≤ 64 := by have := hb64.out; simp; omega
          have lo : (old.drop n).length ≤ 64 := by have := ho64.out; simp; omega
          clear ha hb
          revert la lo hte
          generalize bs.take n = A
          generalize old.drop n = O
          intro hte la lo
          have n1 : ¬ 9223372036854775807 < A.length + O.length := by omega
          still_step
          rw [str_join]
          refine wpStill_nil ?_
          go_wp2
          refine only_normal ?_
          go_wp2
          refine ⟨⟨k + 1, by omega, by rw [hwk]; go_num, ⟨by rw [hov.out, hte.out]; exact hRW.out.setS m _⟩, ⟨hTW.out.setCell (p := ⟨gs, m, none⟩) (.inr (.inl rfl)) _⟩⟩, ?_⟩
          rw [hwk]
          simp [intOf]
          omega
        · obtain rfl : k = zs.length := by omega
          have d3 := hR.out.c3
          have f1 := hR.out.fz 1
          have f2 := hR.out.fz 2
          have d2 := hR.out.c2
          have hbx := heap_setCell_at (heap_setCell_at hR.out.box 1 (.slice none 0 0)) 2 (.slice none 0 0)
          have hTr : Turned (· = r) wr ((wr.setCell ⟨r, 1, none⟩ (.slice none 0 0)).setCell ⟨r, 2, none⟩ (.slice none 0 0)) := ((Turned.refl (· = r) wr).setCell (p := ⟨r, 1, none⟩) rfl _).setCell (p := ⟨r, 2, none⟩) rfl _
          have HC : Veil _ := ⟨hR.out.cleared D.ops hTr hbx⟩
          have HT : Veil _ := ⟨hT.out.trans (hTr.wider fun k _ e => .inl e)⟩
          clear hbx hTr
          go_wp2
          go_ret
          refine ⟨rfl, .slice none 0 0, .slice none 0 0, ?_, HT.out, fun k hk => by simp [Value.ownBlock] at hk, fun k hk => by simp [Value.ownBlock] at hk⟩
          have hfull : keptN D zs zs.length = crashKept D zs := by
            unfold keptN crashKept
            rw [List.take_of_length_le]
            simp; omega
          have := HC.out
          rw [hfull] at this
          exact this.seen' _
theorem rcrash_any {w : World} {r : Nat} {vs vw vb : Value} {D : Dk} (h : RefAt w r vs vw vb D) (hi : D.Inv) (h0 : 0 < D.kept.length) (p : Option Addr) (zs : List Int) (cap : Nat) (hm : zs.length ≤ D.uns.length) (hm1 : Veil (D.uns.length ≤ 1000000)) (hz : Ints w p zs) (hp : ∀ b off, p = some ⟨b, off, none⟩ → b < w.heap.size ∧ ¬ RFoot r vs vw vb b) (ha : allIn 0 64 zs = true) :
    Calls Try.prog 52 #[.pointer (some ⟨r, 0, none⟩), .slice p zs.length cap] w fun e w' => RefPost w r vs vw vb (D.crash zs) e (.int .i64 0) w' :=
  rcrash_any' h hi h0 p zs cap hm hm1 hz (fun _ => hp) ha
end Go.Proofs.Ytapmppiiphbcpaa

/- The plain disk's New. -/
namespace Go.Proofs.Ytapmppiiphbcpaa
open Go Go.RowKit

/-- One sector more. -/
theorem RefG.pushS {w w2 : World} {r g gc : Nat} {vs vw vb : Value} {S : List (List UInt8)} {U : List Nat} {B : List (List UInt8)} {n : Nat} {s : List UInt8} (h : RefG w r vs vw vb S U B n) (hT : Turned (fun k => vs.ownBlock = some k) w w2)
    (hown : w2.ownsRow 0 9 1 (.slice (some ⟨g, 0, none⟩) (S.length + 1) gc) (S.length + 1) (S.map sv ++ [sv s])) (hl : vs.ownBlock = some g ∨ w.heap.size ≤ g) :
    RefG (w2.setCell ⟨r, 0, none⟩ (.slice (some ⟨g, 0, none⟩) (S.length + 1) gc)) r (.slice (some ⟨g, 0, none⟩) (S.length + 1) gc) vw vb (S ++ [s]) U B n := by
  have hr : r < w.heap.size := lt_of_heap h.box
  have hS : Turned (· = r) w2 (w2.setCell ⟨r, 0, none⟩ (.slice (some ⟨g, 0, none⟩) (S.length + 1) gc)) := (Turned.refl (· = r) w2).setCell (p := ⟨r, 0, none⟩) rfl _
  have hgo : (Value.slice (some ⟨g, 0, none⟩) (S.length + 1) gc).ownBlock = some g := rfl
  have hgr : g ≠ r := by
    rcases hl with hl | hl
    · exact fun e => h.rs (by rw [hl, e])
    · omega
  have hgu : ∀ k, vw.ownBlock = some k → g ≠ k := fun k hk e => by
    rcases hl with hl | hl
    · exact h.su k (by rw [hl, e]) hk
    · have := (h.u.lt k hk).2; omega
  have hgb : ∀ k, vb.ownBlock = some k → g ≠ k := fun k hk e => by
    rcases hl with hl | hl
    · exact h.sb k (by rw [hl, e]) hk
    · have := (h.b.lt k hk).2; omega
  refine ⟨?_, ?_, hS.ownsRow (hT.ownsRow h.u fun k hk hf => h.su k hf hk) fun k hk e => h.ru (by rw [hk, e]), hS.ownsRow (hT.ownsRow h.b fun k hk hf => h.sb k hf hk) fun k hk e => h.rb (by rw [hk, e]), fun e => hgr (by simpa [hgo] using e), h.ru, h.rb, fun k hk e => hgu k e (by simpa [hgo] using hk), fun k hk e => hgb k e (by simpa [hgo] using hk), h.ub⟩
  · exact heap_setCell_at (hT.heap h.box fun hf => h.rs hf) 0 _
  · have := hS.ownsRow hown fun k hk e => hgr (by rw [hgo] at hk; cases hk; exact e)
    simpa using this

set_option maxRecDepth 10000 in
set_option maxHeartbeats 2000000 in
theorem rnew_any (n : Nat) (h1 : 1 ≤ n) (h2 : n ≤ 65536) (w : World) :
    Calls Try.prog 15 #[.int .i64 n] w fun e w' => ∃ r vs, e = .returned (.tuple #[.pointer (some ⟨r, 0, none⟩), .int .i64 0]) ∧ RefAt w' r vs (.slice none 0 0) (.slice none 0 0) (Dk.new n) ∧ Below w.heap.size w w' ∧ w.heap.size ≤ r ∧ ∀ k, vs.ownBlock = some k → w.heap.size ≤ k := by
  have hn1 : ¬ (n : Int) < 1 := by omega
  have hn2 : ¬ (65536 : Int) < n := by omega
  go_enter Try.func15, Try.ntmps15
  obtain ⟨Z, hZ⟩ : ∃ Z, List.replicate 64 (0 : UInt8) = Z := ⟨_, rfl⟩
  have hzz := fun W : World => zeros_any 64 (by omega) W
  rw [hZ] at hzz
  have HZZ : Veil _ := ⟨hzz⟩
  clear hzz
  go_wp2_with (go_at_call 47; refine (HZZ.out _).mono ?_; rintro e w4 ⟨rfl, hB4⟩)
  have hT4 : Turned (fun k => w.heap.size ≤ k) w w4 := ((Turned.refl _ w).alloc _).trans (Turned.new hB4)
  have hG4 : RefG w4 w.heap.size (.slice none 0 0) (.slice none 0 0) (.slice none 0 0) [] [] [] 0 := by
    refine RefG.kept' ?_ (Turned.new hB4 : Turned (fun _ => False) _ w4) (fun _ => False.elim)
    refine ⟨by rw [heap_alloc_if, if_pos rfl]; rfl, World.ownsRow_nil _ _ _ _, World.ownsRow_nil _ _ _ _, World.ownsRow_nil _ _ _ _, by simp [Value.ownBlock], by simp [Value.ownBlock], by simp [Value.ownBlock], fun k h => by simp [Value.ownBlock] at h, fun k h => by simp [Value.ownBlock] at h, fun k h => by simp [Value.ownBlock] at h⟩
  have HT4 : Veil _ := ⟨hT4⟩
  have HG4 : Veil _ := ⟨hG4⟩
  clear hB4 hT4 hG4
  obtain ⟨j0, hj0, hy0, hy1, hy2⟩ := info_parts info_str
  have HJ0 : Veil _ := ⟨And.intro hj0 (And.intro hy0 (And.intro hy1 hy2))⟩
  clear hj0 hy0 hy1 hy2
  simp only [sv]
  go_loopw [6] (fun i wr => ∃ (k : Nat) (vs : Value), k ≤ n ∧ i = .int .i64 k ∧ Veil (RefG wr w.heap.size vs (.slice none 0 0) (.slice none 0 0) (List.replicate k Z) [] [] 0) ∧ Veil (Turned (fun k => w.heap.size ≤ k) w wr) ∧ Veil (∀ j, vs.ownBlock = some j → w.heap.size ≤ j)) (fun i _ => n - (intOf i).toNat)
  case atStart => exact ⟨0, _, Nat.zero_le _, rfl, HG4, HT4, ⟨fun j h => by simp [Value.ownBlock] at h⟩⟩
  case round =>
    obtain ⟨k, vs, hk, rfl, hG, hT, hV⟩ := hrel
    obtain ⟨S, hS⟩ : ∃ S, List.replicate k Z = S := ⟨_, rfl⟩
    have hSl : Veil (S.length = k) := ⟨by rw [← hS, List.length_replicate]⟩
    have hSn : Veil (List.replicate (k + 1) Z = S ++ [Z]) := ⟨by rw [← hS, List.replicate_succ']⟩
    have hSk : Veil _ := ⟨hS⟩
    rw [hS] at hG
    clear hS
    obtain ⟨p, cap, rfl, -⟩ := row_form hG.out.s
    have d0 : wr.cell? ⟨w.heap.size, 0, none⟩ = some (.slice p S.length cap) := by rw [cell_whole hG.out.box]; rfl
    by_cases hlt : k < n
    · have hwk : wrap64 ((k : Int) + 1) = (k : Int) + 1 := by unfold wrap64; omega
      have hrr : w.heap.size < wr.heap.size := lt_of_heap hG.out.box
      go_wp2_with ((refine wpList_append_lies _ rfl (.tmp 25) (.tmp 27) 37 rfl 0 9 j0 _ 1 16 Try.underlying37 HJ0.out.1 HJ0.out.2.1 HJ0.out.2.2.1 HJ0.out.2.2.2 rfl (by decide) (.slice p S.length cap) S.length (S.map sv) rfl ((hG.out.kept' ((Turned.refl (fun _ => False) wr).alloc (.cells #[.string ⟨Z.toArray⟩] 9)) (fun _ => False.elim)).s) ⟨wr.heap.size, 0, none⟩ 1 1 [sv Z] rfl rfl (cell_one_new _ _ _) (by intro u hu; obtain rfl := List.mem_singleton.1 hu; rfl) (by decide) (by unfold maxLen; have := hSl.out; omega) (by have := hSl.out; omega) (Nat.zero_le _) _ rfl ?_; intro g gc w2 hown hgrow hlies hglt; have hTg : Turned (fun k => (Value.slice p S.length cap).ownBlock = some k) (wr.alloc (.cells #[.string ⟨Z.toArray⟩] 9)) w2 := Turned.grown hgrow (fun k hk _ => hk); have hbx := hTg.heap (hG.out.kept' ((Turned.refl (fun _ => False) wr).alloc (.cells #[.string ⟨Z.toArray⟩] 9)) (fun _ => False.elim)).box hG.out.rs; have e1 : w2.cell? ⟨w.heap.size, 0, none⟩ = some (.slice p S.length cap) := (by rw [cell_whole hbx]; rfl); have e2 : w2.frozen? ⟨w.heap.size, 0, none⟩ = false := frozen_whole hbx _; have HTg : Veil _ := ⟨hTg⟩; have HOW : Veil _ := ⟨hown⟩; clear hgrow hbx hTg hown))
      have hG2 := RefG.pushS (s := Z) (hG.out.kept' ((Turned.refl (fun _ => False) wr).alloc (.cells #[.string ⟨Z.toArray⟩] 9)) (fun _ => False.elim)) HTg.out HOW.out (by
        rcases hlies with hl | hl
        · exact .inl hl
        · exact .inr (by omega))
      refine ⟨⟨k + 1, .slice (some ⟨g, 0, none⟩) (S.length + 1) gc, by omega, by go_num, ⟨by rw [hSn.out]; exact hG2⟩, ⟨?_⟩, ⟨?_⟩⟩, ?_⟩
      · exact ((hT.out.alloc _).trans (HTg.out.wider fun j _ e => hV.out j e)).setCell (p := ⟨w.heap.size, 0, none⟩) (Nat.le_refl _) _
      · intro j hj
        have hj : g = j := by simpa [Value.ownBlock] using hj
        subst hj
        rcases hlies with hl | hl
        · exact hV.out _ hl
        · rw [World.size_alloc] at hl; omega
      · simp [intOf]; omega
    · obtain rfl : k = n := by omega
      go_wp2
      go_ret2
      refine ⟨w.heap.size, .slice p S.length cap, rfl, ?_, hT.out.toBelow (Nat.le_refl _) (fun _ _ h => h), Nat.le_refl _, hV.out⟩
      refine RefG.whole (D := Dk.new k) ?_
      have e : S = (Dk.new k).kept := by rw [← hSk.out, ← hZ]; rfl
      rw [← e]
      exact hG.out
end Go.Proofs.Ytapmppiiphbcpaa
