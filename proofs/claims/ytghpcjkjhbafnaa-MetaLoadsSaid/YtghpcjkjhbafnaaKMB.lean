/- The walk of Load of a meta. -/
import Derived.Deep.RegionHeld3
import Derived.Test.YtghpcjkjhbafnaaKM9
import Derived.Test.YtghpcjkjhbafnaaKP8
import Derived.Test.YtghpcjkjhbafnaaKP7
namespace Go.Proofs.Ytghpcjkjhbafnaa
open Go Go.RowKit Sm
attribute [local go_sem] Oper.semAt_some

/-- The last commit of a disk. -/
def betterM (a b : Mt) : Mt := if a.tx < b.tx then b else a
def lastM (D : Dk) : Nat → Mt
  | 0 => Mt.zero
  | k + 1 => betterM (lastM D k) (heldM (D.seen.getD (k * 4) []) k)
def loadMV (D : Dk) : Value := if 4 < D.kept.length then (if (lastM D 2).tx = 0 then .tuple #[Mt.zero.v, .int .i64 40] else .tuple #[(lastM D 2).v, .int .i64 0]) else .tuple #[Mt.zero.v, .int .i64 10]
theorem heldM_or (s : List UInt8) (k : Nat) : heldM s k = Mt.zero ∨ 1 ≤ (heldM s k).tx := by
  unfold heldM
  split
  · rename_i h
    simp only [Bool.and_eq_true, isMt] at h
    exact .inr ((Mt.right_iff _).1 h.1.1.2).1
  · exact .inl rfl
theorem lastM_or (D : Dk) (k : Nat) : lastM D k = Mt.zero ∨ 1 ≤ (lastM D k).tx := by
  induction k with
  | zero => exact .inl rfl
  | succ k ih =>
    unfold lastM betterM
    split
    · exact heldM_or _ _
    · exact ih

theorem cell4_ne {w : World} {g k o : Nat} {x : Value} (h : w.cell? ⟨k, o, none⟩ = some x) (hk : k ≠ g) (v0 v1 v2 v3 : Value) :
    ((((w.setCell ⟨g, 0, none⟩ v0).setCell ⟨g, 1, none⟩ v1).setCell ⟨g, 2, none⟩ v2).setCell ⟨g, 3, none⟩ v3).cell? ⟨k, o, none⟩ = some x :=
by
  have e := set4_ne (w := w) (g := g) (k := k) (x := w.heap[k]?) (Eq.refl _) hk v0 v1 v2 v3
  generalize (((w.setCell ⟨g, 0, none⟩ v0).setCell ⟨g, 1, none⟩ v1).setCell ⟨g, 2, none⟩ v2).setCell ⟨g, 3, none⟩ v3 = X at e ⊢
  exact (World.cell?_of_block e).trans h
structure LdI (w : World) (B1 B2 B3 B4 d kb sb : Nat) (v : Value) (D : Dk) (last : Mt) (c : Int) (A : World) : Prop where
  disk : DiskAt A d kb sb v D
  bx : A.heap[w.heap.size]? = some (.cells #[.pointer (some ⟨d, 0, none⟩)] 24 (0, 0))
  rs : A.heap[B1]? = some (.cells #[.int .u64 0, .int .u32 0, .int .u32 0, .int .u32 0] 60 (0, 0))
  la : A.heap[B2]? = some (.cells #[.int .u64 last.tx, .int .u32 last.root, .int .u32 last.high, .int .u32 last.free] 60 (0, 0))
  st : ∃ s, A.heap[B3]? = some (.cells #[.string s] 9 (0, 0))
  er : A.heap[B4]? = some (.cells #[.int .i64 c] 25 (0, 0))
  t : Turned (fun _ => False) w A
section
variable {w : World} {B1 B2 B3 B4 d kb sb : Nat} {v : Value} {D : Dk} {last : Mt} {c : Int} {A A' : World}
theorem LdI.booked {B : Nat} (h : LdI w B1 B2 B3 B4 d kb sb v D last c A) (hb : Booked B A A') (hB : w.heap.size ≤ B) : LdI w B1 B2 B3 B4 d kb sb v D last c A' :=
  ⟨h.disk.booked hb, hb.heap h.bx, hb.heap h.rs, hb.heap h.la, h.st.imp fun _ h => hb.heap h, hb.heap h.er, hb.turned h.t hB⟩
theorem LdI.new (h : LdI w B1 B2 B3 B4 d kb sb v D last c A) (hb : Turned (fun _ => False) A A') : LdI w B1 B2 B3 B4 d kb sb v D last c A' :=
  ⟨h.disk.kept' hb (fun _ => False.elim), hb.heap h.bx (fun h => h), hb.heap h.rs (fun h => h), hb.heap h.la (fun h => h), h.st.imp fun _ k => hb.heap k (fun h => h), hb.heap h.er (fun h => h), h.t.trans hb⟩
/-- What a read told is stored. -/
theorem LdI.told (h : LdI w B1 B2 B3 B4 d kb sb v D last c A) (hD : ∀ k, Foot d kb sb v k → k < w.heap.size) (h1 : w.heap.size < B1) (h2 : B1 < B2) (h3 : B2 < B3) (h4 : B3 < B4) (s : ByteArray) (c' : Int) :
    LdI w B1 B2 B3 B4 d kb sb v D last c' ((A.setCell ⟨B3, 0, none⟩ (.string s)).setCell ⟨B4, 0, none⟩ (.int .i64 c')) := by
  have ht3 : Turned (· = B3) A (A.setCell ⟨B3, 0, none⟩ (.string s)) := (Turned.refl (· = B3) A).setCell (p := ⟨B3, 0, none⟩) rfl _
  have ht4 : Turned (· = B4) (A.setCell ⟨B3, 0, none⟩ (.string s)) ((A.setCell ⟨B3, 0, none⟩ (.string s)).setCell ⟨B4, 0, none⟩ (.int .i64 c')) := (Turned.refl (· = B4) _).setCell (p := ⟨B4, 0, none⟩) rfl _
  refine ⟨(h.disk.kept' ht3 (fun k e hf => by have := hD k hf; omega)).kept' ht4 (fun k e hf => by have := hD k hf; omega), ht4.heap (ht3.heap h.bx (by omega)) (by omega), ht4.heap (ht3.heap h.rs (by omega)) (by omega), ht4.heap (ht3.heap h.la (by omega)) (by omega), ?_, ?_, ?_⟩
  · obtain ⟨s0, hs⟩ := h.st
    exact ⟨s, ht4.heap (heap_setCell_at hs 0 _) (by omega)⟩
  · exact heap_setCell_at (ht3.heap h.er (by omega)) 0 _
  · exact (h.t.then ht3 (fun k hk e => by omega)).then ht4 (fun k hk e => by omega)
/-- A better meta is the last one. -/
theorem LdI.better (h : LdI w B1 B2 B3 B4 d kb sb v D last c A) (hD : ∀ k, Foot d kb sb v k → k < w.heap.size) (h1 : w.heap.size < B1) (h2 : B1 < B2) (h3 : B2 < B3) (h4 : B3 < B4) (m : Mt) :
    LdI w B1 B2 B3 B4 d kb sb v D m c ((((A.setCell ⟨B2, 0, none⟩ (.int .u64 m.tx)).setCell ⟨B2, 1, none⟩ (.int .u32 m.root)).setCell ⟨B2, 2, none⟩ (.int .u32 m.high)).setCell ⟨B2, 3, none⟩ (.int .u32 m.free)) := by
  have ht : Turned (· = B2) A ((((A.setCell ⟨B2, 0, none⟩ (.int .u64 m.tx)).setCell ⟨B2, 1, none⟩ (.int .u32 m.root)).setCell ⟨B2, 2, none⟩ (.int .u32 m.high)).setCell ⟨B2, 3, none⟩ (.int .u32 m.free)) :=
    ((((Turned.refl (· = B2) A).setCell (p := ⟨B2, 0, none⟩) rfl _).setCell (p := ⟨B2, 1, none⟩) rfl _).setCell (p := ⟨B2, 2, none⟩) rfl _).setCell (p := ⟨B2, 3, none⟩) rfl _
  exact ⟨h.disk.kept' ht (fun k e hf => by have := hD k hf; omega), ht.heap h.bx (by omega), ht.heap h.rs (by omega), set4 h.la _ _ _ _, h.st.imp fun _ k => ht.heap k (by omega), ht.heap h.er (by omega), h.t.then ht (fun k hk e => by omega)⟩
end

theorem cell_one {w : World} {b : Nat} {x : Value} {t : TypeId} {fr : Nat × Nat} (h : w.heap[b]? = some (.cells #[x] t fr)) : w.cell? ⟨b, 0, none⟩ = some x := by simp [World.cell?, h]
set_option maxRecDepth 20000 in
set_option maxHeartbeats 4000000 in
theorem mload_any {w : World} {d kb sb : Nat} {v : Value} {D : Dk} (h : DiskAt w d kb sb v D) :
    Calls Try.prog 40 #[.pointer (some ⟨d, 0, none⟩)] w fun e w' => e = .returned (loadMV D) ∧ Below w.heap.size w w' := by
  refine calls_of_wp_marks Try.func40 rfl ?_
  simp only [Try.ntmps40, List.size_toArray, List.length_cons, List.length_nil, Nat.reduceAdd, Nat.reduceSub, Array.replicate_succ, Array.replicate_zero, List.push_toArray, List.append_toArray, List.nil_append, List.cons_append]
  have HH := Lib.hid h
  have hdw : d < w.heap.size := h.dlt
  clear h
  go_wp2
  go_step3
  go_wp2
  go_step3
  go_wp2_with (go_at_call 68; refine (places_any _).mono ?_; rintro e w1 ⟨rfl, hw1⟩)
  obtain ⟨B1, e1⟩ : ∃ B1, w.heap.size + 1 = B1 := ⟨_, rfl⟩
  obtain ⟨B2, e2⟩ : ∃ B2, B1 + 1 = B2 := ⟨_, rfl⟩
  obtain ⟨B3, e3⟩ : ∃ B3, B2 + 1 = B3 := ⟨_, rfl⟩
  obtain ⟨B4, e4⟩ : ∃ B4, B3 + 1 = B4 := ⟨_, rfl⟩
  have hI : LdI w B1 B2 B3 B4 d kb sb v D Mt.zero 0 w1 := by
    rw [← hw1]
    refine ⟨HH.out.kept' ((((((Turned.refl (fun _ => False) w).alloc _).alloc _).alloc _).alloc _).alloc _) (fun _ => False.elim), ?_, ?_, ?_, ⟨⟨#[]⟩, ?_⟩, ?_, (((((Turned.refl (fun _ => False) w).alloc _).alloc _).alloc _).alloc _).alloc _⟩
    all_goals
      simp only [heap_alloc_if, World.size_alloc]
      repeat (first | rw [if_neg (by omega)] | rw [if_pos (by first | trivial | omega)])
    all_goals rfl
  have hz1 : w1.heap.size = B4 + 1 := by rw [← hw1]; simp; omega
  have hfoot : ∀ k, Foot d kb sb v k → k < w.heap.size := fun k hk => HH.out.flt hk
  have HW : Veil (w.heap.size < B1 ∧ B1 < B2 ∧ B2 < B3 ∧ B3 < B4) := ⟨by omega⟩
  have HZ : Veil (w1.heap.size = B4 + 1) := ⟨hz1⟩
  rw [e1, e2, e3, e4]
  clear hw1 e1 e2 e3 e4 hz1
  have h1L : 1 ≤ D.kept.length := HH.out.ok.some
  refine wp_range_break (gf := 87) (lb := #[]) rfl (enters_of Try.func87 (by kernel_rfl) rfl)
    places_seq (fun k => rfl)
    (fun k A => LdI w B1 B2 B3 B4 d kb sb v D (lastM D k) 0 A ∧ ∀ i, i < k → i * 4 < D.kept.length)
    (fun A => ∃ last c, LdI w B1 B2 B3 B4 d kb sb v D last c A ∧ ((4 < D.kept.length ∧ c = 0 ∧ last = lastM D 2) ∨ (¬ 4 < D.kept.length ∧ c = 10))) ?hI ?hE ?hF ?h0 ?hN ?hround ?hend
  case hI => rintro k A A' ⟨h1, h3⟩ hb; exact ⟨h1.booked hb (by have := HW.out; have := HZ.out; omega), h3⟩
  case hE => rintro A A' ⟨last, c, h1, h2⟩ hb; exact ⟨last, c, h1.booked hb (by have := HW.out; have := HZ.out; omega), h2⟩
  case hF => rintro k A _; trivial
  case h0 => exact ⟨hI, fun i hi => absurd hi (by omega)⟩
  case hN =>
    rintro A ⟨h1, h3⟩
    exact ⟨_, _, h1, .inl ⟨by have := h3 1 (by omega); omega, rfl, rfl⟩⟩
  case hround =>
    rintro l m k A hl hlt ⟨hi, hr⟩
    simp only [handsM, List.zip_cons_cons, List.zip_nil_right, List.foldl_cons, List.foldl_nil, List.setIfInBounds_toArray, List.set_cons_succ, List.set_cons_zero]
    obtain ⟨sec, hsec⟩ : ∃ sec, k * 4 = sec := ⟨_, rfl⟩
    rw [hsec]
    have HS : Veil _ := ⟨hsec⟩
    have HR : Veil _ := ⟨hr⟩
    clear hI hr
    gi_wp2
    refine ⟨KeepsFrom.refl _ _, fun A2 hbk hsz => ?_⟩
    have hi2 := hi.booked hbk (by have := HW.out; have := HZ.out; omega)
    clear hi hbk hsz
    have HI2 : Veil _ := ⟨hi2⟩
    have c0 : A2.cell? ⟨w.heap.size, 0, none⟩ = some (.pointer (some ⟨d, 0, none⟩)) := by simp [World.cell?, hi2.bx]
    clear hi2
    by_cases hin : sec < D.kept.length
    · obtain ⟨s, hs⟩ : ∃ s, D.seen[sec]? = some s := ⟨_, List.getElem?_eq_getElem (by rw [HI2.out.disk.ok.len]; exact hin)⟩
      have HSE : Veil _ := ⟨hs⟩
      clear hs
      have hsl : s.length = 64 := HI2.out.disk.ok.s64 s (List.mem_of_getElem? HSE.out)
      have hlast : Veil (lastM D (k + 1) = betterM (lastM D k) (heldM s k)) := ⟨by rw [lastM, HS.out, List.getD, HSE.out]; rfl⟩
      have HHe : Veil (∀ w, Calls Try.prog 69 #[.string ⟨s.toArray⟩, .int .i64 (sec : Nat)] w fun e w' => e = .returned (heldM s k).v ∧ Below w.heap.size w w') := ⟨by rw [← hsec]; exact held_any s k (by omega)⟩
      have HRd : Veil _ := ⟨read_any HI2.out.disk sec s HSE.out⟩
      generalize lastM D k = la at *
      generalize heldM s k = mm at *
      obtain ⟨T, a, hh, f⟩ := mm
      unfold Mt.v at HHe
      dsimp only at HHe
      clear hsl hsec
      have n34 : B3 ≠ B4 := by have := HW.out; omega
      have n43 : B4 ≠ B3 := fun e => n34 e.symm
      gi_wp2_with (first
        | (refine calls_round ?_; refine HRd.out.mono ?_; rintro e w2 ⟨rfl, hb2⟩; have HI3 : Veil _ := ⟨HI2.out.new (Turned.new hb2)⟩; obtain ⟨s3, hs3⟩ := HI3.out.st; have q3 := cell_one hs3; have g3 : w2.frozen? ⟨B3, 0, none⟩ = false := frozen_whole hs3 _; have q4 := cell_one HI3.out.er; clear hs3; have g4 : w2.frozen? ⟨B4, 0, none⟩ = false := frozen_whole HI3.out.er _)
        | fail)
      have hW := HW.out
      have HI4 : Veil _ := ⟨HI3.out.told hfoot hW.1 hW.2.1 hW.2.2.1 hW.2.2.2 ⟨s.toArray⟩ 0⟩
      have hT4 : Turned (fun j => j = B2 ∨ j = B3 ∨ j = B4) A2 ((w2.setCell ⟨B3, 0, none⟩ (.string ⟨s.toArray⟩)).setCell ⟨B4, 0, none⟩ (.int .i64 0)) := ((Turned.new hb2 : Turned (fun j => j = B2 ∨ j = B3 ∨ j = B4) A2 w2).setCell (p := ⟨B3, 0, none⟩) (.inr (.inl rfl)) _).setCell (p := ⟨B4, 0, none⟩) (.inr (.inr rfl)) _
      have HT4 : Veil _ := ⟨hT4⟩
      clear q3 g3 q4 g4 hb2 hT4 c0
      revert HI4 HT4
      generalize (w2.setCell ⟨B3, 0, none⟩ (.string ⟨s.toArray⟩)).setCell ⟨B4, 0, none⟩ (.int .i64 0) = X4
      intro HI4 HT4
      refine calls_round ?_
      refine (HHe.out _).mono ?_
      rintro e w4 ⟨rfl, hb4⟩
      have HI5 : Veil _ := ⟨HI4.out.new (Turned.new hb4)⟩
      have HT5 : Veil (Turned (fun j => j = B2 ∨ j = B3 ∨ j = B4) A2 w4) := ⟨HT4.out.trans (Turned.new hb4)⟩
      have hz4 : B2 < w4.heap.size := lt_of_heap HI5.out.la
      obtain ⟨⟨y0, y1, y2, y3⟩, f0, f1, f2, f3⟩ := pack4 HI5.out.la
      clear hb4 HI4 HT4 hW
      by_cases hc : la.tx < T
      · have hcI : (la.tx : Int) < (T : Int) := by omega
        have HLA : Veil (lastM D (k + 1) = ⟨T, a, hh, f⟩) := ⟨by rw [hlast.out]; exact if_pos hc⟩
        clear hc
        gi_wp2
        have hT := (((((HT5.out.setCell (p := ⟨B2, 0, none⟩) (.inl rfl) (.int .u64 T)).setCell (p := ⟨B2, 1, none⟩) (.inl rfl) (.int .u32 a)).setCell (p := ⟨B2, 2, none⟩) (.inl rfl) (.int .u32 hh)).setCell (p := ⟨B2, 3, none⟩) (.inl rfl) (.int .u32 f)).alloc (.cells #[.int .u64 T, .int .u32 a, .int .u32 hh, .int .u32 f] 60))
        have hW := HW.out
        refine ⟨keepsFrom_turned hT (fun j hj => .inl (by have := HZ.out; omega)), ?_, fun i hi => ?_⟩
        · rw [HLA.out]
          exact (HI5.out.better hfoot hW.1 hW.2.1 hW.2.2.1 hW.2.2.2 ⟨T, a, hh, f⟩).new ((Turned.refl _ _).alloc _)
        · rcases Nat.lt_or_eq_of_le (Nat.le_of_lt_succ hi) with h | h
          · exact HR.out i h
          · rw [h, HS.out]; exact hin
      · have hcI : ¬ (la.tx : Int) < (T : Int) := by omega
        have HLA : Veil (lastM D (k + 1) = la) := ⟨by rw [hlast.out]; exact if_neg hc⟩
        clear hc
        gi_wp2
        have hT := HT5.out.alloc (.cells #[.int .u64 T, .int .u32 a, .int .u32 hh, .int .u32 f] 60)
        have hW := HW.out
        refine ⟨keepsFrom_turned hT (fun j hj => .inl (by have := HZ.out; omega)), ?_, fun i hi => ?_⟩
        · rw [HLA.out]
          exact HI5.out.new ((Turned.refl _ _).alloc _)
        · rcases Nat.lt_or_eq_of_le (Nat.le_of_lt_succ hi) with h | h
          · exact HR.out i h
          · rw [h, HS.out]; exact hin
    · have n34 : B3 ≠ B4 := by have := HW.out; omega
      have n43 : B4 ≠ B3 := fun e => n34 e.symm
      gi_wp2_with (refine calls_round ?_; refine (read_bad HI2.out.disk sec (.inr (by omega))).mono ?_; rintro e w2 ⟨rfl, hb2⟩; have HI3 : Veil _ := ⟨HI2.out.new (Turned.new hb2)⟩; obtain ⟨s3, hs3⟩ := HI3.out.st; have q3 := cell_one hs3; have g3 : w2.frozen? ⟨B3, 0, none⟩ = false := frozen_whole hs3 _; have q4 := cell_one HI3.out.er; clear hs3; have g4 : w2.frozen? ⟨B4, 0, none⟩ = false := frozen_whole HI3.out.er _)
      have hW := HW.out
      have hT4 := ((Turned.new hb2 : Turned (fun j => j = B2 ∨ j = B3 ∨ j = B4) A2 w2).setCell (p := ⟨B3, 0, none⟩) (.inr (.inl rfl)) (.string ⟨#[]⟩)).setCell (p := ⟨B4, 0, none⟩) (.inr (.inr rfl)) (.int .i64 10)
      refine ⟨keepsFrom_turned hT4 (fun j hj => .inl (by have := HZ.out; omega)), rfl, lastM D k, 10, HI3.out.told hfoot hW.1 hW.2.1 hW.2.2.1 hW.2.2.2 ⟨#[]⟩ 10, .inr ⟨by omega, rfl⟩⟩
  case hend =>
    rintro Dd A hDd ⟨last, c, h1, h2⟩ hdd
    have H1 : Veil _ := ⟨h1⟩
    have HD : Veil _ := ⟨hdd⟩
    have q4 := cell_one h1.er
    obtain ⟨⟨r0, r1, r2, r3⟩, g0, g1, g2, g3⟩ := pack4 h1.rs
    obtain ⟨⟨y0, y1, y2, y3⟩, -⟩ := pack4 h1.la
    clear h1 hdd hI
    try dsimp only
    rcases h2 with ⟨hin, rfl, hl⟩ | ⟨hin, rfl⟩
    · rcases lastM_or D 2 with h0 | h0
      · have HV : Veil (loadMV D = .tuple #[Mt.zero.v, .int .i64 40]) := ⟨by rw [loadMV, if_pos hin, if_pos (by rw [h0]; rfl)]⟩
        rw [h0] at hl
        subst hl
        go_wp2
        try rw [Exit.noGoto_ret]
        have hT : Turned (· = B1) A ((((A.setCell ⟨B1, 0, none⟩ (.int .u64 0)).setCell ⟨B1, 1, none⟩ (.int .u32 0)).setCell ⟨B1, 2, none⟩ (.int .u32 0)).setCell ⟨B1, 3, none⟩ (.int .u32 0)) := ((((Turned.refl (· = B1) A).setCell (p := ⟨B1, 0, none⟩) rfl _).setCell (p := ⟨B1, 1, none⟩) rfl _).setCell (p := ⟨B1, 2, none⟩) rfl _).setCell (p := ⟨B1, 3, none⟩) rfl _
        refine leaves_mark (D := Dd) (B := w.heap.size) (set4_ne HD.out (by have := HW.out; have := HZ.out; omega) _ _ _ _) (by have := HW.out; have := HZ.out; omega) ?_
        intro w' hb _
        refine leaves_none (results_meta2 (g := B1) rfl rfl rfl (hb.heap (set4 H1.out.rs _ _ _ _))) ⟨by rw [HV.out]; rfl, ?_⟩
        exact (hb.turned (H1.out.t.then hT (fun k hk e => by have := HW.out; omega)) (Nat.le_refl _)).toBelow (Nat.le_refl _) (fun _ _ h => h.elim)
      · have HV : Veil (loadMV D = .tuple #[last.v, .int .i64 0]) := ⟨by rw [loadMV, if_pos hin, if_neg (by omega), hl]⟩
        have ht : 1 ≤ last.tx := by rw [hl]; exact h0
        clear hl h0
        obtain ⟨T, a, hh, f⟩ := last
        dsimp only at ht
        unfold Mt.v at HV
        dsimp only at HV
        have ht0 : ((T : Int) == 0) = false := by simp; omega
        clear ht
        go_wp2
        try rw [Exit.noGoto_ret]
        have hT : Turned (· = B1) A ((((A.setCell ⟨B1, 0, none⟩ (.int .u64 T)).setCell ⟨B1, 1, none⟩ (.int .u32 a)).setCell ⟨B1, 2, none⟩ (.int .u32 hh)).setCell ⟨B1, 3, none⟩ (.int .u32 f)) := ((((Turned.refl (· = B1) A).setCell (p := ⟨B1, 0, none⟩) rfl _).setCell (p := ⟨B1, 1, none⟩) rfl _).setCell (p := ⟨B1, 2, none⟩) rfl _).setCell (p := ⟨B1, 3, none⟩) rfl _
        refine leaves_mark (D := Dd) (B := w.heap.size) (set4_ne HD.out (by have := HW.out; have := HZ.out; omega) _ _ _ _) (by have := HW.out; have := HZ.out; omega) ?_
        intro w' hb _
        refine leaves_none (results_meta2 (g := B1) rfl rfl rfl (hb.heap (set4 H1.out.rs _ _ _ _))) ⟨by rw [HV.out]; rfl, ?_⟩
        exact (hb.turned (H1.out.t.then hT (fun k hk e => by have := HW.out; omega)) (Nat.le_refl _)).toBelow (Nat.le_refl _) (fun _ _ h => h.elim)
    · have HV : Veil (loadMV D = .tuple #[Mt.zero.v, .int .i64 10]) := ⟨by rw [loadMV, if_neg hin]⟩
      go_wp2
      have n41 : B4 ≠ B1 := by have := HW.out; omega
      have qd : A.drew.cell? ⟨B4, 0, none⟩ = some (.int .i64 10) := q4
      go_region_held3 (fun W => W.cell? ⟨B4, 0, none⟩ = some (.int .i64 10)) (first | assumption | exact cell4_ne qd n41 _ _ _ _) (fail)
      go_wp2
      try rw [Exit.noGoto_ret]
      have hT : Turned (· = B1) A (((((A.setCell ⟨B1, 0, none⟩ (.int .u64 0)).setCell ⟨B1, 1, none⟩ (.int .u32 0)).setCell ⟨B1, 2, none⟩ (.int .u32 0)).setCell ⟨B1, 3, none⟩ (.int .u32 0)).drew) := (((((Turned.refl (· = B1) A).setCell (p := ⟨B1, 0, none⟩) rfl _).setCell (p := ⟨B1, 1, none⟩) rfl _).setCell (p := ⟨B1, 2, none⟩) rfl _).setCell (p := ⟨B1, 3, none⟩) rfl _).drew
      refine leaves_mark (D := Dd) (B := w.heap.size) (set4_ne HD.out (by have := HW.out; have := HZ.out; omega) _ _ _ _) (by have := HW.out; have := HZ.out; omega) ?_
      intro w' hb _
      refine leaves_none (results_meta2 (g := B1) rfl rfl rfl (hb.heap (set4 H1.out.rs _ _ _ _))) ⟨by rw [HV.out]; rfl, ?_⟩
      exact (hb.turned (H1.out.t.then hT (fun k hk e => by have := HW.out; omega)) (Nat.le_refl _)).toBelow (Nat.le_refl _) (fun _ _ h => h.elim)
end Go.Proofs.Ytghpcjkjhbafnaa

/- Metas and bytes are one to one: reckoning; a disk that the law itself has made. -/
namespace Go.Proofs.Ytghpcjkjhbafnaa
open Go Go.RowKit Sm

theorem segsM (a b c d r : List UInt8) (ha : a.length = 8) (hb : b.length = 4) (hc : c.length = 4) (hd : d.length = 4) :
    (a ++ (b ++ (c ++ (d ++ r)))).take 8 = a ∧ ((a ++ (b ++ (c ++ (d ++ r)))).drop 8).take 4 = b ∧ ((a ++ (b ++ (c ++ (d ++ r)))).drop 12).take 4 = c ∧ ((a ++ (b ++ (c ++ (d ++ r)))).drop 16).take 4 = d := by
  have h1 : (a ++ (b ++ (c ++ (d ++ r)))).drop 8 = b ++ (c ++ (d ++ r)) := List.drop_left' ha
  have h5 : (a ++ (b ++ (c ++ (d ++ r)))).drop 12 = c ++ (d ++ r) := by
    rw [show 12 = 8 + 4 from rfl, ← List.drop_drop, h1]; exact List.drop_left' hb
  have h13 : (a ++ (b ++ (c ++ (d ++ r)))).drop 16 = d ++ r := by
    rw [show 16 = 12 + 4 from rfl, ← List.drop_drop, h5]; exact List.drop_left' hc
  rw [h1, h5, h13]
  exact ⟨List.take_left' ha, List.take_left' hb, List.take_left' hc, List.take_left' hd⟩
theorem Mt.enc_form (m : Mt) : m.enc = putB m.tx 8 ++ (putB m.root 4 ++ (putB m.high 4 ++ (putB m.free 4 ++ (List.replicate 36 0 ++ putB m.tx 8)))) := by
  simp [Mt.enc, List.append_assoc]
theorem Mt.of_enc (m : Mt) (hm : m.Ok) : Mt.of m.enc = m := by
  obtain ⟨s1, s2, s3, s4⟩ := segsM (putB m.tx 8) (putB m.root 4) (putB m.high 4) (putB m.free 4) (List.replicate 36 0 ++ putB m.tx 8) (by simp) (by simp) (by simp) (by simp)
  rw [← m.enc_form] at s1 s2 s3 s4
  have p4 : (256 : Nat) ^ 4 = 4294967296 := rfl
  have p8 : (256 : Nat) ^ 8 = 18446744073709551616 := rfl
  unfold Mt.of
  rw [s1, s2, s3, s4, getB_putB _ _ (by decide) (by rw [p8]; exact hm.tx), getB_putB _ _ (by decide) (by rw [p4]; exact hm.root), getB_putB _ _ (by decide) (by rw [p4]; exact hm.high), getB_putB _ _ (by decide) (by rw [p4]; exact hm.free)]
theorem Mt.back (m : Mt) (hm : m.Ok) (hr : m.right = true) : isMt m.enc = true := by
  unfold isMt
  rw [m.of_enc hm, hr, m.enc_len]
  simp
theorem heldM_same (m : Mt) (hm : m.Ok) (hr : m.right = true) : heldM m.enc (m.tx % 2) = m := by
  unfold heldM
  rw [m.of_enc hm, m.back hm hr]
  simp
theorem isMt_right (s : List UInt8) (h : isMt s = true) : (Mt.of s).right = true ∧ (Mt.of s).enc = s := by
  simp only [isMt, Bool.and_eq_true, decide_eq_true_eq] at h
  exact ⟨h.1.2, h.2⟩

/-- What a store leaves, and tells. -/
def stoD (D : Dk) (m : Mt) : Dk := if m.right then D.wr (secM m.tx : Nat) m.enc else D
def stoC (D : Dk) (m : Mt) : Int := if m.right then D.wrc (secM m.tx : Nat) m.enc else 40
theorem stoC_big (D : Dk) (h : 4 < D.kept.length) (m : Mt) : stoC D m = if m.right then 0 else 40 := by
  unfold stoC Dk.wrc
  have := secM_lt m.tx
  rw [if_pos (show (0 : Int) ≤ ((secM m.tx : Nat) : Int) ∧ ((secM m.tx : Nat) : Int) < (D.kept.length : Int) by omega), if_pos (show m.enc.length ≤ 64 by rw [m.enc_len]; exact Nat.le_refl _)]
theorem stoD_kept (D : Dk) (m : Mt) : (stoD D m).kept = D.kept := by
  unfold stoD; split
  · exact wr_keeps _ _ _
  · rfl
theorem stoD_few (D : Dk) (m : Mt) : (stoD D m).uns.length ≤ D.uns.length + 1 ∧ (stoD D m).ops ≤ D.ops + 1 := by
  unfold stoD; split
  · exact wr_few _ _ _
  · omega
theorem pad_full (s : List UInt8) (h : s.length = 64) : pad s = s := by simp [pad, h]
/-- A sector behind a store. -/
theorem stoD_seen (D : Dk) (hs : D.seen.length = D.kept.length) (h : 4 < D.kept.length) (m : Mt) (hr : m.right = true) (k : Nat) (hk : k < 2) : (stoD D m).seen.getD (k * 4) [] = if m.tx % 2 = k then m.enc else D.seen.getD (k * 4) [] := by
  have hl := secM_lt m.tx
  unfold stoD Dk.wr
  rw [if_pos hr, if_pos (show (0 : Int) ≤ ((secM m.tx : Nat) : Int) ∧ ((secM m.tx : Nat) : Int) < (D.kept.length : Int) ∧ m.enc.length ≤ 64 by rw [m.enc_len]; omega)]
  show ((D.seen.set (((secM m.tx : Nat) : Int)).toNat (pad m.enc)).getD (k * 4) []) = _
  rw [Int.toNat_natCast, pad_full _ m.enc_len]
  unfold secM at *
  by_cases e : m.tx % 2 = k
  · subst e
    rw [if_pos rfl]
    simp only [List.getD]
    rw [List.getElem?_set_self (by omega)]
    rfl
  · rw [if_neg e]
    simp only [List.getD]
    rw [List.getElem?_set_ne (by omega)]

/-- A disk that the law itself has made. -/
def MyD (w : World) (d kb sb : Nat) (D : Dk) (A : World) : Prop := ∃ v, DiskAt A d kb sb v D ∧ From w.heap.size d kb sb v ∧ Below w.heap.size w A
section
variable {w A A' : World} {d kb sb : Nat} {D : Dk}
theorem MyD.in (h : MyD w d kb sb D A) : Below w.heap.size w A := h.choose_spec.2.2
theorem MyD.ok (h : MyD w d kb sb D A) : D.Ok := h.choose_spec.1.ok
theorem MyD.new {n : Nat} {e : Ending} (hb : Below w.heap.size w A) (h : NewPost A n e A') : ∃ d kb sb, e = .returned (.tuple #[.pointer (some ⟨d, 0, none⟩), .int .i64 0]) ∧ MyD w d kb sb (Dk.new n) A' ∧ Below A.heap.size A A' := by
  obtain ⟨d, kb, sb, he, hD, hb2, h1, h2, h3⟩ := h
  have := hb.size
  exact ⟨d, kb, sb, he, ⟨_, hD, From.new (by omega) (by omega) (by omega), hb.trans (hb2.mono hb.size)⟩, hb2⟩
theorem MyD.below (h : MyD w d kb sb D A) (hb : Below A.heap.size A A') : MyD w d kb sb D A' := by
  obtain ⟨v, hD, hF, hB⟩ := h
  exact ⟨v, hD.kept' (Turned.new hb : Turned (fun _ => False) A A') (fun _ => False.elim), hF, hB.trans (hb.mono hB.size)⟩
/-- What else the law has made, from B0 on below the disk's blocks, or elsewhere. -/
theorem MyD.turned {F : Nat → Prop} (h : MyD w d kb sb D A) (ht : Turned F A A') (h1 : ∀ k, F k → w.heap.size ≤ k) (h2 : ∀ v, DiskAt A d kb sb v D → ∀ k, F k → ¬ Foot d kb sb v k) : MyD w d kb sb D A' := by
  obtain ⟨v, hD, hF, hB⟩ := h
  exact ⟨v, hD.kept' ht (h2 v hD), hF, hB.trans (ht.toBelow hB.size (fun k _ hk => h1 k hk))⟩
theorem MyD.post {e : Ending} {r : Value} {D' : Dk} {v : Value} (hF : From w.heap.size d kb sb v) (hB : Below w.heap.size w A) (h : DiskPost A d kb sb v D' r e A') : e = .returned r ∧ MyD w d kb sb D' A' := by
  obtain ⟨he, v', hD', hT, hv⟩ := h
  exact ⟨he, v', hD', hF.next hB.size hv, hF.below hB (Nat.le_refl _) hT⟩
theorem mstore_my (h : MyD w d kb sb D A) (m : Mt) (hm : m.Ok) (hu : D.uns.length < 1000000000000) (ho : D.ops < 1000000000000000) :
    Calls Try.prog 36 #[.pointer (some ⟨d, 0, none⟩), m.v] A fun e w' => e = .returned (.int .i64 (stoC D m)) ∧ MyD w d kb sb (stoD D m) w' := by
  unfold stoC stoD
  cases hr : m.right
  · refine (mstore_bad m hm hr _ A).mono fun e w' ⟨he, hb⟩ => ⟨he, h.below hb⟩
  · obtain ⟨v, hD, hF, hB⟩ := h
    exact (mstore_good hD m hm hr hu ho).mono fun e w' hp => MyD.post hF hB hp
theorem mload_my (h : MyD w d kb sb D A) : Calls Try.prog 40 #[.pointer (some ⟨d, 0, none⟩)] A fun e w' => e = .returned (loadMV D) ∧ MyD w d kb sb D w' ∧ Below A.heap.size A w' := by
  obtain ⟨v, hD, hF, hB⟩ := h
  exact (mload_any hD).mono fun e w' ⟨he, hb⟩ => ⟨he, MyD.below ⟨v, hD, hF, hB⟩ hb, hb⟩
end
end Go.Proofs.Ytghpcjkjhbafnaa

/- The laws' own helper: shown. -/
namespace Go.Proofs.Ytghpcjkjhbafnaa
open Go Go.RowKit Sm
attribute [local go_sem] Oper.semAt_some

def exM1 : Mt := ⟨1, 0, 2, 0⟩
def exM2 : Mt := ⟨2, 2, 3, 0⟩
theorem zero_held (k : Nat) : heldM zero64 k = Mt.zero := by
  have : isMt zero64 = false := by decide +kernel
  unfold heldM
  rw [this]
  rfl
theorem lastM_new (n : Nat) (h : 4 < n) : lastM (Dk.new n) 2 = Mt.zero := by
  have e : ∀ k, k < 2 → (Dk.new n).seen.getD (k * 4) [] = zero64 := fun k hk => by
    simp only [Dk.new, List.getD]
    rw [List.getElem?_replicate, if_pos (by omega)]
    rfl
  show betterM (betterM Mt.zero (heldM ((Dk.new n).seen.getD (0 * 4) []) 0)) (heldM ((Dk.new n).seen.getD (1 * 4) []) 1) = _
  rw [e 0 (by decide), e 1 (by decide), zero_held, zero_held]
  rfl
theorem lastM_two (D : Dk) : lastM D 2 = betterM (betterM Mt.zero (heldM (D.seen.getD (0 * 4) []) 0)) (heldM (D.seen.getD (1 * 4) []) 1) := rfl
theorem loadMV_zero (D : Dk) (h : 4 < D.kept.length) (h0 : lastM D 2 = Mt.zero) : loadMV D = .tuple #[.agg #[.int .u64 0, .int .u32 0, .int .u32 0, .int .u32 0], .int .i64 40] := by
  rw [loadMV, if_pos h, h0, if_pos (by rfl)]; rfl
theorem loadMV_some (D : Dk) (h : 4 < D.kept.length) (h1 : 1 ≤ (lastM D 2).tx) : loadMV D = .tuple #[(lastM D 2).v, .int .i64 0] := by
  rw [loadMV, if_pos h, if_neg (by omega)]
theorem new_len (n : Nat) : (Dk.new n).kept.length = n := by simp [Dk.new]

theorem ex_last : lastM (stoD (stoD (Dk.new 8) exM1) exM2) 2 = exM2 := by
  have o1 : exM1.Ok := ⟨by decide, by decide, by decide, by decide⟩
  have o2 : exM2.Ok := ⟨by decide, by decide, by decide, by decide⟩
  have r1 : exM1.right = true := by decide
  have r2 : exM2.right = true := by decide
  have k1 : (stoD (Dk.new 8) exM1).kept.length = 8 := by rw [stoD_kept, new_len]
  have s0 : (stoD (Dk.new 8) exM1).seen.length = (stoD (Dk.new 8) exM1).kept.length := by
    unfold stoD Dk.wr
    rw [if_pos r1]
    split
    · simp [Dk.write, Dk.new]
    · simp [Dk.new]
  rw [lastM_two, stoD_seen _ s0 (by rw [k1]; decide) exM2 r2 0 (by decide), stoD_seen _ s0 (by rw [k1]; decide) exM2 r2 1 (by decide), if_pos (by decide), if_neg (by decide), stoD_seen _ (by simp [Dk.new]) (by simp [Dk.new]) exM1 r1 1 (by decide), if_pos (by decide)]
  have h2 : heldM exM2.enc 0 = exM2 := heldM_same exM2 o2 r2
  have h1 : heldM exM1.enc 1 = exM1 := heldM_same exM1 o1 r1
  rw [h1, h2]
  rfl

set_option maxRecDepth 20000 in
set_option maxHeartbeats 2000000 in
theorem shown4_any (w : World) : Calls Try.prog 29 #[] w fun e w' => e = .returned (.bool true) ∧ Below w.heap.size w w' := by
  have o1 : exM1.Ok := ⟨by decide, by decide, by decide, by decide⟩
  have o2 : exM2.Ok := ⟨by decide, by decide, by decide, by decide⟩
  have L0 : Veil (∀ (A : World) (d kb sb : Nat), MyD w d kb sb (Dk.new 8) A → Calls Try.prog 40 #[.pointer (some ⟨d, 0, none⟩)] A fun e w' => e = .returned (.tuple #[.agg #[.int .u64 0, .int .u32 0, .int .u32 0, .int .u32 0], .int .i64 40]) ∧ MyD w d kb sb (Dk.new 8) w' ∧ Below A.heap.size A w') := ⟨fun A d kb sb h => by
    have := mload_my h
    rwa [loadMV_zero _ (by rw [new_len]; decide) (lastM_new 8 (by decide))] at this⟩
  have S1 : Veil (∀ (A : World) (d kb sb : Nat), MyD w d kb sb (Dk.new 8) A → Calls Try.prog 36 #[.pointer (some ⟨d, 0, none⟩), .agg #[.int .u64 1, .int .u32 0, .int .u32 2, .int .u32 0]] A fun e w' => e = .returned (.int .i64 0) ∧ MyD w d kb sb (stoD (Dk.new 8) exM1) w') := ⟨fun A d kb sb h => by
    have := mstore_my h exM1 o1 (by simp [Dk.new]) (by simp [Dk.new])
    rw [stoC_big _ (by rw [new_len]; decide), if_pos (by decide)] at this
    exact this⟩
  have S2 : Veil (∀ (A : World) (d kb sb : Nat), MyD w d kb sb (stoD (Dk.new 8) exM1) A → Calls Try.prog 36 #[.pointer (some ⟨d, 0, none⟩), .agg #[.int .u64 2, .int .u32 2, .int .u32 3, .int .u32 0]] A fun e w' => e = .returned (.int .i64 0) ∧ MyD w d kb sb (stoD (stoD (Dk.new 8) exM1) exM2) w') := ⟨fun A d kb sb h => by
    have hf := stoD_few (Dk.new 8) exM1
    have := mstore_my h exM2 o2 (by have : (Dk.new 8).uns.length = 0 := rfl; omega) (by have : (Dk.new 8).ops = 0 := rfl; omega)
    rw [stoC_big _ (by rw [stoD_kept, new_len]; decide), if_pos (by decide)] at this
    exact this⟩
  have L2 : Veil (∀ (A : World) (d kb sb : Nat), MyD w d kb sb (stoD (stoD (Dk.new 8) exM1) exM2) A → Calls Try.prog 40 #[.pointer (some ⟨d, 0, none⟩)] A fun e w' => e = .returned (.tuple #[.agg #[.int .u64 2, .int .u32 2, .int .u32 3, .int .u32 0], .int .i64 0]) ∧ MyD w d kb sb (stoD (stoD (Dk.new 8) exM1) exM2) w' ∧ Below A.heap.size A w') := ⟨fun A d kb sb h => by
    have := mload_my h
    rw [loadMV_some _ (by rw [stoD_kept, stoD_kept, new_len]; decide) (by rw [ex_last]; decide), ex_last] at this
    exact this⟩
  generalize stoD (stoD (Dk.new 8) exM1) exM2 = D2 at *
  generalize stoD (Dk.new 8) exM1 = D1 at *
  clear o1 o2
  go_enter Try.func29, Try.ntmps29
  go_wp2_with (first
    | (go_at_call 14; refine (new_any 8 (by decide) (by decide) _).mono ?_; intro e w1 hp1; obtain ⟨d, kb, sb, rfl, hM1, -⟩ := MyD.new (Below.refl _ w) hp1; have HM1 : Veil _ := ⟨hM1⟩; clear hM1 hp1)
    | (go_at_call 40; refine (L2.out _ _ _ _ HM4.out).mono ?_; rintro e w5 ⟨rfl, hM5, hb5⟩; have HM5 : Veil _ := ⟨hM5⟩; clear hM5)
    | (go_at_call 36; (with_reducible refine (S2.out _ _ _ _ HM3.out).mono ?_); rintro e w4 ⟨rfl, hM4⟩; have HM4 : Veil _ := ⟨hM4⟩; clear hM4)
    | (go_at_call 36; (with_reducible refine (S1.out _ _ _ _ (HM2.out.below (below_al (Below.refl _ _) _))).mono ?_); rintro e w3 ⟨rfl, hM3⟩; have HM3 : Veil _ := ⟨hM3⟩; clear hM3)
    | (go_at_call 40; refine (L0.out _ _ _ _ HM1.out).mono ?_; rintro e w2 ⟨rfl, hM2, hb2⟩; have HM2 : Veil _ := ⟨hM2⟩; clear hM2))
  go_ret
  exact ⟨rfl, below_al HM5.out.in _⟩

/-- A meta as it comes in. -/
theorem mt_of (x y z u : Int) (hx : (Lit.int IntKind.u64 x).wf = true) (hy : (Lit.int IntKind.u32 y).wf = true) (hz : (Lit.int IntKind.u32 z).wf = true) (hu : (Lit.int IntKind.u32 u).wf = true) : Value.agg #[.int .u64 x, .int .u32 y, .int .u32 z, .int .u32 u] = (⟨x.toNat, y.toNat, z.toNat, u.toNat⟩ : Mt).v := by
  have h0 := (Lit.wf_int_iff .u64 x).1 hx
  have h1 := (Lit.wf_int_iff .u32 y).1 hy
  have h2 := (Lit.wf_int_iff .u32 z).1 hz
  have h3 := (Lit.wf_int_iff .u32 u).1 hu
  simp [IntKind.min, IntKind.signed, IntKind.max, IntKind.bits] at h0 h1 h2 h3
  simp only [Mt.v]
  rw [show ((x.toNat : Nat) : Int) = x by omega, show ((y.toNat : Nat) : Int) = y by omega, show ((z.toNat : Nat) : Int) = z by omega, show ((u.toNat : Nat) : Int) = u by omega]
theorem mt_ok (x y z u : Int) (hx : (Lit.int IntKind.u64 x).wf = true) (hy : (Lit.int IntKind.u32 y).wf = true) (hz : (Lit.int IntKind.u32 z).wf = true) (hu : (Lit.int IntKind.u32 u).wf = true) : (⟨x.toNat, y.toNat, z.toNat, u.toNat⟩ : Mt).Ok := by
  have h0 := (Lit.wf_int_iff .u64 x).1 hx
  have h1 := (Lit.wf_int_iff .u32 y).1 hy
  have h2 := (Lit.wf_int_iff .u32 z).1 hz
  have h3 := (Lit.wf_int_iff .u32 u).1 hu
  simp [IntKind.min, IntKind.signed, IntKind.max, IntKind.bits] at h0 h1 h2 h3
  refine ⟨?_, ?_, ?_, ?_⟩ <;> simp only <;> omega
end Go.Proofs.Ytghpcjkjhbafnaa

/- The law that what is stored with the next Tx is loaded: MetaTurns. -/
namespace Go.Proofs.Ytghpcjkjhbafnaa
open Go Go.RowKit Sm
attribute [local go_sem] Oper.semAt_some

/-- A slice of them in memory. -/
def Metas (w : World) (p : Option Addr) (l : List Mt) : Prop :=
  l ≠ [] → ∃ b off, p = some ⟨b, off, none⟩ ∧ ∀ i x, l[i]? = some x → x.Ok ∧ w.cell? ⟨b, off + i * 4, none⟩ = some (.int .u64 x.tx) ∧ w.cell? ⟨b, off + i * 4 + 1, none⟩ = some (.int .u32 x.root) ∧ w.cell? ⟨b, off + i * 4 + 2, none⟩ = some (.int .u32 x.high) ∧ w.cell? ⟨b, off + i * 4 + 3, none⟩ = some (.int .u32 x.free)

/-- That one, with another Tx. -/
def Mt.at (m : Mt) (tx : Nat) : Mt := ⟨tx, m.root, m.high, m.free⟩
theorem Mt.at_ok (m : Mt) (h : m.Ok) (tx : Nat) (ht : tx < 18446744073709551616) : (m.at tx).Ok := ⟨ht, h.root, h.high, h.free⟩

set_option maxRecDepth 20000 in
set_option maxHeartbeats 2000000 in
theorem after_any (m : Mt) (tx : Nat) (w : World) : Calls Try.prog 42 #[m.v, .int .u64 tx] w fun e w' => e = .returned (m.at tx).v ∧ Below w.heap.size w w' := by
  obtain ⟨t, a, h, f⟩ := m
  unfold Mt.at Mt.v
  dsimp only
  go_enter Try.func42, Try.ntmps42
  go_wp2
  exact bodyPost_ret (results_meta (g := w.heap.size + 1) rfl rfl rfl (heap_alloc2_new _ _ _)) rfl ⟨rfl, below_al (below_al (Below.refl _ _) _) _⟩

/-- What stands in both sectors is older. -/
def SlotsLt (D : Dk) (T : Nat) : Prop := ∀ j, j < 2 → (heldM (D.seen.getD (j * 4) []) j).tx < T
theorem slots_new (n : Nat) (h : 4 < n) (T : Nat) (hT : 1 ≤ T) : SlotsLt (Dk.new n) T := fun j hj => by
  have e : (Dk.new n).seen.getD (j * 4) [] = zero64 := by
    simp only [Dk.new, List.getD]
    rw [List.getElem?_replicate, if_pos (by omega)]
    rfl
  rw [e, zero_held]
  exact hT
theorem turn_load (D : Dk) (hs : D.seen.length = D.kept.length) (h : 4 < D.kept.length) (m : Mt) (hm : m.Ok) (hr : m.right = true) (hl : SlotsLt D m.tx) : lastM (stoD D m) 2 = m ∧ SlotsLt (stoD D m) (m.tx + 1) := by
  have h1 : 1 ≤ m.tx := ((Mt.right_iff _).1 hr).1
  have s0 := stoD_seen D hs h m hr 0 (by decide)
  have s1 := stoD_seen D hs h m hr 1 (by decide)
  have hh := heldM_same m hm hr
  have l0 := hl 0 (by decide)
  have l1 := hl 1 (by decide)
  have hz : Mt.zero.tx = 0 := rfl
  have hp : m.tx % 2 = 0 ∨ m.tx % 2 = 1 := by omega
  rcases hp with hp | hp
  · rw [hp] at s0 s1 hh
    rw [if_pos rfl] at s0
    rw [if_neg (by decide)] at s1
    constructor
    · rw [lastM_two, s0, s1, hh]
      unfold betterM
      rw [if_pos (show Mt.zero.tx < m.tx by rw [hz]; omega), if_neg (by omega)]
    · intro j hj
      have : j = 0 ∨ j = 1 := by omega
      rcases this with rfl | rfl
      · rw [s0, hh]; omega
      · rw [s1]; omega
  · rw [hp] at s0 s1 hh
    rw [if_neg (by decide)] at s0
    rw [if_pos rfl] at s1
    constructor
    · rw [lastM_two, s0, s1, hh]
      unfold betterM
      by_cases hx : Mt.zero.tx < (heldM (D.seen.getD (0 * 4) []) 0).tx
      · rw [if_pos hx, if_pos (by omega)]
      · rw [if_neg hx, if_pos (by omega)]
    · intro j hj
      have : j = 0 ∨ j = 1 := by omega
      rcases this with rfl | rfl
      · rw [s0]; omega
      · rw [s1, hh]; omega

/-- A store beside a block that the law has just made. -/
theorem mstore_box {w A : World} {d kb sb : Nat} {D : Dk} (h : MyD w d kb sb D A) (c : Array Value) (T : TypeId) (m : Mt) (hm : m.Ok) (hu : D.uns.length < 1000000000000) (ho : D.ops < 1000000000000000) :
    Calls Try.prog 36 #[.pointer (some ⟨d, 0, none⟩), m.v] (A.alloc (.cells c T)) fun e w' => e = .returned (.int .i64 (stoC D m)) ∧ MyD w d kb sb (stoD D m) w' ∧ w'.heap[A.heap.size]? = some (.cells c T (0, 0)) := by
  have h' : MyD w d kb sb D (A.alloc (.cells c T)) := h.below (below_al (Below.refl _ _) _)
  unfold stoC stoD
  cases hr : m.right
  · refine (mstore_bad m hm hr _ _).mono fun e w' ⟨he, hb⟩ => ⟨he, h'.below hb, ?_⟩
    rw [hb.block _ (by simp)]
    exact heap_alloc_new _ _
  · obtain ⟨v0, hD0, hF, hB⟩ := h
    have hD : DiskAt (A.alloc (.cells c T)) d kb sb v0 D := hD0.kept' ((Turned.refl (fun _ => False) A).alloc _) (fun _ => False.elim)
    refine (mstore_good hD m hm hr hu ho).mono fun e w' hp => ?_
    obtain ⟨he, hM⟩ := MyD.post hF (below_al hB _) hp
    refine ⟨he, hM, ?_⟩
    obtain ⟨-, v', -, hT, -⟩ := hp
    exact hT.heap (heap_alloc_new _ _) (fun hf => by have := hD0.flt hf; omega)

def TurnI (w : World) (d kb sb k T : Nat) (A : World) : Prop := ∃ D, MyD w d kb sb D A ∧ D.kept.length = 5 ∧ D.uns.length ≤ k ∧ D.ops ≤ k ∧ SlotsLt D T

set_option maxRecDepth 20000 in
set_option maxHeartbeats 4000000 in
theorem metaTurns_any (p : Option Addr) (l : List Mt) (lc : Nat) (T0 : Nat) (w : World) (hA : Metas w p l) (hp : ∀ a, p = some a → a.block < w.heap.size) (_ : l.length ≤ 9223372036854775807) (hT0 : T0 < 18446744073709551616) :
    Calls Try.prog 11 #[.slice p l.length lc, .int .u64 T0] w fun e w' => e = .returned (.bool true) ∧ Below w.heap.size w w' := by
  have HA := Lib.hid hA
  have HP := Lib.hid hp
  clear hA hp
  obtain ⟨X, hX⟩ : ∃ X : Int, (T0 : Int) = X := ⟨_, rfl⟩
  have HX : Veil ((T0 : Int) = X) := ⟨hX⟩
  have HT0 : Veil (T0 < 18446744073709551616) := ⟨hT0⟩
  clear hT0
  have h3 : X = 0 ∨ (X ≠ 0 ∧ 1152921504606846976 < X) ∨ (X ≠ 0 ∧ ¬ 1152921504606846976 < X) := by omega
  rw [hX]
  clear hX
  rcases h3 with rfl | ⟨h1, h2⟩ | ⟨h1, h2⟩
  · go_enter Try.func11, Try.ntmps11
    go_wp2_with (first
      | (go_at_call 29; refine (shown4_any _).mono ?_; rintro e w1 ⟨rfl, hb1⟩)
      | (go_at_call 14; refine (new_any 5 (by decide) (by decide) _).mono ?_; intro e w2 hp2; obtain ⟨d, kb, sb, rfl, hM2, -⟩ := MyD.new hb1 hp2; have HM2 : Veil _ := ⟨hM2⟩; clear hM2 hp2))
    go_ret
    exact ⟨rfl, HM2.out.in⟩
  · have h1' : (X == 0) = false := by simpa using h1
    go_enter Try.func11, Try.ntmps11
    go_wp2_with (first
      | (go_at_call 29; refine (shown4_any _).mono ?_; rintro e w1 ⟨rfl, hb1⟩)
      | (go_at_call 14; refine (new_any 5 (by decide) (by decide) _).mono ?_; intro e w2 hp2; obtain ⟨d, kb, sb, rfl, hM2, -⟩ := MyD.new hb1 hp2; have HM2 : Veil _ := ⟨hM2⟩; clear hM2 hp2))
    go_ret
    exact ⟨rfl, HM2.out.in⟩
  · have h1' : (X == 0) = false := by simpa using h1
    go_enter Try.func11, Try.ntmps11
    go_wp2_with (first
      | (go_at_call 29; refine (shown4_any _).mono ?_; rintro e w1 ⟨rfl, hb1⟩)
      | (go_at_call 14; refine (new_any 5 (by decide) (by decide) _).mono ?_; intro e w2 hp2; obtain ⟨d, kb, sb, rfl, hM2, -⟩ := MyD.new hb1 hp2; have HM2 : Veil _ := ⟨hM2⟩; clear hM2 hp2)
      | fail)
    have HI : Veil (TurnI w d kb sb 0 T0 w2) := ⟨_, HM2.out, new_len 5, Nat.le_refl _, Nat.le_refl _, slots_new 5 (by decide) T0 (by have := HX.out; omega)⟩
    have HB : Veil (1 ≤ T0 ∧ T0 ≤ 1152921504606846976 + 0) := ⟨by have := HX.out; omega⟩
    rw [← HX.out]
    clear h1 h1' h2 HM2 HX HT0 hb1
    go_loopw [1, 8] (fun tx i w' => ∃ k T : Nat, k ≤ l.length ∧ k ≤ 20 ∧ i = .int .i64 k ∧ tx = .int .u64 T ∧ Veil (1 ≤ T ∧ T ≤ 1152921504606846976 + k) ∧ Veil (TurnI w d kb sb k T w')) (fun _ i _ => 20 - (intOf i).toNat)
    case atStart => exact ⟨0, T0, Nat.zero_le _, Nat.zero_le _, rfl, rfl, HB, HI⟩
    case round =>
      obtain ⟨k, T, hk, hk8, rfl, rfl, hTb, hI⟩ := hrel
      clear HI HB
      by_cases hin : k < l.length ∧ k < 20
      · obtain ⟨h1, h2⟩ := hin
        obtain ⟨b, off, rfl, hc⟩ := HA.out (by intro h; simp [h] at h1)
        have hbl := HP.out _ rfl
        have hc' := hc k l[k] (List.getElem?_eq_getElem h1)
        generalize l[k] = x at hc'
        obtain ⟨D, hM, hk5, hu, ho, hsl⟩ := hI.out
        have e : ∀ o, wr.cell? ⟨b, o, none⟩ = w.cell? ⟨b, o, none⟩ := fun o => World.cell?_of_block (hM.in.block b hbl)
        rw [← e, ← e, ← e, ← e] at hc'
        obtain ⟨hxo, c0, c1, c2, c3⟩ := hc'
        have hm' : (x.at T).Ok := x.at_ok hxo T (by have := hTb.out; omega)
        have HAf : Veil (∀ W, Calls Try.prog 42 #[x.v, .int .u64 T] W fun e w' => e = .returned (x.at T).v ∧ Below W.heap.size W w') := ⟨after_any x T⟩
        have HS : Veil (∀ (A : World) (c : Array Value) (Ty : TypeId), MyD w d kb sb D A → Calls Try.prog 36 #[.pointer (some ⟨d, 0, none⟩), (x.at T).v] (A.alloc (.cells c Ty)) fun e w' => e = .returned (.int .i64 (if (x.at T).right then 0 else 40)) ∧ MyD w d kb sb (stoD D (x.at T)) w' ∧ w'.heap[A.heap.size]? = some (.cells c Ty (0, 0))) := ⟨fun A c Ty h => by
          have := mstore_box h c Ty (x.at T) hm' (by omega) (by omega)
          rwa [stoC_big _ (by rw [hk5]; decide)] at this⟩
        have hw1 : IntKind.u64.wrap ((T : Int) + 1) = (T : Int) + 1 := by rw [IntKind.wrap_u64]; have := hTb.out; omega
        have HM : Veil _ := ⟨hM⟩
        have HF : Veil (D.kept.length = 5 ∧ D.uns.length ≤ k ∧ D.ops ≤ k) := ⟨hk5, hu, ho⟩
        have hfew := stoD_few D (x.at T)
        cases hr : (x.at T).right
        · rw [hr] at HS
          have hD' : stoD D (x.at T) = D := by unfold stoD; rw [hr]; rfl
          rw [hD'] at HS
          have HSL : Veil _ := ⟨hsl⟩
          clear hc e hbl hm' hM hk5 hu ho hsl hr hD' hfew hI hxo
          obtain ⟨tx, a, hh, f⟩ := x
          unfold Mt.at Mt.v at *
          dsimp only at *
          go_wp2_with (first
            | (go_at_call 42; refine (HAf.out _).mono ?_; rintro e w3 ⟨rfl, hb3⟩; have HM3 : Veil _ := ⟨HM.out.below hb3⟩)
            | (go_at_call 36; refine (HS.out _ _ _ HM3.out).mono ?_; rintro e w4 ⟨rfl, hM4, hx4⟩; have HM4 : Veil _ := ⟨hM4⟩; clear hM4))
          go_roundw
          case rel => exact ⟨k + 1, T, by omega, by omega, by go_num, rfl, ⟨by have := hTb.out; omega⟩, ⟨D, HM4.out, HF.out.1, by have := HF.out; omega, by have := HF.out; omega, HSL.out⟩⟩
          case measure => simp [intOf]; omega
        · rw [hr] at HS
          have htl := turn_load D hM.ok.len (by rw [hk5]; decide) (x.at T) hm' hr hsl
          have HL : Veil (∀ A, MyD w d kb sb (stoD D (x.at T)) A → Calls Try.prog 40 #[.pointer (some ⟨d, 0, none⟩)] A fun e w' => e = .returned (.tuple #[(x.at T).v, .int .i64 0]) ∧ MyD w d kb sb (stoD D (x.at T)) w' ∧ Below A.heap.size A w') := ⟨fun A h => by
            have := mload_my h
            rwa [loadMV_some _ (by rw [stoD_kept, hk5]; decide) (by rw [htl.1]; exact ((Mt.right_iff _).1 hr).1), htl.1] at this⟩
          have HN : Veil ((stoD D (x.at T)).kept.length = 5 ∧ (stoD D (x.at T)).uns.length ≤ k + 1 ∧ (stoD D (x.at T)).ops ≤ k + 1 ∧ SlotsLt (stoD D (x.at T)) (T + 1)) := ⟨by rw [stoD_kept]; exact hk5, by omega, by omega, htl.2⟩
          generalize stoD D (x.at T) = D' at *
          clear hc e hbl hm' hM hk5 hu ho hsl hr hfew hI hxo htl
          obtain ⟨tx, a, hh, f⟩ := x
          unfold Mt.at Mt.v at *
          dsimp only at *
          go_wp2_with (first
            | (go_at_call 42; refine (HAf.out _).mono ?_; rintro e w3 ⟨rfl, hb3⟩; have HM3 : Veil _ := ⟨HM.out.below hb3⟩)
            | (go_at_call 36; refine (HS.out _ _ _ HM3.out).mono ?_; rintro e w4 ⟨rfl, hM4, hx4⟩; have HM4 : Veil _ := ⟨hM4⟩; have HX4 : Veil _ := ⟨hx4⟩; have hz4 : w3.heap.size < w4.heap.size := lt_of_heap hx4; clear hM4 hx4)
            | (go_at_call 40; refine (HL.out _ HM4.out).mono ?_; rintro e w5 ⟨rfl, hM5, hb5⟩; have HM5 : Veil _ := ⟨hM5⟩; have hz5 : w3.heap.size < w5.heap.size := Nat.lt_of_lt_of_le hz4 hb5.size; obtain ⟨⟨y0, y1, y2, y3⟩, -⟩ := pack4 ((hb5.block _ hz4).trans HX4.out); clear hM5 hb5))
          go_roundw
          case rel => exact ⟨k + 1, T + 1, by omega, by omega, by go_num, by go_num, ⟨by have := hTb.out; omega⟩, ⟨D', HM5.out.below (below_al (Below.refl _ _) _), HN.out⟩⟩
          case measure => simp [intOf]; omega
      have hend : (¬ k < l.length) ∨ (k < l.length ∧ ¬ k < 20) := by omega
      clear hin
      rcases hend with h1 | ⟨h1, h2⟩
      all_goals
        obtain ⟨D, hM, -⟩ := hI.out
        go_wp2
        go_ret
        exact ⟨rfl, hM.in⟩
end Go.Proofs.Ytghpcjkjhbafnaa
