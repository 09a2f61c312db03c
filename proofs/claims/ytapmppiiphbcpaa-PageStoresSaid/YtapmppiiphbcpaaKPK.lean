/- The sectors of a page's place: the iterator. -/
import Derived.Test.YtapmppiiphbcpaaKPA
import Derived.Test.YtapmppiiphbcpaaKD8
import Derived.Test.YtapmppiiphbcpaaKS3
namespace Go.Proofs.Ytapmppiiphbcpaa
open Go Go.RowKit
attribute [local go_sem] Oper.semAt_some

theorem place_any (id : Nat) (w : World) : Calls Try.prog 57 #[.int .u32 id] w fun e w' => e = .returned (.func (.func 81) #[] #[.pointer (some ⟨w.heap.size, 0, none⟩)]) ∧ w.alloc (.cells #[.int .u32 id] 46) = w' := by
  go_enter Try.func57, Try.ntmps57
  go_wp2
  go_ret
  exact ⟨rfl, rfl⟩

/-- What the iterator hands over. -/
def handsP (id k : Nat) : Array Value := #[.int .i64 k, .int .i64 ((id * 4 + k : Nat) : Int)]

set_option maxRecDepth 20000 in
set_option maxHeartbeats 1000000 in
theorem place_seq (Bx id : Nat) (hid : id < 4294967296) :
    Seq Try.prog 81 #[.pointer (some ⟨Bx, 0, none⟩)] (handsP id) 4 (fun W => W.cell? ⟨Bx, 0, none⟩ = some (.int .u32 id)) := by
  intro l n J Jx W hJ hJx hF hY h0
  have hf1 := hF 0 W h0
  refine callsIn_of_wp Try.func81 rfl trivial ?_
  simp only [Try.ntmps81, List.size_toArray, List.length_cons, List.length_nil, Nat.reduceAdd, Nat.reduceSub, Array.replicate_succ, Array.replicate_zero, List.push_toArray, List.append_toArray, List.nil_append, List.cons_append]
  gi_wp2
  gi_loopw [4] (fun i wr => ∃ k : Nat, k ≤ 4 ∧ i = .int .i64 k ∧ J k wr) (fun i _ => 4 - (intOf i).toNat)
  case atStart => exact ⟨0, Nat.zero_le _, rfl, h0⟩
  case round =>
    obtain ⟨k, hk, rfl, hj⟩ := hrel
    clear hf1
    by_cases hlt : k < 4
    · have hf2 := hF k wr hj
      have hYk := hY k wr hlt hj
      have e : ((id * 4 + k : Nat) : Int) = (id : Int) * 4 + k := by omega
      simp only [handsP, e] at hYk
      obtain ⟨fn, tmps, assign, body, hy, hR⟩ := hYk
      gi_wp2
      refine hR.mono ?_
      rintro e W3 (⟨rfl, hj'⟩ | ⟨rfl, hjx⟩)
      · gi_wp2
        go_roundw
        case rel => exact ⟨k + 1, by omega, by go_num, hj'⟩
        case measure => simp [intOf]; omega
      · gi_wp2
        refine bodyPost_ret (results_none rfl _ _ _) rfl ?_
        exact ⟨⟨_, rfl⟩, .inr ⟨k, hlt, hjx⟩⟩
    · obtain rfl : k = 4 := by omega
      gi_wp2
      go_end0
      exact ⟨⟨_, rfl⟩, .inl hj⟩
end Go.Proofs.Ytapmppiiphbcpaa

/- The walk of load: the bytes at a page's place. -/
namespace Go.Proofs.Ytapmppiiphbcpaa
open Go Go.RowKit Sm
attribute [local go_sem] Oper.semAt_some

/-- The first k sectors of a page's place, as they are read. -/
def accL (D : Dk) (id k : Nat) : List UInt8 := ((List.range k).map fun i => D.seen.getD (id * 4 + i) []).flatten
theorem accL_succ (D : Dk) (id k : Nat) : accL D id (k + 1) = accL D id k ++ D.seen.getD (id * 4 + k) [] := by
  simp [accL, List.range_succ]
theorem accL_len (D : Dk) (h : D.Ok) (id k : Nat) : (accL D id k).length ≤ 64 * k := by
  induction k with
  | zero => simp [accL]
  | succ k ih =>
    rw [accL_succ, List.length_append]
    have : (D.seen.getD (id * 4 + k) []).length ≤ 64 := by
      rw [List.getD]
      cases hq : D.seen[id * 4 + k]? with
      | none => simp
      | some s => rw [Option.getD_some, h.s64 s (List.mem_of_getElem? hq)]; exact Nat.le_refl _
    omega

/-- A call in a round, by the callee's plain contract. -/
theorem calls_round {P : Program} {f : FuncId} {args : Array Value} {w : World} {R : Ending → World → Prop} {l m : Nat} (h : Calls P f args w R) :
    Fence.wide.fn f ∧ (Fence.wide.depth.isSome = true → 1 ≤ m) ∧ CallsIn (Fence.wide.inRound l) (m - 1) P f args w R := by
  refine ⟨trivial, fun hd => by simp [Fence.wide] at hd, ?_⟩
  have h' := (callsIn_wide (n := m - 1)).2 h
  refine ⟨trivial, fun cs hr => ?_⟩
  obtain ⟨e, w2, fr, hR, hs, hf⟩ := h'.2 cs (room_wide _)
  exact ⟨e, w2, fr, hR, hs, hf⟩
structure LoadI (w : World) (B1 B2 B3 : Nat) (d kb sb : Nat) (v : Value) (D : Dk) (r : ByteArray) (c : Int) (acc : List UInt8) (A : World) : Prop where
  disk : DiskAt A d kb sb v D
  bx : A.heap[w.heap.size]? = some (.cells #[.pointer (some ⟨d, 0, none⟩)] 24 (0, 0))
  rs : A.heap[B1]? = some (.cells #[.string r] 9 (0, 0))
  re : A.heap[B2]? = some (.cells #[.int .i64 c] 25 (0, 0))
  al : A.heap[B3]? = some (.cells #[.string ⟨acc.toArray⟩] 9 (0, 0))
  t : Turned (fun _ => False) w A
section
variable {w : World} {B1 B2 B3 d kb sb : Nat} {v : Value} {D : Dk} {r : ByteArray} {c : Int} {acc : List UInt8} {A A' : World}
theorem LoadI.booked {B : Nat} (h : LoadI w B1 B2 B3 d kb sb v D r c acc A) (hb : Booked B A A') (hB : w.heap.size ≤ B) : LoadI w B1 B2 B3 d kb sb v D r c acc A' :=
  ⟨h.disk.booked hb, hb.heap h.bx, hb.heap h.rs, hb.heap h.re, hb.heap h.al, hb.turned h.t hB⟩
theorem LoadI.new (h : LoadI w B1 B2 B3 d kb sb v D r c acc A) (hb : Turned (fun _ => False) A A') : LoadI w B1 B2 B3 d kb sb v D r c acc A' :=
  ⟨h.disk.kept' hb (fun _ => False.elim), hb.heap h.bx (fun h => h), hb.heap h.rs (fun h => h), hb.heap h.re (fun h => h), hb.heap h.al (fun h => h), h.t.trans hb⟩
theorem foot_old (hD : DiskAt w d kb sb v D) {k : Nat} (hk : w.heap.size ≤ k) : ¬ Foot d kb sb v k := fun h => by have := hD.flt h; omega
/-- One sector more. -/
theorem LoadI.more (h : LoadI w B1 B2 B3 d kb sb v D r c acc A) (hD : ∀ k, Foot d kb sb v k → k < w.heap.size) (h3 : w.heap.size < B3) (h13 : B1 ≠ B3) (h23 : B2 ≠ B3) (acc' : List UInt8) : LoadI w B1 B2 B3 d kb sb v D r c acc' (A.setCell ⟨B3, 0, none⟩ (.string ⟨acc'.toArray⟩)) :=
  have ht : Turned (· = B3) A (A.setCell ⟨B3, 0, none⟩ (.string ⟨acc'.toArray⟩)) := (Turned.refl (· = B3) A).setCell (p := ⟨B3, 0, none⟩) rfl _
  ⟨h.disk.kept' ht (fun k e hf => by have := hD k hf; omega), ht.heap h.bx (by omega), ht.heap h.rs h13, ht.heap h.re h23, heap_setCell_at h.al 0 _, h.t.then ht (fun k hk e => by omega)⟩
/-- What the loop leaves where the disk tells an error. -/
structure LoadX (w : World) (B1 B2 : Nat) (A : World) : Prop where
  rs : A.heap[B1]? = some (.cells #[.string ⟨#[]⟩] 9 (0, 0))
  re : A.heap[B2]? = some (.cells #[.int .i64 10] 25 (0, 0))
  t : Turned (fun _ => False) w A
theorem LoadX.booked {B : Nat} (h : LoadX w B1 B2 A) (hb : Booked B A A') (hB : w.heap.size ≤ B) : LoadX w B1 B2 A' := ⟨hb.heap h.rs, hb.heap h.re, hb.turned h.t hB⟩
theorem LoadI.stop (h : LoadI w B1 B2 B3 d kb sb v D r c acc A) (h1 : w.heap.size < B1) (h2 : w.heap.size < B2) (h12 : B1 ≠ B2) : LoadX w B1 B2 ((A.setCell ⟨B1, 0, none⟩ (.string ⟨#[]⟩)).setCell ⟨B2, 0, none⟩ (.int .i64 10)) :=
  have ht1 : Turned (· = B1) A (A.setCell ⟨B1, 0, none⟩ (.string ⟨#[]⟩)) := (Turned.refl (· = B1) A).setCell (p := ⟨B1, 0, none⟩) rfl _
  have ht2 : Turned (· = B2) (A.setCell ⟨B1, 0, none⟩ (.string ⟨#[]⟩)) ((A.setCell ⟨B1, 0, none⟩ (.string ⟨#[]⟩)).setCell ⟨B2, 0, none⟩ (.int .i64 10)) := (Turned.refl (· = B2) _).setCell (p := ⟨B2, 0, none⟩) rfl _
  ⟨ht2.heap (heap_setCell_at h.rs 0 _) h12, heap_setCell_at (ht1.heap h.re (Ne.symm h12)) 0 _, (h.t.then ht1 (fun k hk e => by omega)).then ht2 (fun k hk e => by omega)⟩
end

/-- What load answers. -/
def loadOk (D : Dk) (id : Nat) : Bool := decide (id * 4 + 3 < D.kept.length)
def loadV (D : Dk) (id : Nat) : Value := if loadOk D id then .tuple #[.string ⟨(accL D id 4).toArray⟩, .int .i64 0] else .tuple #[.string ByteArray.empty, .int .i64 10]

theorem results_load {tmps : Array Value} {w : World} {B1 B2 : Nat} {x : ByteArray} {c : Int} (hp : tmps.getD 4 undef = .pointer (some ⟨B1, 0, none⟩)) (hq : tmps.getD 5 undef = .pointer (some ⟨B2, 0, none⟩)) (c1 : w.cell? ⟨B1, 0, none⟩ = some (.string x)) (c2 : w.cell? ⟨B2, 0, none⟩ = some (.int .i64 c)) :
    (results Try.f60 tmps).run Try.prog w = .ok (.tuple #[.string x, .int .i64 c]) w := by
  have hp' : tmps[4]?.getD undef = .pointer (some ⟨B1, 0, none⟩) := by simpa using hp
  have hq' : tmps[5]?.getD undef = .pointer (some ⟨B2, 0, none⟩) := by simpa using hq
  simp [results, Try.results60, go_sem, hp', hq', c1, c2]

set_option maxRecDepth 20000 in
set_option maxHeartbeats 2000000 in
theorem load_any {w : World} {d kb sb : Nat} {v : Value} {D : Dk} (h : DiskAt w d kb sb v D) (id : Nat) (hid : id < 4294967296) :
    Calls Try.prog 60 #[.pointer (some ⟨d, 0, none⟩), .int .u32 id] w fun e w' => e = .returned (loadV D id) ∧ Below w.heap.size w w' := by
  refine calls_of_wp_marks Try.func60 rfl ?_
  simp only [Try.ntmps60, List.size_toArray, List.length_cons, List.length_nil, Nat.reduceAdd, Nat.reduceSub, Array.replicate_succ, Array.replicate_zero, List.push_toArray, List.append_toArray, List.nil_append, List.cons_append]
  have HH := Lib.hid h
  have hdw : d < w.heap.size := h.dlt
  clear h
  go_wp2_with (go_at_call 57; refine (place_any id _).mono ?_; rintro e w1 ⟨rfl, hw1⟩)
  obtain ⟨B1, eB1⟩ : ∃ B1, w.heap.size + 1 = B1 := ⟨_, rfl⟩
  obtain ⟨B2, eB2⟩ : ∃ B2, B1 + 1 = B2 := ⟨_, rfl⟩
  obtain ⟨B3, eB3⟩ : ∃ B3, B2 + 1 = B3 := ⟨_, rfl⟩
  obtain ⟨B4, eB4⟩ : ∃ B4, B3 + 1 = B4 := ⟨_, rfl⟩
  have hI : LoadI w B1 B2 B3 d kb sb v D ⟨#[]⟩ 0 [] w1 := by
    rw [← hw1]
    refine ⟨HH.out.kept' ((((((Turned.refl (fun _ => False) w).alloc _).alloc _).alloc _).alloc _).alloc _) (fun _ => False.elim), ?_, ?_, ?_, ?_, (((((Turned.refl (fun _ => False) w).alloc _).alloc _).alloc _).alloc _).alloc _⟩
    all_goals
      simp only [heap_alloc_if, World.size_alloc]
      repeat (first | rw [if_neg (by omega)] | rw [if_pos (by first | trivial | omega)])
  have hx1 : w1.heap[B4]? = some (.cells #[.int .u32 id] 46 (0, 0)) := by
    rw [← hw1]
    simp only [heap_alloc_if, World.size_alloc]
    repeat (first | rw [if_neg (by omega)] | rw [if_pos (by first | trivial | omega)])
  have hz1 : w1.heap.size = B4 + 1 := by rw [← hw1]; simp; omega
  have hfoot : ∀ k, Foot d kb sb v k → k < w.heap.size := fun k hk => HH.out.flt hk
  have HW : Veil (w.heap.size < B1 ∧ B1 < B2 ∧ B2 < B3 ∧ B3 < B4) := ⟨by omega⟩
  have HZ : Veil (w1.heap.size = B4 + 1) := ⟨hz1⟩
  rw [eB1, eB2, eB3, eB4]
  clear hw1 eB1 eB2 eB3 eB4 hz1
  refine wp_range_seq (gf := 81) (lb := #[.pointer (some ⟨B4, 0, none⟩)]) rfl (enters_of Try.func81 (by kernel_rfl) rfl)
    (place_seq B4 id hid) (fun k => rfl)
    (fun k A => LoadI w B1 B2 B3 d kb sb v D ⟨#[]⟩ 0 (accL D id k) A ∧ A.heap[B4]? = some (.cells #[.int .u32 id] 46 (0, 0)) ∧ ∀ i, i < k → id * 4 + i < D.kept.length)
    (fun c k A => c = .ret ∧ LoadX w B1 B2 A ∧ D.kept.length ≤ id * 4 + k) ?hI ?hIx ?hF ?h0 ?hround ?hdone ?hstop
  case hI => rintro k A A' ⟨h1, h2, h3⟩ hb; exact ⟨h1.booked hb (by have := HW.out; have := HZ.out; omega), hb.heap h2, h3⟩
  case hIx => rintro c k A A' ⟨h1, h2, h3⟩ hb; exact ⟨h1, h2.booked hb (by have := HW.out; have := HZ.out; omega), h3⟩
  case hF => rintro k A ⟨_, h, _⟩; simp [World.cell?, h]
  case h0 => exact ⟨hI, hx1, fun i hi => absurd hi (by omega)⟩
  case hround =>
    rintro l m k A hl hlt ⟨hi, hx, hr⟩
    simp only [handsP, List.zip_cons_cons, List.zip_nil_right, List.foldl_cons, List.foldl_nil, List.setIfInBounds_toArray, List.set_cons_succ, List.set_cons_zero]
    obtain ⟨sec, hsec⟩ : ∃ sec, id * 4 + k = sec := ⟨_, rfl⟩
    rw [hsec]
    have HS : Veil _ := ⟨hsec⟩
    have HR : Veil _ := ⟨hr⟩
    clear hI hx1 hsec hr
    gi_wp2
    refine ⟨KeepsFrom.refl _ _, fun A2 hbk hsz => ?_⟩
    have hi2 := hi.booked hbk (by have := HW.out; have := HZ.out; omega)
    have hx2 := hbk.heap hx
    clear hi hx hbk hsz
    have HI2 : Veil _ := ⟨hi2⟩
    have HX2 : Veil _ := ⟨hx2⟩
    have c0 : A2.cell? ⟨w.heap.size, 0, none⟩ = some (.pointer (some ⟨d, 0, none⟩)) := by simp [World.cell?, hi2.bx]
    clear hi2 hx2
    by_cases hin : sec < D.kept.length
    · obtain ⟨s, hs⟩ : ∃ s, D.seen[sec]? = some s := ⟨_, List.getElem?_eq_getElem (by rw [HI2.out.disk.ok.len]; exact hin)⟩
      have HSE : Veil _ := ⟨hs⟩
      clear hs
      have hacc : Veil (accL D id (k + 1) = accL D id k ++ s) := ⟨by rw [accL_succ, HS.out, List.getD, HSE.out]; rfl⟩
      have hal : Veil ((accL D id k).length ≤ 64 * k) := ⟨accL_len D HI2.out.disk.ok id k⟩
      have hsl : Veil (s.length = 64) := ⟨HI2.out.disk.ok.s64 s (List.mem_of_getElem? HSE.out)⟩
      obtain ⟨acc, hac⟩ : ∃ acc, accL D id k = acc := ⟨_, rfl⟩
      rw [hac] at hacc hal HI2
      have hnb : ¬ 9223372036854775807 < acc.length + s.length := by have := hal.out; have := hsl.out; omega
      clear hac
      gi_wp2_with (refine calls_round ?_; refine (read_any HI2.out.disk sec s HSE.out).mono ?_; rintro e w2 ⟨rfl, hb2⟩; have hi3 := HI2.out.new (Turned.new hb2); have c3 : w2.cell? ⟨B3, 0, none⟩ = some (.string ⟨acc.toArray⟩) := (by simp [World.cell?, hi3.al]); have f3 : w2.frozen? ⟨B3, 0, none⟩ = false := frozen_whole hi3.al _; have HI3 : Veil _ := ⟨hi3⟩; have HX3 : Veil _ := ⟨(Turned.new hb2 : Turned (fun _ => False) _ _).heap HX2.out (fun h => h)⟩; have HB2 : Veil _ := ⟨hb2⟩; clear hi3 hb2)
      rw [str_append]
      have hT2 : Turned (· = B3) A2 w2 := Turned.new HB2.out
      have hT3 : Turned (· = B3) A2 (w2.setCell ⟨B3, 0, none⟩ (.string ⟨(acc ++ s).toArray⟩)) := hT2.setCell (p := ⟨B3, 0, none⟩) rfl _
      have hW := HW.out
      refine ⟨keepsFrom_turned hT3 (fun j hj => .inl (by have := HZ.out; omega)), ?_, ?_, ?_⟩
      · rw [hacc.out]
        exact HI3.out.more hfoot (by omega) (by omega) (by omega) _
      · rw [set1 (by omega)]; exact HX3.out
      · intro i hi
        rcases Nat.lt_or_eq_of_le (Nat.le_of_lt_succ hi) with h | h
        · exact HR.out i h
        · rw [h, HS.out]; exact hin
    · have h12 : B1 ≠ B2 := by have := HW.out; omega
      have h21 : B2 ≠ B1 := fun e => h12 e.symm
      gi_wp2_with (refine calls_round ?_; refine (read_bad HI2.out.disk sec (.inr (by omega))).mono ?_; rintro e w2 ⟨rfl, hb2⟩; have hi3 := HI2.out.new (Turned.new hb2); have c1 : w2.cell? ⟨B1, 0, none⟩ = some (.string ⟨#[]⟩) := (by simp [World.cell?, hi3.rs]); have f1 : w2.frozen? ⟨B1, 0, none⟩ = false := frozen_whole hi3.rs _; have c2 : w2.cell? ⟨B2, 0, none⟩ = some (.int .i64 0) := (by simp [World.cell?, hi3.re]); have f2 : w2.frozen? ⟨B2, 0, none⟩ = false := frozen_whole hi3.re _; have HI3 : Veil _ := ⟨hi3⟩; have HB2 : Veil _ := ⟨hb2⟩; clear hi3 hb2)
      have hT2 : Turned (fun j => j = B1 ∨ j = B2) A2 w2 := Turned.new HB2.out
      have hT3 := (hT2.setCell (p := ⟨B1, 0, none⟩) (.inl rfl) (.string ⟨#[]⟩)).setCell (p := ⟨B2, 0, none⟩) (.inr rfl) (.int .i64 10)
      have hW := HW.out
      exact ⟨keepsFrom_turned hT3 (fun j hj => .inl (by have := HZ.out; omega)), rfl, HI3.out.stop (by omega) (by omega) h12, by omega⟩
  case hdone =>
    rintro Dd A hDd ⟨hi, hx, hr⟩ hdd
    have hok : loadOk D id = true := by
      have := hr 3 (by omega)
      simp [loadOk, this]
    have HOK : Veil (loadV D id = .tuple #[.string ⟨(accL D id 4).toArray⟩, .int .i64 0]) := ⟨by rw [loadV, if_pos hok]⟩
    have c3 : A.cell? ⟨B3, 0, none⟩ = some (.string ⟨(accL D id 4).toArray⟩) := by simp [World.cell?, hi.al]
    have c1 : A.cell? ⟨B1, 0, none⟩ = some (.string ⟨#[]⟩) := by simp [World.cell?, hi.rs]
    have f1 : A.frozen? ⟨B1, 0, none⟩ = false := frozen_whole hi.rs _
    have c2 : A.cell? ⟨B2, 0, none⟩ = some (.int .i64 0) := by simp [World.cell?, hi.re]
    have f2 : A.frozen? ⟨B2, 0, none⟩ = false := frozen_whole hi.re _
    have h12 : B1 ≠ B2 := by have := HW.out; omega
    have h21 : B2 ≠ B1 := fun e => h12 e.symm
    have HI : Veil _ := ⟨hi⟩
    have HD : Veil _ := ⟨hdd⟩
    clear hI hx1 hi hx hr hdd hok
    generalize accL D id 4 = acc at *
    go_wp2
    have hs1 := heap_setCell_at (heap_setCell_at HI.out.rs 0 (.string ⟨acc.toArray⟩)) 0 (.string ⟨acc.toArray⟩)
    have hT : Turned (fun j => j = B1 ∨ j = B2) A ((A.setCell ⟨B1, 0, none⟩ (.string ⟨acc.toArray⟩)).setCell ⟨B2, 0, none⟩ (.int .i64 0)) := ((Turned.refl _ A).setCell (p := ⟨B1, 0, none⟩) (.inl rfl) _).setCell (p := ⟨B2, 0, none⟩) (.inr rfl) _
    have hW := HW.out
    have hZ := HZ.out
    refine leaves_mark (D := Dd) (B := w.heap.size) (hT.heap HD.out (by omega)) (by omega) ?_
    intro w' hb _
    have k1 : w'.heap[B1]? = some (.cells #[.string ⟨acc.toArray⟩] 9 (0, 0)) := hb.heap (by rw [set1 h12]; exact set0 HI.out.rs)
    have k2 : w'.heap[B2]? = some (.cells #[.int .i64 0] 25 (0, 0)) := hb.heap (set0 (by rw [set1 h21]; exact HI.out.re))
    refine leaves_none (results_load (x := ⟨acc.toArray⟩) (c := 0) rfl rfl (by simp [World.cell?, k1]) (by simp [World.cell?, k2])) ?_
    refine ⟨by rw [HOK.out], ?_⟩
    exact (hb.turned (HI.out.t.then hT (fun k hk e => by omega)) (Nat.le_refl _)).toBelow (Nat.le_refl _) (fun _ _ h => h.elim)
  case hstop =>
    rintro Dd cc k A hDd hk ⟨rfl, hx, hr⟩ hdd
    have hok : loadOk D id = false := by simp [loadOk]; omega
    have HOK : Veil _ := ⟨hok⟩
    have HX : Veil _ := ⟨hx⟩
    have HD : Veil _ := ⟨hdd⟩
    clear hx hdd hok hr hI hx1
    go_wp2
    refine leaves_mark (D := Dd) (B := w.heap.size) HD.out (by have := HW.out; have := HZ.out; omega) ?_
    intro w' hb _
    have k1 := hb.heap HX.out.rs
    have k2 := hb.heap HX.out.re
    refine leaves_none (results_load (x := ⟨#[]⟩) (c := 10) rfl rfl (by simp [World.cell?, k1]) (by simp [World.cell?, k2])) ?_
    refine ⟨by rw [loadV, HOK.out]; rfl, ?_⟩
    exact (hb.turned HX.out.t (Nat.le_refl _)).toBelow (Nat.le_refl _) (fun _ _ h => h.elim)
end Go.Proofs.Ytapmppiiphbcpaa
