/- The walk of Write of a page. -/
import Derived.StillTailTactics
import Derived.Test.YtapmppiiphbcpaaKPM
import Derived.Test.YtapmppiiphbcpaaKP9
import Derived.Test.YtapmppiiphbcpaaKD8
namespace Go.Proofs.Ytapmppiiphbcpaa
open Go Go.RowKit Sm
attribute [local go_sem] Oper.semAt_some

/-- The bytes of a sector of a page's bytes; the disk behind the first k writes. -/
def secB (E : List UInt8) (k : Nat) : List UInt8 := (E.drop (k * 64)).take 64
def wrs (D : Dk) (id : Nat) (E : List UInt8) : Nat → Dk
  | 0 => D
  | k + 1 => (wrs D id E k).wr ((id * 4 + k : Nat) : Int) (secB E k)
theorem secB_len (E : List UInt8) (k : Nat) : (secB E k).length ≤ 64 := by simp [secB]; omega
theorem wrs_kept (D : Dk) (id : Nat) (E : List UInt8) (k : Nat) : (wrs D id E k).kept = D.kept := by
  induction k with
  | zero => rfl
  | succ k ih => rw [wrs, wr_keeps, ih]
theorem wr_out (D : Dk) (i : Nat) (s : List UInt8) (h : D.kept.length ≤ i) : D.wr (i : Int) s = D := if_neg (by omega)
theorem wrs_stop (D : Dk) (id : Nat) (E : List UInt8) (k : Nat) (h : D.kept.length ≤ id * 4 + k) : ∀ m, wrs D id E (k + m) = wrs D id E k
  | 0 => rfl
  | m + 1 => by
    rw [← Nat.add_assoc, wrs, wr_out _ _ _ (by rw [wrs_kept]; omega), wrs_stop D id E k h m]
theorem wr_few (D : Dk) (i : Int) (s : List UInt8) : (D.wr i s).uns.length ≤ D.uns.length + 1 ∧ (D.wr i s).ops ≤ D.ops + 1 := by
  unfold Dk.wr
  split
  · simp [Dk.write]
  · exact ⟨Nat.le_succ _, Nat.le_succ _⟩
theorem wrs_few (D : Dk) (id : Nat) (E : List UInt8) (k : Nat) : (wrs D id E k).uns.length ≤ D.uns.length + k ∧ (wrs D id E k).ops ≤ D.ops + k := by
  induction k with
  | zero => exact ⟨Nat.le_refl _, Nat.le_refl _⟩
  | succ k ih =>
    have := wr_few (wrs D id E k) ((id * 4 + k : Nat) : Int) (secB E k)
    rw [wrs]
    omega

theorem cells_of {w : World} {b o : Nat} {x : Value} (h : w.cell? ⟨b, o, none⟩ = some x) : ∃ c t fr, w.heap[b]? = some (.cells c t fr) := by
  unfold World.cell? at h
  revert h
  cases hb : w.heap[b]? with
  | none => intro h; simp at h
  | some ob =>
    cases ob <;> intro h <;> simp at h
    exact ⟨_, _, _, rfl⟩

/-- Between two rounds: the disk, and what the call itself has made. -/
structure WrI (w : World) (L B0 B6 B7 B8 cap : Nat) (row : Array Value) (t7 : TypeId) (f7 : Nat × Nat) (d kb sb : Nat) (v : Value) (D : Dk) (c : Int) (v' : Value) (A : World) : Prop where
  disk : DiskAt A d kb sb v' D
  own : v'.ownBlock = v.ownBlock ∨ ∀ k, v'.ownBlock = some k → L ≤ k
  bx : A.heap[B0]? = some (.cells #[.pointer (some ⟨d, 0, none⟩)] 24 (0, 0))
  er : A.heap[B6]? = some (.cells #[.int .i64 c] 25 (0, 0))
  by7 : A.heap[B7]? = some (.cells row t7 f7)
  sl : A.heap[B8]? = some (.cells #[.slice (some ⟨B7, 0, none⟩) 256 cap] 104 (0, 0))
  t : Turned (Foot d kb sb v) w A
section
variable {w : World} {L B0 B6 B7 B8 cap : Nat} {row : Array Value} {t7 : TypeId} {f7 : Nat × Nat} {d kb sb : Nat} {v : Value} {D : Dk} {c : Int} {v' : Value} {A A' : World}
theorem WrI.booked {B : Nat} (h : WrI w L B0 B6 B7 B8 cap row t7 f7 d kb sb v D c v' A) (hb : Booked B A A') (hB : w.heap.size ≤ B) : WrI w L B0 B6 B7 B8 cap row t7 f7 d kb sb v D c v' A' :=
  ⟨h.disk.booked hb, h.own, hb.heap h.bx, hb.heap h.er, hb.heap h.by7, hb.heap h.sl, hb.turned h.t hB⟩
/-- A block that the call has made is none of the disk's. -/
theorem WrI.off (h : WrI w L B0 B6 B7 B8 cap row t7 f7 d kb sb v D c v' A) (hf : ∀ k, Foot d kb sb v k → k < w.heap.size) {b : Nat} (h1 : w.heap.size ≤ b) (h2 : b < L) : ¬ Foot d kb sb v' b := by
  rintro (rfl | rfl | rfl | hk)
  · have := hf _ (.inl rfl); omega
  · have := hf _ (.inr (.inl rfl)); omega
  · have := hf _ (.inr (.inr (.inl rfl))); omega
  · rcases h.own with e | e
    · have := hf b (.inr (.inr (.inr (by rw [← e]; exact hk)))); omega
    · have := e b hk; omega
theorem foot_sub (ho : v'.ownBlock = v.ownBlock ∨ ∀ k, v'.ownBlock = some k → L ≤ k) (hL : w.heap.size ≤ L) : ∀ k, k < w.heap.size → Foot d kb sb v' k → Foot d kb sb v k := by
  rintro k hk (h | h | h | h)
  · exact .inl h
  · exact .inr (.inl h)
  · exact .inr (.inr (.inl h))
  · rcases ho with e | e
    · exact .inr (.inr (.inr (by rw [← e]; exact h)))
    · have := e k h; omega
/-- Behind a write of the disk's, and the store of what it told. -/
theorem WrI.next (h : WrI w L B0 B6 B7 B8 cap row t7 f7 d kb sb v D c v' A) (hf : ∀ k, Foot d kb sb v k → k < w.heap.size) (hL : w.heap.size ≤ L) (hA : L ≤ A.heap.size) (h0 : w.heap.size ≤ B0 ∧ B0 < L) (h6 : w.heap.size ≤ B6 ∧ B6 < L) (h7 : w.heap.size ≤ B7 ∧ B7 < L) (h8 : w.heap.size ≤ B8 ∧ B8 < L) (n06 : B0 ≠ B6) (n76 : B7 ≠ B6) (n86 : B8 ≠ B6)
    {D' : Dk} {v2 : Value} {w6 : World} (hD : DiskAt w6 d kb sb v2 D') (ht : Turned (Foot d kb sb v') A w6) (hv : v2.ownBlock = v'.ownBlock ∨ ∀ k, v2.ownBlock = some k → A.heap.size ≤ k) (c' : Int) :
    WrI w L B0 B6 B7 B8 cap row t7 f7 d kb sb v D' c' v2 (w6.setCell ⟨B6, 0, none⟩ (.int .i64 c')) := by
  have own2 : v2.ownBlock = v.ownBlock ∨ ∀ k, v2.ownBlock = some k → L ≤ k := by
    rcases hv with e | e
    · rcases h.own with e2 | e2
      · exact .inl (e.trans e2)
      · exact .inr fun k hk => e2 k (by rw [← e]; exact hk)
    · exact .inr fun k hk => Nat.le_trans hA (e k hk)
  have hT6 : Turned (· = B6) w6 (w6.setCell ⟨B6, 0, none⟩ (.int .i64 c')) := (Turned.refl (· = B6) w6).setCell (p := ⟨B6, 0, none⟩) rfl _
  have off2 : ¬ Foot d kb sb v2 B6 := by
    rintro (rfl | rfl | rfl | hk)
    · have := hf _ (.inl rfl); omega
    · have := hf _ (.inr (.inl rfl)); omega
    · have := hf _ (.inr (.inr (.inl rfl))); omega
    · rcases own2 with e | e
      · have := hf B6 (.inr (.inr (.inr (by rw [← e]; exact hk)))); omega
      · have := e B6 hk; omega
  refine ⟨hD.kept' hT6 (fun k e => e ▸ off2), own2, hT6.heap (ht.heap h.bx (h.off hf h0.1 h0.2)) n06, heap_setCell_at (ht.heap h.er (h.off hf h6.1 h6.2)) 0 _, hT6.heap (ht.heap h.by7 (h.off hf h7.1 h7.2)) n76, hT6.heap (ht.heap h.sl (h.off hf h8.1 h8.2)) n86, ?_⟩
  exact (h.t.then ht (foot_sub h.own hL)).then hT6 (fun k hk e => by omega)
end

def wrCode (D : Dk) (id : Nat) : Int := if loadOk D id then 0 else 10

set_option maxRecDepth 20000 in
set_option maxHeartbeats 4000000 in
theorem pwrite_bad {w : World} {d kb sb : Nat} {v : Value} {D : Dk} (_ : DiskAt w d kb sb v D) (p : Pg) (hp : p.Ok) (hr : p.right = false) :
    Calls Try.prog 25 #[.pointer (some ⟨d, 0, none⟩), p.v] w fun e w' => e = .returned (.int .i64 30) ∧ Below w.heap.size w w' := by
  have hE : Veil (∀ w, Calls Try.prog 55 #[p.v] w fun e w' => e = .returned (.tuple #[.string ⟨#[]⟩, .int .i64 30]) ∧ Below w.heap.size w w') := ⟨fun w => by
    have := encode_any p ⟨hp⟩ w
    unfold Pg.encR at this
    rwa [hr, if_neg (by decide)] at this⟩
  clear hp hr
  obtain ⟨k, i, t, b⟩ := p
  unfold Pg.v at *
  dsimp only at *
  refine calls_of_wp_marks Try.func25 rfl ?_
  simp only [Try.ntmps25, List.size_toArray, List.length_cons, List.length_nil, Nat.reduceAdd, Nat.reduceSub, Array.replicate_succ, Array.replicate_zero, List.push_toArray, List.append_toArray, List.nil_append, List.cons_append]
  go_wp2
  go_step3
  go_wp2_with (go_at_call 55; refine (hE.out _).mono ?_; rintro e w2 ⟨rfl, hb2⟩)
  rw [Exit.noGoto_ret]
  exact leaves_none (results_tmp rfl _ _ _) ⟨rfl, below_al ((below_al (below_al (Below.refl _ w) _) _).trans (hb2.mono (by simp; omega))) _⟩

set_option maxRecDepth 20000 in
set_option maxHeartbeats 4000000 in
theorem pwrite_good {w : World} {d kb sb : Nat} {v : Value} {D : Dk} (h : DiskAt w d kb sb v D) (p : Pg) (hp : p.Ok) (hr : p.right = true) (hu : D.uns.length + 4 < 1000000000000) (ho : D.ops + 4 < 1000000000000000) :
    Calls Try.prog 25 #[.pointer (some ⟨d, 0, none⟩), p.v] w (DiskPost w d kb sb v (wrs D p.id p.enc 4) (.int .i64 (wrCode D p.id))) := by
  have hE : Veil (∀ w, Calls Try.prog 55 #[p.v] w fun e w' => e = .returned (.tuple #[.string ⟨p.enc.toArray⟩, .int .i64 0]) ∧ Below w.heap.size w w') := ⟨fun w => by
    have := encode_any p ⟨hp⟩ w
    unfold Pg.encR at this
    rwa [hr, if_pos rfl] at this⟩
  have hel : p.enc.length = 256 := p.enc_len (p.right_iff.1 hr).2.2.2.2.2
  have hid : p.id < 4294967296 := hp.id
  clear hp hr
  generalize p.enc = E at *
  obtain ⟨k, id, t, b⟩ := p
  unfold Pg.v at *
  dsimp only at *
  have HH := Lib.hid h
  have hdw : d < w.heap.size := h.dlt
  clear h
  refine calls_of_wp_marks Try.func25 rfl ?_
  simp only [Try.ntmps25, List.size_toArray, List.length_cons, List.length_nil, Nat.reduceAdd, Nat.reduceSub, Array.replicate_succ, Array.replicate_zero, List.push_toArray, List.append_toArray, List.nil_append, List.cons_append]
  go_wp2
  go_step3
  go_wp2_with (first
    | (go_at_call 55; refine (hE.out _).mono ?_; rintro e w2 ⟨rfl, hb2⟩; obtain ⟨cap, W3, hcv, hb3, hr3, hcap, hz3⟩ := bytes_row E (w2.alloc (.cells #[.int .i64 0] 25)); rw [World.size_alloc] at hcv hr3 hz3; rw [hel] at hcv hcap)
    | (go_at_call 57; refine (place_any id _).mono ?_; rintro e W5 ⟨rfl, hw5⟩)
    | fail)
  have hw2 : Below w.heap.size w w2 := ((below_al (below_al (Below.refl _ w) _) _).trans (hb2.mono (by simp; omega)))
  have hbx2 : w2.heap[w.heap.size]? = some (.cells #[.pointer (some ⟨d, 0, none⟩)] 24 (0, 0)) := by rw [hb2.block _ (by simp; omega)]; exact heap_alloc2_old _ _ _
  have hpg2 : w2.heap[w.heap.size + 1]? = some (.cells #[.int .i64 k, .int .u32 id, .int .u64 t, .string ⟨b.toArray⟩] 49 (0, 0)) := by rw [hb2.block _ (by simp)]; exact heap_alloc2_new _ _ _
  have hs2 : w.heap.size + 2 ≤ w2.heap.size := by have := hb2.size; simp at this; omega
  obtain ⟨W4, hW4⟩ : ∃ W4, W3.alloc (.cells #[.slice (some ⟨w2.heap.size + 1, 0, none⟩) 256 cap] 104) = W4 := ⟨_, rfl⟩
  rw [hW4]
  have hb4 : Below w2.heap.size w2 W4 := by rw [← hW4]; exact below_al ((below_al (Below.refl _ w2) _).trans (hb3.mono (by simp))) _
  have her4 : W4.heap[w2.heap.size]? = some (.cells #[.int .i64 0] 25 (0, 0)) := by
    rw [← hW4, Below.heap_alloc _ _ _ (by omega), hb3.block _ (by simp)]; exact heap_alloc_new _ _
  have hr4 : W4.rangeAt (w2.heap.size + 1) 0 (u8s E) := fun j x hj => by
    rw [← hW4]; exact ((below_al (Below.refl _ W3) _).cell hz3).trans (hr3 j x hj)
  have hsl4 : W4.heap[W3.heap.size]? = some (.cells #[.slice (some ⟨w2.heap.size + 1, 0, none⟩) 256 cap] 104 (0, 0)) := by rw [← hW4]; exact heap_alloc_new _ _
  have hz4 : W4.heap.size = W3.heap.size + 1 := by rw [← hW4]; simp
  have hbx4 := (hb4.block _ (by omega)).trans hbx2
  have hpg4 := (hb4.block _ (by omega)).trans hpg2
  have HH4 : Veil (DiskAt W4 d kb sb v D) := ⟨(HH.out.kept' (Turned.new hw2 : Turned (fun _ => False) w w2) (fun _ => False.elim)).kept' (Turned.new hb4 : Turned (fun _ => False) w2 W4) (fun _ => False.elim)⟩
  have HT4 : Veil (Below w.heap.size w W4) := ⟨hw2.trans (hb4.mono hw2.size)⟩
  obtain ⟨row, t7, f7, hby4⟩ : ∃ row t7 f7, W4.heap[w2.heap.size + 1]? = some (.cells row t7 f7) := cells_of (hr4 0 (u8v (E[0]'(by omega))) (by rw [u8s, List.getElem?_map, List.getElem?_eq_getElem (by omega)]; rfl))
  have q1 : W4.cell? ⟨w.heap.size + 1, 1, none⟩ = some (.int .u32 id) := (pack4 hpg4).1.2.1
  have HBX : Veil _ := ⟨hbx4⟩
  have HER : Veil _ := ⟨her4⟩
  have HBY : Veil _ := ⟨And.intro hby4 hr4⟩
  have HSL : Veil _ := ⟨hsl4⟩
  have HZ4 : Veil (W4.heap.size = W3.heap.size + 1 ∧ w2.heap.size + 1 < W3.heap.size ∧ w.heap.size + 2 ≤ w2.heap.size) := ⟨hz4, hz3, hs2⟩
  clear hcv hb2 hb3 hr3 hz3 hw2 hbx2 hpg2 hs2 hW4 hb4 her4 hr4 hsl4 hz4 hbx4 hpg4 hby4 hE
  go_step3
  go_wp2_with (go_at_call 57; refine (place_any id _).mono ?_; rintro e W5 ⟨rfl, hw5⟩)
  obtain ⟨B6, e6⟩ : ∃ B6, w2.heap.size = B6 := ⟨_, rfl⟩
  obtain ⟨B7, e7⟩ : ∃ B7, B6 + 1 = B7 := ⟨_, rfl⟩
  obtain ⟨B8, e8⟩ : ∃ B8, W3.heap.size = B8 := ⟨_, rfl⟩
  obtain ⟨B9, e9⟩ : ∃ B9, W4.heap.size = B9 := ⟨_, rfl⟩
  have hW5 : Turned (fun _ => False) W4 W5 := by rw [← hw5]; exact (Turned.refl _ W4).alloc _
  have hx5 : W5.heap[B9]? = some (.cells #[.int .u32 id] 46 (0, 0)) := by rw [← hw5, ← e9]; exact heap_alloc_new _ _
  have HZ5 : Veil (W5.heap.size = B9 + 1 ∧ B9 = B8 + 1 ∧ B7 < B8 ∧ B7 = B6 + 1 ∧ w.heap.size + 2 ≤ B6) := ⟨by have := HZ4.out; rw [← hw5]; simp; omega⟩
  have hfoot : ∀ k, Foot d kb sb v k → k < w.heap.size := fun k hk => HH.out.flt hk
  have hI : WrI w W5.heap.size w.heap.size B6 B7 B8 cap row t7 f7 d kb sb v D 0 v W5 := by
    rw [← e8, ← e7, ← e6]
    exact ⟨HH4.out.kept' hW5 (fun _ => False.elim), .inl rfl, hW5.heap HBX.out (fun h => h), hW5.heap HER.out (fun h => h), hW5.heap HBY.out.1 (fun h => h), hW5.heap HSL.out (fun h => h), (Turned.new HT4.out : Turned (Foot d kb sb v) w W4).trans (hW5.wider fun _ _ h => h.elim)⟩
  have HBB : Veil (∀ A : World, A.heap[B7]? = some (.cells row t7 f7) → A.rangeAt B7 0 (u8s E)) := ⟨fun A hA j x hj => by
    have h1 := HBY.out.2 j x hj
    have h2 := HBY.out.1
    rw [e6, e7] at h1 h2
    rw [← h1]
    simp [World.cell?, hA, h2]⟩
  rw [e6, e7, e8, e9]
  clear hw5 hW5 e6 e7 e8 e9 q1 HBX HER HBY HSL HZ4 HH4 HT4
  obtain ⟨L, hL⟩ : ∃ L, W5.heap.size = L := ⟨_, rfl⟩
  rw [hL] at hI HZ5
  refine wp_range_break (gf := 81) (lb := #[.pointer (some ⟨B9, 0, none⟩)]) rfl (enters_of Try.func81 (by kernel_rfl) rfl)
    (place_seq B9 id hid) (fun k => rfl)
    (fun k A => (∃ v', WrI w L w.heap.size B6 B7 B8 cap row t7 f7 d kb sb v (wrs D id E k) 0 v' A) ∧ A.heap[B9]? = some (.cells #[.int .u32 id] 46 (0, 0)) ∧ (∀ i, i < k → id * 4 + i < D.kept.length) ∧ L ≤ A.heap.size)
    (fun A => ∃ v', WrI w L w.heap.size B6 B7 B8 cap row t7 f7 d kb sb v (wrs D id E 4) (wrCode D id) v' A) ?hI ?hE ?hF ?h0 ?hN ?hround ?hend
  case hI => rintro k A A' ⟨⟨v', h1⟩, h2, h3, h4⟩ hb; exact ⟨⟨v', h1.booked hb (by have := HZ5.out; omega)⟩, hb.heap h2, h3, Nat.le_trans h4 hb.size⟩
  case hE => rintro A A' ⟨v', h1⟩ hb; exact ⟨v', h1.booked hb (by have := HZ5.out; omega)⟩
  case hF => rintro k A ⟨_, h, _⟩; simp [World.cell?, h]
  case h0 => exact ⟨⟨v, hI⟩, hx5, fun i hi => absurd hi (by omega), by omega⟩
  case hN =>
    rintro A ⟨⟨v', h1⟩, -, h3, -⟩
    refine ⟨v', ?_⟩
    have := h3 3 (by omega)
    rw [wrCode, show loadOk D id = true by simp [loadOk, this]]
    exact h1
  case hround =>
    rintro l m kk A hl hlt ⟨⟨v', hi⟩, hx, hr, hA⟩
    simp only [handsP, List.zip_cons_cons, List.zip_nil_right, List.foldl_cons, List.foldl_nil, List.setIfInBounds_toArray, List.set_cons_succ, List.set_cons_zero]
    obtain ⟨sec, hsec⟩ : ∃ sec, id * 4 + kk = sec := ⟨_, rfl⟩
    rw [hsec]
    have HS : Veil _ := ⟨hsec⟩
    have HR : Veil _ := ⟨hr⟩
    clear hI hx5 hsec hr
    gi_wp2
    refine ⟨KeepsFrom.refl _ _, fun A2 hbk hsz => ?_⟩
    have hi2 := hi.booked hbk (by have := HZ5.out; omega)
    have hx2 := hbk.heap hx
    have hA2 : L ≤ A2.heap.size := by omega
    clear hi hx hbk hsz hA
    have HI2 : Veil _ := ⟨hi2⟩
    have HX2 : Veil _ := ⟨hx2⟩
    have HA2 : Veil _ := ⟨hA2⟩
    clear hi2 hx2 hA2
    obtain ⟨fr, hfr⟩ : ∃ fr, kk * 64 = fr := ⟨_, rfl⟩
    have hm1 : (kk : Int) * 64 = fr := by omega
    have hm2 : IntKind.i64.wrap (fr : Int) = fr := by rw [IntKind.wrap_i64]; omega
    have hcut : ∀ W, Calls Try.prog 58 #[.slice (some ⟨B7, 0, none⟩) 256 cap, .int .i64 fr, .int .i64 64] W fun e w' => e = .returned (.slice (some ⟨B7, fr, none⟩) 64 64) ∧ W = w' := fun W => by
      have := cut_any B7 fr 64 256 cap (by omega) (by omega) hcap W
      rwa [show cutAt fr 64 = fr from if_neg (by decide)] at this
    have HCUT : Veil _ := ⟨hcut⟩
    clear hcut
    gi_wp2_with fail
    obtain ⟨w5, hw5⟩ : ∃ w5, A2.drew = w5 := ⟨_, rfl⟩
    have hi5 : WrI w L w.heap.size B6 B7 B8 cap row t7 f7 d kb sb v (wrs D id E kk) 0 v' w5 := by
      rw [← hw5]
      have ht : Turned (fun _ => False) A2 A2.drew := (Turned.refl _ A2).drew
      exact ⟨HI2.out.disk.kept' ht (fun _ => False.elim), HI2.out.own, ht.heap HI2.out.bx (fun h => h), ht.heap HI2.out.er (fun h => h), ht.heap HI2.out.by7 (fun h => h), ht.heap HI2.out.sl (fun h => h), HI2.out.t.trans (ht.wider fun _ _ h => h.elim)⟩
    have c0 : w5.cell? ⟨w.heap.size, 0, none⟩ = some (.pointer (some ⟨d, 0, none⟩)) := by simp [World.cell?, hi5.bx]
    have c8 : w5.cell? ⟨B8, 0, none⟩ = some (.slice (some ⟨B7, 0, none⟩) 256 cap) := by simp [World.cell?, hi5.sl]
    have hsl : (secB E kk).length = 64 := by simp [secB, hel]; omega
    have hcv := run_convert_u8s (P := Try.prog) w5 104 9 5 Try.underlying104 Try.underlying5 Try.underlying9 B7 fr 64 (secB E kk) (fun j x hj => by
      have hj' : (u8s E)[fr + j]? = some x := by
        rw [← hj, ← hfr]
        have hjl : j < 64 := by have := (List.getElem?_eq_some_iff.1 hj).1; rw [length_u8s, hsl] at this; exact this
        simp [u8s, secB, hjl, List.getElem?_drop]
      have := HBB.out w5 hi5.by7 (fr + j) x hj'
      rwa [Nat.zero_add] at this)
    rw [hsl] at hcv
    have HI5 : Veil _ := ⟨hi5⟩
    have HSL : Veil _ := ⟨hsl⟩
    have HW5 : Veil _ := ⟨hw5⟩
    clear hi5 hsl
    refine region_tail_in 7 (by kernel_rfl) (by kernel_rfl) (by rfl) w5 hw5 ?_
    clear hw5
    simp only [List.take_succ_cons, List.take_zero, List.drop_succ_cons, List.drop_zero]
    iterate 5 still_step
    still_call ((HCUT.out _).mono fun _ _ h => ⟨h.1, h.2.symm⟩)
    still_step
    refine wpStill_nil ?_
    have hfew := wrs_few D id E kk
    have CW : Veil _ := ⟨wr_any HI5.out.disk (sec : Int) (secB E kk) (by omega) (by omega)⟩
    have hn06 : w.heap.size ≠ B6 := by have := HZ5.out; omega
    have hDn : wrs D id E (kk + 1) = (wrs D id E kk).wr (sec : Int) (secB E kk) := by rw [wrs, HS.out]
    have HDN : Veil _ := ⟨hDn⟩
    clear hDn hfew
    by_cases hin : sec < D.kept.length
    · have hcode : (wrs D id E kk).wrc (sec : Int) (secB E kk) = 0 := by
        unfold Dk.wrc; rw [wrs_kept, if_pos (by omega), if_pos (secB_len E kk)]
      rw [hcode] at CW
      clear hcode
      go_wp2_with (go_at_call 43; refine CW.out.mono ?_; rintro e w6 ⟨rfl, v2, hD6, hT6, hv6⟩; have HN : Veil _ := ⟨HI5.out.next hfoot (by have := HZ5.out; omega) (by rw [← HW5.out]; exact HA2.out) (by have := HZ5.out; omega) (by have := HZ5.out; omega) (by have := HZ5.out; omega) (by have := HZ5.out; omega) hn06 (by have := HZ5.out; omega) (by have := HZ5.out; omega) hD6 hT6 hv6 0⟩; have c6 : w6.cell? ⟨B6, 0, none⟩ = some (.int .i64 0) := (by have := hT6.heap HI5.out.er (HI5.out.off hfoot (by have := HZ5.out; omega) (by have := HZ5.out; omega)); simp [World.cell?, this]); have f6 : w6.frozen? ⟨B6, 0, none⟩ = false := frozen_whole (hT6.heap HI5.out.er (HI5.out.off hfoot (by have := HZ5.out; omega) (by have := HZ5.out; omega))) _; have HT6 : Veil _ := ⟨hT6⟩; clear hD6 hT6 hv6)
      refine only_normal ?_
      obtain ⟨W7, hW7⟩ : ∃ W7, w6.setCell ⟨B6, 0, none⟩ (.int .i64 0) = W7 := ⟨_, rfl⟩
      rw [hW7]
      rw [hW7] at HN
      have hT7 : Turned (fun j => Foot d kb sb v' j ∨ j = B6) A2 W7 := by
        rw [← hW7]
        have h1 : Turned (fun j => Foot d kb sb v' j ∨ j = B6) A2 w5 := by rw [← HW5.out]; exact (Turned.refl _ A2).drew
        exact (h1.trans (HT6.out.wider fun _ _ h => .inl h)).setCell (p := ⟨B6, 0, none⟩) (.inr rfl) _
      have HT7 : Veil _ := ⟨hT7⟩
      have HK : Veil (KeepsFrom L A2 W7) := ⟨keepsFrom_turned HT7.out fun j hj => by
        rcases hj with hj | rfl
        · exact .inr (HI2.out.disk.foot_cells j hj)
        · exact .inl (by have := HZ5.out; omega)⟩
      have c7 : W7.cell? ⟨B6, 0, none⟩ = some (.int .i64 0) := by simp [World.cell?, HN.out.er]
      have HX7 : Veil (W7.heap[B9]? = some (.cells #[.int .u32 id] 46 (0, 0))) := ⟨HT7.out.heap HX2.out (by
        rintro (h | h)
        · exact HI2.out.off hfoot (by have := HZ5.out; omega) (by have := HZ5.out; omega) h
        · have := HZ5.out; omega)⟩
      have HA7 : Veil (L ≤ W7.heap.size) := ⟨Nat.le_trans HA2.out HT7.out.size⟩
      clear hT7 hW7 c6 f6
      gi_wp2
      refine ⟨?_, ?_⟩
      · rw [hL]; exact HK.out
      · refine ⟨⟨v2, by rw [HDN.out]; exact HN.out⟩, HX7.out, fun i hi => ?_, HA7.out⟩
        rcases Nat.lt_or_eq_of_le (Nat.le_of_lt_succ hi) with h | h
        · exact HR.out i h
        · rw [h, HS.out]; exact hin
    · have hcode : (wrs D id E kk).wrc (sec : Int) (secB E kk) = 10 := by
        unfold Dk.wrc; rw [wrs_kept, if_neg (by omega)]
      rw [hcode] at CW
      clear hcode
      go_wp2_with (go_at_call 43; refine CW.out.mono ?_; rintro e w6 ⟨rfl, v2, hD6, hT6, hv6⟩; have HN : Veil _ := ⟨HI5.out.next hfoot (by have := HZ5.out; omega) (by rw [← HW5.out]; exact HA2.out) (by have := HZ5.out; omega) (by have := HZ5.out; omega) (by have := HZ5.out; omega) (by have := HZ5.out; omega) hn06 (by have := HZ5.out; omega) (by have := HZ5.out; omega) hD6 hT6 hv6 10⟩; have c6 : w6.cell? ⟨B6, 0, none⟩ = some (.int .i64 0) := (by have := hT6.heap HI5.out.er (HI5.out.off hfoot (by have := HZ5.out; omega) (by have := HZ5.out; omega)); simp [World.cell?, this]); have f6 : w6.frozen? ⟨B6, 0, none⟩ = false := frozen_whole (hT6.heap HI5.out.er (HI5.out.off hfoot (by have := HZ5.out; omega) (by have := HZ5.out; omega))) _; have HT6 : Veil _ := ⟨hT6⟩; clear hD6 hT6 hv6)
      refine only_normal ?_
      obtain ⟨W7, hW7⟩ : ∃ W7, w6.setCell ⟨B6, 0, none⟩ (.int .i64 10) = W7 := ⟨_, rfl⟩
      rw [hW7]
      rw [hW7] at HN
      have hT7 : Turned (fun j => Foot d kb sb v' j ∨ j = B6) A2 W7 := by
        rw [← hW7]
        have h1 : Turned (fun j => Foot d kb sb v' j ∨ j = B6) A2 w5 := by rw [← HW5.out]; exact (Turned.refl _ A2).drew
        exact (h1.trans (HT6.out.wider fun _ _ h => .inl h)).setCell (p := ⟨B6, 0, none⟩) (.inr rfl) _
      have HT7 : Veil _ := ⟨hT7⟩
      have HK : Veil (KeepsFrom L A2 W7) := ⟨keepsFrom_turned HT7.out fun j hj => by
        rcases hj with hj | rfl
        · exact .inr (HI2.out.disk.foot_cells j hj)
        · exact .inl (by have := HZ5.out; omega)⟩
      have c7 : W7.cell? ⟨B6, 0, none⟩ = some (.int .i64 10) := by simp [World.cell?, HN.out.er]
      have HX7 : Veil (W7.heap[B9]? = some (.cells #[.int .u32 id] 46 (0, 0))) := ⟨HT7.out.heap HX2.out (by
        rintro (h | h)
        · exact HI2.out.off hfoot (by have := HZ5.out; omega) (by have := HZ5.out; omega) h
        · have := HZ5.out; omega)⟩
      have HA7 : Veil (L ≤ W7.heap.size) := ⟨Nat.le_trans HA2.out HT7.out.size⟩
      clear hT7 hW7 c6 f6
      gi_wp2
      refine ⟨?_, ?_⟩
      · rw [hL]; exact HK.out
      · refine ⟨rfl, v2, ?_⟩
        have hst := wrs_stop D id E kk (by rw [HS.out]; omega) (4 - kk)
        rw [show kk + (4 - kk) = 4 by omega] at hst
        have h1 : wrs D id E 4 = (wrs D id E kk).wr (sec : Int) (secB E kk) := by rw [hst, wr_out _ _ _ (by rw [wrs_kept]; omega)]
        rw [h1, wrCode, show loadOk D id = false by have := HS.out; simp [loadOk]; omega]
        exact HN.out
  case hend =>
    rintro Dd A hDd ⟨v', h1⟩ hdd
    have c6 : A.cell? ⟨B6, 0, none⟩ = some (.int .i64 (wrCode D id)) := by simp [World.cell?, h1.er]
    have H1 : Veil _ := ⟨h1⟩
    have HD : Veil _ := ⟨hdd⟩
    clear h1 hdd hI hx5
    try dsimp only
    generalize wrCode D id = cc at *
    go_wp2
    rw [Exit.noGoto_ret]
    refine leaves_mark (D := Dd) (B := L) HD.out (by omega) ?_
    intro w' hb _
    refine leaves_none (results_tmp rfl _ _ _) ?_
    have h2 := H1.out.booked hb (by have := HZ5.out; omega)
    refine ⟨rfl, v', h2.disk, h2.t, ?_⟩
    rcases h2.own with e | e
    · exact .inl e
    · exact .inr fun k hk => Nat.le_trans (by have := HZ5.out; omega) (e k hk)
end Go.Proofs.Ytapmppiiphbcpaa
