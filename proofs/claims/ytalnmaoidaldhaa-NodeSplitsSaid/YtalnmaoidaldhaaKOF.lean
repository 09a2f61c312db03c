/- Decode of no bytes; the law's shown. -/
import Derived.Test.YtalnmaoidaldhaaKO1
import Derived.Test.YtalnmaoidaldhaaKOC
namespace Go.Proofs.Ytalnmaoidaldhaa
open Go Go.RowKit Sm
attribute [local go_sem] Oper.semAt_some

set_option maxRecDepth 20000 in
theorem take_none {w : World} {B : Nat} {x1 x2 x3 : Value} {t : TypeId} (hB : w.heap[B]? = some (.cells #[.string ⟨#[]⟩, x1, x2, x3] t (0, 0))) :
    Calls Try.prog 47 #[.pointer (some ⟨B, 0, none⟩), .int .i64 1] w fun e w' => e = .returned (.string ⟨#[]⟩) ∧ Turned (· = B) w w' ∧ w'.heap[B]? = some (.cells #[.string ⟨#[]⟩, x1, x2, x3] t (0, 0)) := by
  have h' : w.heap[B]? = some (.cells [.string ⟨#[]⟩, x1, x2, x3].toArray t (0, 0)) := hB
  have c0 : w.cell? ⟨B, 0, none⟩ = some (.string ⟨#[]⟩) := cell_whole h' 0
  have f0 : w.frozen? ⟨B, 0, none⟩ = false := frozen_whole h' _
  have HB : Veil _ := ⟨hB⟩
  clear h' hB
  go_enter Try.func47, Try.ntmps47
  go_wp2
  go_ret
  exact ⟨rfl, (Turned.refl (· = B) w).setCell (p := ⟨B, 0, none⟩) rfl _, heap_setCell_at HB.out 0 _⟩
theorem conv_none (w : World) : ∃ cap W, (convert 9 58 (.string ⟨#[]⟩)).run Try.prog w = .ok (.slice (some ⟨w.heap.size, 0, none⟩) 0 cap) W ∧ Below w.heap.size w W :=
  ⟨_, _, run_bytes_of_string (P := Try.prog) w 9 58 5 ⟨#[]⟩ Try.underlying9 Try.underlying58 Try.underlying5, below_al (Below.refl _ w).drew _⟩

set_option maxRecDepth 20000 in
theorem number_none {w : World} {B : Nat} {x1 x2 x3 : Value} {t : TypeId} (hB : w.heap[B]? = some (.cells #[.string ⟨#[]⟩, x1, x2, x3] t (0, 0))) :
    Calls Try.prog 32 #[.pointer (some ⟨B, 0, none⟩), .int .i64 1] w fun e w' => e = .returned (.int .i64 0) ∧ Turned (· = B) w w' ∧ w'.heap[B]? = some (.cells #[.string ⟨#[]⟩, x1, x2, x3] t (0, 0)) := by
  have HT : Veil _ := ⟨take_none hB⟩
  clear hB
  go_enter Try.func32, Try.ntmps32
  go_wp2_with (go_at_call 47; refine HT.out.mono ?_; rintro e w2 ⟨rfl, ht, hh⟩; obtain ⟨cap, W2, hcv, hb2⟩ := conv_none w2; have HX : Veil (Turned (· = B) w W2 ∧ W2.heap[B]? = some (.cells #[.string ⟨#[]⟩, x1, x2, x3] t (0, 0))) := ⟨ht.trans (Turned.new hb2), (hb2.block _ (lt_of_heap hh)).trans hh⟩; clear ht hh hb2)
  go_loopw [5, 13] (fun s i wr => i = .int .i64 0 ∧ s = .int .i64 0 ∧ W2 = wr) (fun _ _ _ => 0)
  case atStart => exact ⟨rfl, rfl, rfl⟩
  case round =>
    obtain ⟨rfl, rfl, rfl⟩ := hrel
    go_wp2
    go_ret
    exact ⟨rfl, HX.out⟩

theorem zero_encR : Nd.zero.encR = .tuple #[.int .i64 1, .string ⟨#[0]⟩, .int .i64 0] := by
  have h1 : Nd.zero.enc = [0] := rfl
  have h2 : Nd.zero.fits = true := rfl
  rw [Nd.encR, if_pos h2, h1]
  rfl

set_option maxRecDepth 20000 in
set_option maxHeartbeats 2000000 in
theorem decode_none (w : World) : Calls Try.prog 14 #[.int .i64 9, .string ⟨#[]⟩] w fun e w' => e = .returned (.tuple #[.agg #[.slice none 0 0, .slice none 0 0, .slice none 0 0], .int .i64 60]) ∧ Below w.heap.size w w' := by
  have HEn : Veil (∀ w, Calls Try.prog 13 #[.agg #[.slice none 0 0, .slice none 0 0, .slice none 0 0]] w fun e w' => e = .returned (.tuple #[.int .i64 1, .string ⟨#[0]⟩, .int .i64 0]) ∧ Below w.heap.size w w') := ⟨fun w => by
    have := encode_of (w := w) (n := Nd.zero) (a := ⟨none, 0, none, 0, none, 0⟩) ⟨Els.nil _ _, Els.nil _ _, Els.nil _ _⟩ ⟨Nat.le_refl _, by decide, fun _ => rfl, fun _ h => (by cases h)⟩ ⟨⟨by decide, by decide, by decide, fun _ h => (by cases h), fun _ h => (by cases h), fun _ h => (by cases h)⟩⟩
    rw [zero_encR] at this
    exact this⟩
  obtain ⟨W1, hW1⟩ : ∃ W1, w.alloc (.cells #[.slice none 0 0, .slice none 0 0, .slice none 0 0] 26) = W1 := ⟨_, rfl⟩
  have hb1 : Below w.heap.size w W1 := by rw [← hW1]; exact below_al (Below.refl _ _) _
  have hr1 : W1.heap[w.heap.size]? = some (.cells #[.slice none 0 0, .slice none 0 0, .slice none 0 0] 26 (0, 0)) := by rw [← hW1]; exact heap_alloc_new _ _
  obtain ⟨W2, hW2⟩ : ∃ W2, W1.alloc (.cells #[.string ⟨#[]⟩, .slice none 0 0, .slice none 0 0, .slice none 0 0] 65) = W2 := ⟨_, rfl⟩
  have hr2 : W2.heap[W1.heap.size]? = some (.cells #[.string ⟨#[]⟩, .slice none 0 0, .slice none 0 0, .slice none 0 0] 65 (0, 0)) := by rw [← hW2]; exact heap_alloc_new _ _
  have HNm : Veil _ := ⟨number_none hr2⟩
  have HB2 : Veil (Below W1.heap.size W1 W2) := ⟨by rw [← hW2]; exact below_al (Below.refl _ _) _⟩
  clear hr2
  subst hW2
  go_enter Try.func14, Try.ntmps14
  go_wp2_with (go_at_call 32; refine HNm.out.mono ?_; rintro e w3 ⟨rfl, ht, hh⟩)
  have hne : w.heap.size ≠ W1.heap.size := by have := lt_of_heap hr1; omega
  have hr3 : w3.heap[w.heap.size]? = some (.cells #[.slice none 0 0, .slice none 0 0, .slice none 0 0] 26 (0, 0)) := ht.heap ((HB2.out.block _ (lt_of_heap hr1)).trans hr1) hne
  have HX3 : Veil (Below w.heap.size w w3) := ⟨(bn_then hb1 HB2.out).trans (ht.toBelow (bn_then hb1 HB2.out).size (fun k _ e => by have := hb1.size; omega))⟩
  have hh' : w3.heap[W1.heap.size]? = some (.cells [.string ⟨#[]⟩, .slice none 0 0, .slice none 0 0, .slice none 0 0].toArray 65 (0, 0)) := hh
  have c1 : w3.cell? ⟨W1.heap.size, 1, none⟩ = some (.slice none 0 0) := cell_whole hh' 1
  have c2 : w3.cell? ⟨W1.heap.size, 2, none⟩ = some (.slice none 0 0) := cell_whole hh' 2
  have c3 : w3.cell? ⟨W1.heap.size, 3, none⟩ = some (.slice none 0 0) := cell_whole hh' 3
  have HR3 : Veil _ := ⟨hr3⟩
  clear hh' hh ht hr3 hr1 hne HB2 HNm hb1 hW1
  go_loopw [16] (fun i wr => i = .int .i64 0 ∧ w3 = wr) (fun _ _ => 0)
  case atStart => exact ⟨rfl, rfl⟩
  case round =>
    obtain ⟨rfl, rfl⟩ := hrel
    go_wp2_with (go_at_call 13; refine (HEn.out _).mono ?_; rintro e w4 ⟨rfl, hb⟩; have HR4 : Veil _ := ⟨(hb.block _ (lt_of_heap HR3.out)).trans HR3.out⟩; have HX4 : Veil _ := ⟨bn_then HX3.out hb⟩; clear hb c1 c2 c3; obtain ⟨⟨y0, y1, y2⟩, k0, k1, k2⟩ := box3 HR4.out)
    have hT := ((((Turned.refl (· = w.heap.size) w4).setCell (p := ⟨w.heap.size, 0, none⟩) rfl (.slice none 0 0)).setCell (p := ⟨w.heap.size, 1, none⟩) rfl (.slice none 0 0)).setCell (p := ⟨w.heap.size, 2, none⟩) rfl (.slice none 0 0))
    exact bodyPost_ret (results_node2 (g := w.heap.size) (y := .int .i64 60) rfl rfl rfl (heap_setCell_at (heap_setCell_at (heap_setCell_at HR4.out 0 _) 1 _) 2 _)) rfl ⟨rfl, HX4.out.trans (hT.toBelow HX4.out.size (fun j _ h => by omega))⟩

def demoM : Nd := Nd.putM Nd.zero ⟨[97], [120, 121]⟩
theorem demo_put : Nd.zero.putR ⟨[97], [120, 121]⟩ = (⟨[⟨[97], [120, 121]⟩], [], []⟩, 0) := rfl
theorem demo_encR : Nd.encR ⟨[⟨[97], [120, 121]⟩], [], []⟩ = .tuple #[.int .i64 1, .string ⟨#[1, 1, 97, 2, 120, 121]⟩, .int .i64 0] := by
  have h1 : Nd.enc ⟨[⟨[97], [120, 121]⟩], [], []⟩ = [1, 1, 97, 2, 120, 121] := rfl
  have h2 : Nd.fits ⟨[⟨[97], [120, 121]⟩], [], []⟩ = true := rfl
  rw [Nd.encR, if_pos h2, h1]
  rfl
end Go.Proofs.Ytalnmaoidaldhaa

/- The law's shown. -/
namespace Go.Proofs.Ytalnmaoidaldhaa
open Go Go.RowKit Sm
attribute [local go_sem] Oper.semAt_some

theorem demo_ok : Nd.Ok ⟨[⟨[97], [120, 121]⟩], [], []⟩ :=
  ⟨by decide, by decide, by decide, fun p hp => by rw [List.mem_singleton] at hp; subst hp; decide, fun _ h => (by cases h), fun _ h => (by cases h)⟩
theorem zero_ok : Nd.zero.Ok := ⟨by decide, by decide, by decide, fun _ h => (by cases h), fun _ h => (by cases h), fun _ h => (by cases h)⟩

set_option maxRecDepth 20000 in
set_option maxHeartbeats 2000000 in
theorem shown_any (w : World) : Calls Try.prog 4 #[] w fun e w' => e = .returned (.bool true) ∧ Below w.heap.size w w' := by
  have HPt : Veil (Calls Try.prog 12 #[.agg #[.slice none 0 0, .slice none 0 0, .slice none 0 0], .agg #[.string ⟨#[97]⟩, .string ⟨#[120, 121]⟩]] w fun e w' => ∃ a, e = .returned (.tuple #[.agg #[.slice a.pp (1 : Nat) a.cp, .slice a.pk (0 : Nat) a.ck, .slice a.pd (0 : Nat) a.cd], .int .i64 0]) ∧ NdAt w' ⟨[⟨[97], [120, 121]⟩], [], []⟩ a ∧ SlOk a.pk 0 a.ck ∧ Below w.heap.size w w') := ⟨by
    refine (nput_of (w := w) (n := Nd.zero) (a := ⟨none, 0, none, 0, none, 0⟩) ⟨Els.nil _ _, Els.nil _ _, Els.nil _ _⟩ ⟨Nat.le_refl _, by decide, fun _ => rfl, fun _ h => (by cases h)⟩ ⟨zero_ok⟩ ⟨[97], [120, 121]⟩ ⟨by decide, by decide⟩).mono ?_
    rintro e w' ⟨v1, v2, v3, rfl, hown, hb⟩
    rw [demo_put] at hown ⊢
    obtain ⟨a, ea, hat, hft⟩ := hown.at
    exact ⟨a, by rw [ea]; rfl, hat, hft.k, hb⟩⟩
  have HEn : Veil (∀ w a, NdAt w ⟨[⟨[97], [120, 121]⟩], [], []⟩ a → SlOk a.pk 0 a.ck → Calls Try.prog 13 #[.agg #[.slice a.pp (1 : Nat) a.cp, .slice a.pk (0 : Nat) a.ck, .slice a.pd (0 : Nat) a.cd]] w fun e w' => e = .returned (.tuple #[.int .i64 1, .string ⟨#[1, 1, 97, 2, 120, 121]⟩, .int .i64 0]) ∧ Below w.heap.size w w') := ⟨fun w a h hf => by
    have := encode_of h hf ⟨demo_ok⟩
    rw [demo_encR] at this
    exact this⟩
  go_enter Try.func4, Try.ntmps4
  go_wp2_with (first
    | (go_at_call 14; refine (decode_none _).mono ?_; rintro e w5 ⟨rfl, hb5⟩; have HX5 : Veil _ := ⟨bn_then HX4.out hb5⟩; clear hb5)
    | (go_at_call 13; refine (HEn.out _ _ HA3.out HF3.out).mono ?_; rintro e w4 ⟨rfl, hb4⟩; have HX4 : Veil _ := ⟨bn_then HX3.out hb4⟩; clear hb4)
    | (go_at_call 12; refine HPt.out.mono ?_; rintro e w2 ⟨a, rfl, hat, hfk, hb2⟩; obtain ⟨W3, hW3⟩ : ∃ W3, w2.alloc (.cells #[.slice a.pp 1 a.cp, .slice a.pk 0 a.ck, .slice a.pd 0 a.cd] 26) = W3 := ⟨_, rfl⟩; have hb3 : Below w2.heap.size w2 W3 := (by rw [← hW3]; exact below_al (Below.refl _ _) _); have HX3 : Veil _ := ⟨bn_then hb2 hb3⟩; have HA3 : Veil _ := ⟨hat.below hb3⟩; have HF3 : Veil _ := ⟨hfk⟩; clear hat hfk hb2 hb3; subst hW3))
  go_ret
  exact ⟨rfl, below_al HX5.out _⟩
end Go.Proofs.Ytalnmaoidaldhaa

/- What the laws of a node begin with; the law NodeSizes. -/
namespace Go.Proofs.Ytalnmaoidaldhaa
open Go Go.RowKit Sm
attribute [local go_sem] Oper.semAt_some

/-- A node handed in. -/
structure NdIn (w : World) (n : Nd) (a : NdP) : Prop where
  s : NdAt w n a
  f : NdFit n a
  p : ∀ p ∈ n.ps, p.k.length ≤ 9223372036854775807 ∧ p.v.length ≤ 9223372036854775807
  k : ∀ s ∈ n.ks, s.length ≤ 9223372036854775807
  d : ∀ d ∈ n.ds, d < 4294967296
theorem NdIn.cut_ok {w : World} {n : Nd} {a : NdP} (h : NdIn w n a) : n.cut.Ok := by
  refine ⟨?_, ?_, ?_, fun p hp => ?_, fun s hs => ?_, fun d hd => h.d d (List.mem_of_mem_take hd)⟩
  · simp only [Nd.cut, List.length_map, List.length_take]; omega
  · simp only [Nd.cut, List.length_map, List.length_take]; omega
  · simp only [Nd.cut, List.length_take]; omega
  · obtain ⟨q, _, rfl⟩ := List.mem_map.1 hp
    simp only [cutPr, List.length_take]; omega
  · obtain ⟨q, _, rfl⟩ := List.mem_map.1 hs
    simp only [List.length_take]; omega
theorem NdOwn.parts {w : World} {base : Nat} {v1 v2 v3 : Value} {n : Nd} (h : NdOwn w base v1 v2 v3 n) : ∃ a : NdP, v1 = .slice a.pp n.ps.length a.cp ∧ v2 = .slice a.pk n.ks.length a.ck ∧ v3 = .slice a.pd n.ds.length a.cd ∧ NdAt w n a ∧ NdFit n a := by
  obtain ⟨p1, c1, e1, r1, f1, -⟩ := h.p.fit
  obtain ⟨p2, c2, e2, r2, f2, -⟩ := h.k.fit
  obtain ⟨p3, c3, e3, r3, f3, -⟩ := h.d.fit
  exact ⟨⟨p1, c1, p2, c2, p3, c3⟩, e1, e2, e3, ⟨r1, r2, r3⟩, ⟨f1, f2, f3⟩⟩
/-- Behind the cut: the box holds the node that was cut. -/
structure LawI (w : World) (m : Nd) (a : NdP) (W : World) : Prop where
  b : W.heap[w.heap.size]? = some (.cells #[.slice a.pp m.ps.length a.cp, .slice a.pk m.ks.length a.ck, .slice a.pd m.ds.length a.cd] 26 (0, 0))
  s : NdAt W m a
  f : NdFit m a
  x : Below w.heap.size w W
section
variable {w W W' w2 w3 : World} {n m : Nd} {a : NdP} {v1 v2 v3 : Value}
theorem LawI.below (h : LawI w m a W) (hb : Below W.heap.size W W') : LawI w m a W' := ⟨(hb.block _ (lt_of_heap h.b)).trans h.b, h.s.below hb, h.f, bn_then h.x hb⟩
theorem LawI.cells (h : LawI w m a W) : W.cell? ⟨w.heap.size, 0, none⟩ = some (.slice a.pp m.ps.length a.cp) ∧ W.cell? ⟨w.heap.size, 1, none⟩ = some (.slice a.pk m.ks.length a.ck) ∧ W.cell? ⟨w.heap.size, 2, none⟩ = some (.slice a.pd m.ds.length a.cd) := (box3 h.b).1
theorem law_cut (hB : NdBox w n a w2) (hb3 : Below w2.heap.size w2 w3) (hown : NdOwn w3 w2.heap.size v1 v2 v3 m) :
    ∃ (a' : NdP) (W4 : World), v1 = .slice a'.pp m.ps.length a'.cp ∧ v2 = .slice a'.pk m.ks.length a'.ck ∧ v3 = .slice a'.pd m.ds.length a'.cd ∧
      ((w3.setCell ⟨w.heap.size, 0, none⟩ (.slice a'.pp m.ps.length a'.cp)).setCell ⟨w.heap.size, 1, none⟩ (.slice a'.pk m.ks.length a'.ck)).setCell ⟨w.heap.size, 2, none⟩ (.slice a'.pd m.ds.length a'.cd) = W4 ∧ LawI w m a' W4 := by
  obtain ⟨a', e1, e2, e3, hat, hft⟩ := hown.parts
  subst e1 e2 e3
  refine ⟨a', _, rfl, rfl, rfl, rfl, ?_⟩
  have hb := (hB.below hb3).b
  have hT := ((((Turned.refl (· = w.heap.size) w3).setCell (p := ⟨w.heap.size, 0, none⟩) rfl (.slice a'.pp m.ps.length a'.cp)).setCell (p := ⟨w.heap.size, 1, none⟩) rfl (.slice a'.pk m.ks.length a'.ck)).setCell (p := ⟨w.heap.size, 2, none⟩) rfl (.slice a'.pd m.ds.length a'.cd))
  have hz := lt_of_heap hB.b
  have hx := (hB.below hb3).x
  refine ⟨heap_setCell_at (heap_setCell_at (heap_setCell_at hb 0 _) 1 _) 2 _, ?_, hft, hx.trans (hT.toBelow hx.size (fun k _ e => by omega))⟩
  obtain ⟨b, hag, hat2, -⟩ := (hown.kept hT (fun k hk e => by omega)).at
  have e : b = a' := by
    obtain ⟨b1, b2, b3, b4, b5, b6⟩ := b
    obtain ⟨c1, c2, c3, c4, c5, c6⟩ := a'
    simp [Nd.v] at hag
    obtain ⟨⟨h1, h2⟩, ⟨h3, h4⟩, h5, h6⟩ := hag
    simp [h1, h2, h3, h4, h5, h6]
  exact e ▸ hat2
end
theorem size_facts (m : Nd) : (m.fits = true → m.right = true ∧ m.size = m.enc.length ∧ 1 ≤ m.enc.length ∧ m.enc.length ≤ 237) ∧ (m.fits = false → m.right = true → 237 < m.size) ∧ (m.right = false → m.size = 0 ∧ m.fits = false) := by
  refine ⟨fun h => ?_, fun h hr => ?_, fun hr => ?_⟩
  · simp only [Nd.fits, Bool.and_eq_true, decide_eq_true_eq] at h
    exact ⟨h.1, by rw [Nd.size, if_pos h.1], m.enc_pos, h.2⟩
  · rw [Nd.fits, hr, Bool.true_and, decide_eq_false_iff_not] at h
    rw [Nd.size, if_pos hr]; omega
  · exact ⟨by rw [Nd.size, if_neg (by simp [hr])], by rw [Nd.fits, hr]; rfl⟩
theorem size_le {m : Nd} (hok : m.Ok) : m.size ≤ 9000000000000 := by
  unfold Nd.size
  split
  · exact Nd.enc_le hok
  · omega

end Go.Proofs.Ytalnmaoidaldhaa

/- The law NodePlaces. -/
namespace Go.Proofs.Ytalnmaoidaldhaa
open Go Go.RowKit Sm
attribute [local go_sem] Oper.semAt_some

theorem lead_some (f : Nat → Bool) : ∀ N, ∃ L, IsLead f N L
  | 0 => ⟨0, Nat.le_refl _, fun i hi => absurd hi (by omega), fun h => absurd h (by omega)⟩
  | N + 1 => by
    obtain ⟨L, h1, h2, h3⟩ := lead_some f N
    by_cases hL : L < N
    · exact ⟨L, by omega, h2, fun _ => h3 hL⟩
    · obtain rfl : L = N := by omega
      cases hf : f L with
      | true => exact ⟨L + 1, by omega, fun i hi => by
          rcases Nat.lt_or_eq_of_le (Nat.le_of_lt_succ hi) with h | h
          · exact h2 i h
          · rw [h]; exact hf, fun h => absurd h (by omega)⟩
      | false => exact ⟨L, by omega, h2, fun _ => hf⟩
theorem lead_out {KS : List (List UInt8)} {key : List UInt8} {b : Bool} {L : Nat} (hr : riseL KS = true) (h : IsLead (passK KS key b) KS.length L) : ∀ i, L ≤ i → i < KS.length → passK KS key b i = false := by
  intro i hi hlt
  have h4 := h.2.2 (by omega)
  rcases Nat.lt_or_eq_of_le hi with h6 | h6
  · have h7 := rise_lt hr i L h6 hlt
    simp only [passK, Bool.or_eq_false_iff] at h4 ⊢
    have hno : ¬ lessB (KS.getD L []) key = true := by rw [h4.1]; simp
    refine ⟨?_, ?_⟩
    · cases hc : lessB (KS.getD i []) key with
      | false => rfl
      | true => exact absurd (lessB_trans _ _ _ h7 hc) hno
    · cases hc : (KS.getD i [] == key && b) with
      | false => rfl
      | true =>
        simp only [Bool.and_eq_true, beq_iff_eq] at hc
        rw [hc.1] at h7
        exact absurd h7 hno
  · rw [← h6]; exact h4
theorem place_facts {n : Nd} (hr : n.right = true) (key : List UInt8) : n.place key ≤ n.ps.length + n.ks.length ∧ (∀ i, i < n.ps.length → lessB (n.ps.getD i Pr.zero).k key = decide (i < n.place key)) ∧ (∀ i, i < n.ks.length → lessB key (n.ks.getD i []) = decide (n.place key ≤ i)) := by
  obtain ⟨L, hL⟩ := lead_some (passK n.keys key (decide (n.kind = 2))) (n.ps.length + n.ks.length)
  have hpl := place_lead hr hL
  rw [hpl]
  have hout := lead_out (Nd.right_rise hr) (by rw [keys_len]; exact hL)
  rw [keys_len] at hout
  refine ⟨hL.1, fun i hi => ?_, fun i hi => ?_⟩
  · have hl : n.leaf = true := by
      rcases Bool.or_eq_true_iff.1 hr with h | h
      · exact h
      · have := (n.branch_iff.1 h).1.1; omega
    have hk : n.kind = 1 := by rw [Nd.kind, if_pos (n.leaf_iff.1 hl).1.2.1]
    have e : lessB (n.ps.getD i Pr.zero).k key = passK n.keys key (decide (n.kind = 2)) i := by
      rw [passK, keys_getP hi, hk]; simp
    rw [e]
    by_cases hlt : i < L
    · rw [hL.2.1 i hlt]; simp [hlt]
    · rw [hout i (by omega) (by omega)]; simp [hlt]
  · have hb : n.branch = true := by
      rcases Bool.or_eq_true_iff.1 hr with h | h
      · have := (n.leaf_iff.1 h).1.1; omega
      · exact h
    have hs := (n.branch_iff.1 hb).1
    have hk : n.kind = 2 := by rw [Nd.kind, if_neg (by omega)]
    have hkeys : n.keys = n.ks := by rw [Nd.keys, List.eq_nil_of_length_eq_zero hs.1]; rfl
    have e : passK n.keys key (decide (n.kind = 2)) i = !lessB key (n.ks.getD i []) := by
      rw [passK, hkeys, hk]
      simp only [decide_true, Bool.and_true]
      cases h8 : lessB key (n.ks.getD i []) with
      | true => rw [lessB_asymm h8, Bool.false_or, Bool.not_true, beq_eq_false_iff_ne]; intro e; rw [e, lessB_irrefl] at h8; cases h8
      | false =>
        rcases less_le h8 with h9 | h9
        · rw [← h9]; simp
        · rw [h9]; rfl
    by_cases hlt : i < L
    · have := hL.2.1 i hlt
      rw [e] at this
      rw [show lessB key (n.ks.getD i []) = false by simpa using this]
      simp; omega
    · have := hout i (by omega) (by omega)
      rw [e] at this
      rw [show lessB key (n.ks.getD i []) = true by simpa using this]
      simp; omega

end Go.Proofs.Ytalnmaoidaldhaa
