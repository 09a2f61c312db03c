/- The law AllocChunks. -/
import Derived.Test.YtapmppiiphbcpaaKAO
import Derived.Test.YtapmppiiphbcpaaKA9
import Derived.Test.YtapmppiiphbcpaaKPE
import Derived.Test.YtapmppiiphbcpaaKP8
namespace Go.Proofs.Ytapmppiiphbcpaa
open Go Go.RowKit Sm
attribute [local go_sem] Oper.semAt_some

/-- A list that came in. -/
structure SpIn (w : World) (p : Option Addr) (L : List Sp) (c : Nat) : Prop where
  s : Sps w p L
  b : ∀ a, p = some a → a.block < w.heap.size
  sp : ∀ a, p = some a → a.spot = none
  n : p = none → c = 0
  ok : ∀ s ∈ L, s.Ok
  lc : L.length ≤ c
  c : c ≤ 9223372036854775807
theorem slice_head {p : Option Addr} {n c m : Nat} (hn : p = none → c = 0) (hmc : m ≤ c) (hnc : n ≤ c) (W : World) : (Instr.sliceAt 57 (.slice p n c) none (some (.int .i64 (m : Int))) none).run Try.prog W = .ok (.slice p m c) W := by
  cases p with
  | none =>
    obtain rfl : c = 0 := hn rfl
    obtain rfl : m = 0 := by omega
    go_simp
  | some a => go_simp
theorem chR_form (next : Nat) (L : List Sp) : ∃ (A : List UInt8) (e : Int), chR next L = .tuple #[.string ⟨A.toArray⟩, .int .i64 e] := by
  unfold chR
  split
  · exact ⟨_, _, rfl⟩
  · exact ⟨[], 50, rfl⟩
/-- The callees of both laws, over lists and texts of their own. -/
theorem chunks_calls {w : World} {p : Option Addr} {L : List Sp} {c next : Nat} (h : SpIn w p L c) (hx : next < 4294967296) :
    ∃ (m : Nat) (A : List UInt8) (e : Int), m = (L.take 30).length ∧ m = min L.length 30 ∧ chR next (L.take 30) = .tuple #[.string ⟨A.toArray⟩, .int .i64 e] ∧
      (∀ W, Below w.heap.size w W → Calls Try.prog 38 #[.int .u32 next, .slice p m c] W fun e' w' => e' = .returned (.tuple #[.string ⟨A.toArray⟩, .int .i64 e]) ∧ Below W.heap.size W w') ∧
      (∀ W, Below w.heap.size w W → Calls Try.prog 39 #[.int .u32 next, .slice p m c] W fun e' w' => e' = .returned (.tuple #[.string ⟨A.toArray⟩, .int .i64 e]) ∧ Below W.heap.size W w') := by
  obtain ⟨A, e, hA⟩ := chR_form next (L.take 30)
  have hl : (L.take 30).length ≤ 30 := by simp; omega
  have hok : ∀ s ∈ L.take 30, s.Ok := fun s hs => h.ok s (List.mem_of_mem_take hs)
  refine ⟨(L.take 30).length, A, e, rfl, by simp; omega, hA, fun W hW => ?_, fun W hW => ?_⟩
  · have := chunk_any ((h.s.take 30).below hW) (fun a ha => Nat.lt_of_lt_of_le (h.b a ha) hW.size) next c ⟨hok⟩ hl
    rwa [hA] at this
  · have := refchunk_any ((h.s.take 30).below hW) next c hx ⟨hok⟩ hl
    rwa [hA] at this

set_option maxRecDepth 20000 in
set_option maxHeartbeats 4000000 in
theorem allocChunks_any {w : World} {p : Option Addr} {L : List Sp} {c : Nat} (h : SpIn w p L c) (next : Nat) (hx : next < 4294967296) (s : List UInt8) : Calls Try.prog 6 #[.int .u32 next, .slice p L.length c, .string ⟨s.toArray⟩] w fun e w' => e = .returned (.bool true) ∧ Below w.heap.size w w' := by
  obtain ⟨m, A, e, -, hm, -, hC, hR⟩ := chunks_calls h hx
  have HC : Veil _ := ⟨hC⟩
  have HR : Veil _ := ⟨hR⟩
  have hmin : ∀ W, (Builtin.min_ #[3, 3] 3 #[.int .i64 (L.length : Int), .int .i64 30]).run Try.prog W = .ok (.int .i64 (m : Int)) W := by rw [hm]; exact min_len5 L.length 30
  have hlc := h.lc
  have hsl := fun W => slice_head (p := p) (n := L.length) (c := c) (m := m) h.n (by omega) hlc W
  have HP : Veil (∀ W, Calls Try.prog 40 #[.string ((⟨s.toArray⟩ : ByteArray).extract 0 (min s.length 300))] W (ParsePost W (Ps.of (s.take 300)))) := ⟨fun W => by rw [take_ext]; exact parse_any (s.take 300) (by simp; omega) W⟩
  have HQ : Veil (∀ W, Calls Try.prog 41 #[.string ((⟨s.toArray⟩ : ByteArray).extract 0 (min s.length 300))] W (ParsePost W (Ps.of (s.take 300)))) := ⟨fun W => by rw [take_ext]; exact refparse_any (s.take 300) (by simp; omega) W⟩
  have HF : Veil (Ps.of (s.take 300)).Ok := ⟨Ps.of_ok _⟩
  obtain ⟨k, hk⟩ : ∃ k, min s.length 300 = k := ⟨_, rfl⟩
  have hmins : ∀ W, (Builtin.min_ #[3, 3] 3 #[.int .i64 (s.length : Int), .int .i64 300]).run Try.prog W = .ok (.int .i64 (k : Int)) W := by rw [← hk]; exact min_len5 s.length 300
  have hks : k ≤ s.length := by omega
  revert HP HQ HF
  rw [hk]
  generalize Ps.of (s.take 300) = x
  obtain ⟨nx, M, er⟩ := x
  intro HP HQ HF
  clear hC hR h hm hk
  unfold ParsePost at HP HQ
  dsimp only at HP HQ
  go_enter Try.func6, Try.ntmps6
  go_wp2_with (first
    | (go_at_call 41; (with_reducible refine (HQ.out _).mono ?_); rintro e w6 ⟨p6, c6, rfl, hS6, -, hb6⟩; have HS6 : Veil _ := ⟨hS6⟩; have HS5' : Veil _ := ⟨HS5.out.below hb6⟩; have HX6 : Veil _ := ⟨alb_then HX5.out hb6⟩; clear hS6 hb6)
    | (go_at_call 40; (with_reducible refine (HP.out _).mono ?_); rintro e w5 ⟨p5, c5, rfl, hS5, -, hb5⟩; have HS5 : Veil _ := ⟨hS5⟩; have HX5 : Veil _ := ⟨alb_then HX4.out hb5⟩; clear hS5 hb5)
    | (go_at_call 39; (with_reducible refine (HR.out _ HX3.out).mono ?_); rintro e w4 ⟨rfl, hb4⟩; have HX4 : Veil _ := ⟨alb_then HX3.out hb4⟩; clear hb4)
    | (go_at_call 38; (with_reducible refine (HC.out _ HX2.out).mono ?_); rintro e w3 ⟨rfl, hb3⟩; have HX3 : Veil _ := ⟨alb_then HX2.out hb3⟩; clear hb3)
    | (go_at_call 29; refine (shown5_any _).mono ?_; rintro e w2 ⟨rfl, hb2⟩; have HX2 : Veil _ := ⟨hb2⟩; clear hb2))
  refine (same_list HS5'.out HS6.out c5 c6 (by have := HF.out.few; simp only at this; omega)).mono ?_
  rintro e w7 ⟨rfl, hb7⟩
  have HX7 : Veil _ := ⟨alb_then HX6.out hb7⟩
  clear hb7
  go_wp2
  go_ret
  exact ⟨rfl, HX7.out⟩
end Go.Proofs.Ytapmppiiphbcpaa

/- Chunks and bytes are one to one. -/
namespace Go.Proofs.Ytapmppiiphbcpaa

theorem putB_snoc (v n : Nat) : putB v (n + 1) = putB (v / 256) n ++ [byteAt v 0] := by
  unfold putB
  rw [List.range_succ, List.map_append, List.map_singleton, Nat.add_sub_cancel, Nat.sub_self]
  congr 1
  refine List.map_congr_left fun i hi => ?_
  have hi := List.mem_range.1 hi
  unfold byteAt
  rw [Nat.div_div_eq_div_mul, ← Nat.pow_succ', show (n - 1 - i).succ = n - i by omega]
theorem putB_getB (s : List UInt8) (h : s.length ≤ 8) : putB (getB s) s.length = s := by
  induction hn : s.length generalizing s with
  | zero => rw [List.eq_nil_of_length_eq_zero hn]; rfl
  | succ n ih =>
    have hne : s ≠ [] := by rintro rfl; simp at hn
    obtain ⟨t, c, rfl⟩ : ∃ t c, s = t ++ [c] := ⟨s.dropLast, s.getLast hne, (List.dropLast_concat_getLast hne).symm⟩
    simp only [List.length_append, List.length_cons, List.length_nil] at hn h
    have hp := getB_pow t
    have h7 : 256 ^ t.length ≤ 256 ^ 7 := Nat.pow_le_pow_right (by decide) (by omega)
    have e7 : (256 : Nat) ^ 7 = 72057594037927936 := rfl
    have hc := c.toNat_lt
    have e : getB (t ++ [c]) = getB t * 256 + c.toNat := by
      unfold getB
      rw [List.foldl_append]
      show shl64 (getB t) c = _
      unfold shl64
      rw [Nat.mod_eq_of_lt (by omega)]
      rfl
    rw [putB_snoc, e, show (getB t * 256 + c.toNat) / 256 = getB t by omega, ih t (by omega) (by omega)]
    congr 2
    unfold byteAt
    rw [Nat.pow_zero, Nat.div_one]
    apply UInt8.toNat_inj.1
    simp only [Nat.toUInt8, UInt8.toNat_ofNat']
    omega
theorem spB_of (s : List UInt8) (h : 12 ≤ s.length) : spB (Sp.of s) = s.take 12 := by
  have e1 : putB (getB (s.take 4)) 4 = s.take 4 := by
    have := putB_getB (s.take 4) (by simp; omega)
    rwa [show (s.take 4).length = 4 by simp; omega] at this
  have e2 : putB (getB ((s.drop 4).take 8)) 8 = (s.drop 4).take 8 := by
    have := putB_getB ((s.drop 4).take 8) (by simp; omega)
    rwa [show ((s.drop 4).take 8).length = 8 by simp; omega] at this
  unfold spB Sp.of
  dsimp only
  rw [e1, e2]
  have := List.take_append_drop 4 (s.take 12)
  rw [List.take_take, List.drop_take] at this
  simpa using this
theorem of_spB (x : Sp) (h : x.Ok) (r : List UInt8) : Sp.of (spB x ++ r) = x := by
  obtain ⟨p, t⟩ := x
  have h1 := h.page
  have h2 := h.tx
  simp only at h1 h2
  unfold Sp.of spB
  have e1 : (putB p 4 ++ putB t 8 ++ r).take 4 = putB p 4 := by
    rw [List.append_assoc, List.take_append_of_le_length (by simp), List.take_of_length_le (by simp)]
  have e2 : ((putB p 4 ++ putB t 8 ++ r).drop 4).take 8 = putB t 8 := by
    rw [List.append_assoc, List.drop_append_of_le_length (by simp), List.drop_of_length_le (by simp), List.nil_append, List.take_append_of_le_length (by simp), List.take_of_length_le (by simp)]
  dsimp only
  rw [e1, e2, getB_putB p 4 (by decide) h1, getB_putB t 8 (by decide) h2]
theorem flat_of (s : List UInt8) : ∀ (n : Nat), 5 + n * 12 ≤ s.length → (spsOf s n).flatMap spB = (s.drop 5).take (n * 12)
  | 0, _ => by simp [spsOf]
  | n + 1, h => by
    rw [spsOf_succ, List.flatMap_append, flat_of s n (by omega), List.flatMap_singleton, spB_of _ (by simp; omega), show (n + 1) * 12 = n * 12 + 12 by omega, List.take_add, List.drop_drop]
theorem chB_of (s : List UInt8) (h : chOk s = true) : chB (getB (s.take 4)) (spsOf s (chN s)) = s := by
  obtain ⟨h1, h2, h3⟩ := (chOk_iff s).1 h
  unfold chB
  rw [flat_of s _ (by omega), spsOf_len]
  have e1 : putB (getB (s.take 4)) 4 = s.take 4 := by
    have := putB_getB (s.take 4) (by simp; omega)
    rwa [show (s.take 4).length = 4 by simp; omega] at this
  have e2 : putB (chN s) 1 = (s.drop 4).take 1 := by
    have h4 : 4 < s.length := by omega
    have := putB_getB ((s.drop 4).take 1) (by simp; omega)
    rw [show ((s.drop 4).take 1).length = 1 by simp; omega, getB_one (s.drop 4) (by simp; omega)] at this
    rw [← this]
    simp [chN, List.getD]
  rw [e1, e2, List.take_of_length_le (i := chN s * 12) (by simp; omega)]
  have e3 : (s.drop 4).take 1 ++ s.drop 5 = s.drop 4 := by
    have := List.take_append_drop 1 (s.drop 4)
    rwa [List.drop_drop] at this
  rw [List.append_assoc, e3, List.take_append_drop]
theorem drop_flat : ∀ (L : List Sp) (i : Nat) (_ : i < L.length), (L.flatMap spB).drop (i * 12) = spB (L.getD i Sp.zero) ++ (L.drop (i + 1)).flatMap spB
  | [], i, h => by simp at h
  | s :: r, 0, _ => by simp
  | s :: r, i + 1, h => by
    have ih := drop_flat r i (by simpa using h)
    rw [List.flatMap_cons, show (i + 1) * 12 = (spB s).length + i * 12 by rw [spB_len]; omega, ← List.drop_drop, List.drop_append_of_le_length (Nat.le_refl _), List.drop_of_length_le (Nat.le_refl _), List.nil_append, ih]
    simp
theorem of_chB (next : Nat) (L : List Sp) (hn : next < 4294967296) (hok : ∀ s ∈ L, s.Ok) (hl : L.length ≤ 19) : Ps.of (chB next L) = ⟨next, L, 0⟩ := by
  have hlen : (chB next L).length = 5 + L.length * 12 := by
    unfold chB
    rw [List.length_append, List.length_append, flat_len, putB_length, putB_length]
    omega
  have hc : chN (chB next L) = L.length := by
    have e : (chB next L).getD 4 0 = (putB L.length 1).getD 0 0 := by
      unfold chB
      have h4 : (putB next 4).length = 4 := by simp
      simp only [List.getD, List.append_assoc]
      rw [List.getElem?_append_right (by omega), h4]
      simp [putB, List.range_succ]
    unfold chN
    rw [e]
    simp [putB, byteAt, Nat.toUInt8, List.range_succ, UInt8.toNat_ofNat']
    omega
  have hk : chOk (chB next L) = true := by rw [chOk_iff, hc, hlen]; omega
  unfold Ps.of
  rw [if_pos hk, hc]
  have e1 : (chB next L).take 4 = putB next 4 := by
    unfold chB
    rw [List.append_assoc, List.take_append_of_le_length (by simp), List.take_of_length_le (by simp)]
  have e5 : (chB next L).drop 5 = L.flatMap spB := by
    unfold chB
    rw [List.drop_append_of_le_length (by simp), List.drop_of_length_le (by simp), List.nil_append]
  have e2 : spsOf (chB next L) L.length = L := by
    refine List.ext_getElem (by simp [spsOf]) fun i h1 h2 => ?_
    have hi : i < L.length := h2
    simp only [spsOf, List.getElem_map, List.getElem_range]
    rw [← List.drop_drop, e5, drop_flat L i hi, of_spB _ (hok _ (getD_mem hi))]
    simp [List.getD, hi]
  rw [e1, e2, getB_putB next 4 (by decide) hn]
end Go.Proofs.Ytapmppiiphbcpaa

/- The law AllocBack. -/
namespace Go.Proofs.Ytapmppiiphbcpaa
open Go Go.RowKit Sm
attribute [local go_sem] Oper.semAt_some

theorem toList_mk (b : List UInt8) : (⟨b.toArray⟩ : ByteArray).toList = b := by simp [go_sem]
/-- What stands, of a list, and of bytes. -/
theorem back_list (next : Nat) (L : List Sp) (hn : next < 4294967296) (hok : ∀ s ∈ L, s.Ok) (A : List UInt8) (e : Int) (h : chR next L = .tuple #[.string ⟨A.toArray⟩, .int .i64 e]) :
    A.length ≤ 237 ∧ (L.length ≤ 19 ∧ e = 0 ∧ Ps.of A = ⟨next, L, 0⟩ ∨ 19 < L.length ∧ e = 50) := by
  unfold chR at h
  split at h
  · rename_i hl
    simp only [Value.tuple.injEq, Array.mk.injEq, List.cons.injEq, Value.string.injEq, Value.int.injEq, ByteArray.mk.injEq, and_true, true_and] at h
    obtain ⟨h1, h2⟩ := h
    have h1 : chB next L = A := by simpa using h1
    subst h1 h2
    refine ⟨?_, .inl ⟨hl, rfl, of_chB next L hn hok hl⟩⟩
    unfold chB
    rw [List.length_append, List.length_append, flat_len, putB_length, putB_length]
    omega
  · rename_i hl
    simp only [Value.tuple.injEq, Array.mk.injEq, List.cons.injEq, Value.string.injEq, Value.int.injEq, ByteArray.mk.injEq, and_true, true_and] at h
    obtain ⟨h1, h2⟩ := h
    have h1 : [] = A := by simpa using h1
    subst h1
    exact ⟨by simp, .inr ⟨by omega, h2.symm⟩⟩
theorem back_bytes (s : List UInt8) (B : List UInt8) (g : Int) (h : chR (Ps.of s).next (Ps.of s).l = .tuple #[.string ⟨B.toArray⟩, .int .i64 g]) : (Ps.of s).err = 0 ∧ g = 0 ∧ B = s ∨ (Ps.of s).err = 50 := by
  unfold Ps.of at h ⊢
  split
  · rename_i hk
    rw [if_pos hk] at h
    obtain ⟨h1, h2, h3⟩ := (chOk_iff s).1 hk
    unfold chR at h
    rw [if_pos (by rw [spsOf_len]; exact h2), chB_of s hk] at h
    simp only [Value.tuple.injEq, Array.mk.injEq, List.cons.injEq, Value.string.injEq, Value.int.injEq, ByteArray.mk.injEq, and_true, true_and] at h
    refine .inl ⟨rfl, h.2.symm, ?_⟩
    have := h.1
    simpa using this.symm
  · exact .inr rfl

set_option maxRecDepth 20000 in
set_option maxHeartbeats 4000000 in
theorem allocBack_any {w : World} {p : Option Addr} {L : List Sp} {c : Nat} (h : SpIn w p L c) (next : Nat) (hx : next < 4294967296) (s : List UInt8) : Calls Try.prog 7 #[.int .u32 next, .slice p L.length c, .string ⟨s.toArray⟩] w fun e w' => e = .returned (.bool true) ∧ Below w.heap.size w w' := by
  obtain ⟨m, A, e, hml, hm, hA, hC, -⟩ := chunks_calls h hx
  have hok : ∀ s ∈ L.take 30, s.Ok := fun s hs => h.ok s (List.mem_of_mem_take hs)
  obtain ⟨hA237, hBA⟩ := back_list next (L.take 30) hx hok A e hA
  rw [← hml] at hBA
  have HC : Veil _ := ⟨hC⟩
  have hmin : ∀ W, (Builtin.min_ #[3, 3] 3 #[.int .i64 (L.length : Int), .int .i64 30]).run Try.prog W = .ok (.int .i64 (m : Int)) W := by rw [hm]; exact min_len5 L.length 30
  have hlc := h.lc
  have hsl := fun W => slice_head (p := p) (n := L.length) (c := c) (m := m) h.n (by omega) hlc W
  have HSL : Veil (∀ W, Below w.heap.size w W → Sps W p (L.take 30)) := ⟨fun W hW => (h.s.take 30).below hW⟩
  have HPA : Veil (∀ W, Calls Try.prog 40 #[.string ⟨A.toArray⟩] W (ParsePost W (Ps.of A))) := ⟨fun W => parse_any A (by omega) W⟩
  obtain ⟨k, hk⟩ : ∃ k, min s.length 300 = k := ⟨_, rfl⟩
  have HX : Veil ((⟨s.toArray⟩ : ByteArray).extract 0 k = ⟨(s.take 300).toArray⟩) := ⟨by rw [← hk]; exact take_ext s 300⟩
  have HPS : Veil (∀ W, Calls Try.prog 40 #[.string ((⟨s.toArray⟩ : ByteArray).extract 0 k)] W (ParsePost W (Ps.of (s.take 300)))) := ⟨fun W => by rw [HX.out]; exact parse_any (s.take 300) (by simp; omega) W⟩
  obtain ⟨B, g, hB⟩ := chR_form (Ps.of (s.take 300)).next (Ps.of (s.take 300)).l
  have hBB := back_bytes (s.take 300) B g hB
  have hFO := Ps.of_ok (s.take 300)
  have hAO := Ps.of_ok A
  have HCS : Veil (∀ W q cc, Sps W q (Ps.of (s.take 300)).l → (∀ a, q = some a → a.block < W.heap.size) → Calls Try.prog 38 #[.int .u32 (Ps.of (s.take 300)).next, .slice q (Ps.of (s.take 300)).l.length cc] W fun e' w' => e' = .returned (.tuple #[.string ⟨B.toArray⟩, .int .i64 g]) ∧ Below W.heap.size W w') := ⟨fun W q cc h1 h2 => by
    have := chunk_any h1 h2 (Ps.of (s.take 300)).next cc ⟨hFO.l⟩ (by have := hFO.few; omega)
    rwa [hB] at this⟩
  have HFF : Veil ((Ps.of (s.take 300)).l.length ≤ 19 ∧ (Ps.of A).l.length ≤ 19 ∧ A.length ≤ 237 ∧ m ≤ 30) := ⟨hFO.few, hAO.few, hA237, by omega⟩
  have hmins : ∀ W, (Builtin.min_ #[3, 3] 3 #[.int .i64 (s.length : Int), .int .i64 300]).run Try.prog W = .ok (.int .i64 (k : Int)) W := by rw [← hk]; exact min_len5 s.length 300
  have hks : k ≤ s.length := by omega
  have HBA : Veil _ := ⟨hBA⟩
  have HBB : Veil _ := ⟨hBB⟩
  have HML : Veil _ := ⟨hml⟩
  clear hC h hm hk hB hFO hAO hA hok hBA hBB hA237 hml
  revert HPA HPS HCS HFF HBB HBA HX HML HSL
  generalize Ps.of (s.take 300) = x
  generalize Ps.of A = y
  generalize s.take 300 = U
  generalize L.take 30 = T
  obtain ⟨nx, M, er⟩ := x
  obtain ⟨ny, N, ey⟩ := y
  intro HSL HPA HX HPS HCS HFF HBA HBB HML
  unfold ParsePost at HPA HPS
  dsimp only at HPA HPS HCS HBB HBA HFF
  have HU : Veil (er = 0 → (U.toArray == U.toArray) = true) := ⟨fun _ => by simp⟩
  rcases HBA.out with ⟨hm19, rfl, hy⟩ | ⟨hm19, rfl⟩
  · cases hy
    have hT : T.length = m := HML.out.symm
    rw [hT] at HPA
    have HT : Veil _ := ⟨hT⟩
    clear hT
    rcases HBB.out with ⟨rfl, rfl, rfl⟩ | rfl
    all_goals
      have hA237 := HFF.out.2.2.1
      clear HBA HBB HML
      go_enter Try.func7, Try.ntmps7
      go_wp2_with (first
        | (go_at_call 38; (with_reducible refine (HCS.out _ _ _ HS6.out HBL6.out).mono ?_); rintro e w7 ⟨rfl, hb7⟩; have HX7 : Veil _ := ⟨alb_then HX6.out hb7⟩; clear hb7)
        | (go_at_call 40; (with_reducible refine (HPS.out _).mono ?_); rintro e w6 ⟨p6, c6, rfl, hS6, hbl6, hb6⟩; have HS6 : Veil _ := ⟨hS6⟩; have HBL6 : Veil _ := ⟨hbl6⟩; have HX6 : Veil _ := ⟨alb_then HX5.out hb6⟩; clear hS6 hb6 hbl6)
        | (go_at_call 42; (refine (show Calls _ _ #[.slice p m c, .slice p4 m c4] _ _ from HT.out ▸ same_list (HSL.out _ HX4.out) HS4.out c c4 (by have := HT.out; omega)).mono ?_); rintro e w5 ⟨rfl, hb5⟩; have HX5 : Veil _ := ⟨alb_then HX4.out hb5⟩; clear hb5)
        | (go_at_call 40; (with_reducible refine (HPA.out _).mono ?_); rintro e w4 ⟨p4, c4, rfl, hS4, -, hb4⟩; have HS4 : Veil _ := ⟨hS4⟩; have HX4 : Veil _ := ⟨alb_then HX3.out hb4⟩; clear hS4 hb4)
        | (go_at_call 38; (with_reducible refine (HC.out _ HX2.out).mono ?_); rintro e w3 ⟨rfl, hb3⟩; have HX3 : Veil _ := ⟨alb_then HX2.out hb3⟩; clear hb3)
        | (go_at_call 29; refine (shown5_any _).mono ?_; rintro e w2 ⟨rfl, hb2⟩; have HX2 : Veil _ := ⟨hb2⟩; clear hb2))
    · go_ret
      exact ⟨congrArg (fun x => Ending.returned (Value.bool x)) (show (B == ((⟨s.toArray⟩ : ByteArray).extract 0 k).toList) = true by rw [HX.out, toList_mk]; simp), HX7.out⟩
    · go_ret
      exact ⟨rfl, HX7.out⟩
  · rcases HBB.out with ⟨rfl, rfl, rfl⟩ | rfl
    all_goals
      have hA237 := HFF.out.2.2.1
      clear HBA HBB HML
      go_enter Try.func7, Try.ntmps7
      go_wp2_with (first
        | (go_at_call 38; (with_reducible refine (HCS.out _ _ _ HS6.out HBL6.out).mono ?_); rintro e w7 ⟨rfl, hb7⟩; have HX7 : Veil _ := ⟨alb_then HX6.out hb7⟩; clear hb7)
        | (go_at_call 40; (with_reducible refine (HPS.out _).mono ?_); rintro e w6 ⟨p6, c6, rfl, hS6, hbl6, hb6⟩; have HS6 : Veil _ := ⟨hS6⟩; have HBL6 : Veil _ := ⟨hbl6⟩; have HX6 : Veil _ := ⟨alb_then HX5.out hb6⟩; clear hS6 hb6 hbl6)
        | (go_at_call 42; (refine (show Calls _ _ #[.slice p m c, .slice p4 m c4] _ _ from HT.out ▸ same_list (HSL.out _ HX4.out) HS4.out c c4 (by have := HT.out; omega)).mono ?_); rintro e w5 ⟨rfl, hb5⟩; have HX5 : Veil _ := ⟨alb_then HX4.out hb5⟩; clear hb5)
        | (go_at_call 40; (with_reducible refine (HPA.out _).mono ?_); rintro e w4 ⟨p4, c4, rfl, hS4, -, hb4⟩; have HS4 : Veil _ := ⟨hS4⟩; have HX4 : Veil _ := ⟨alb_then HX3.out hb4⟩; have HX5 := HX4; clear hS4 hb4)
        | (go_at_call 38; (with_reducible refine (HC.out _ HX2.out).mono ?_); rintro e w3 ⟨rfl, hb3⟩; have HX3 : Veil _ := ⟨alb_then HX2.out hb3⟩; clear hb3)
        | (go_at_call 29; refine (shown5_any _).mono ?_; rintro e w2 ⟨rfl, hb2⟩; have HX2 : Veil _ := ⟨hb2⟩; clear hb2))
    · go_ret
      exact ⟨congrArg (fun x => Ending.returned (Value.bool x)) (show (!decide ((m : Int) ≤ 19) && B == ((⟨s.toArray⟩ : ByteArray).extract 0 k).toList) = true by rw [HX.out, toList_mk]; simp; omega), HX7.out⟩
    · go_ret
      exact ⟨congrArg (fun x => Ending.returned (Value.bool x)) (show (!decide ((m : Int) ≤ 19)) = true by simp; omega), HX7.out⟩
end Go.Proofs.Ytapmppiiphbcpaa
