/- Money: the program's Bytes. -/
import Derived.Test.YtckkiilbabbeaaaDoorKC3
import Derived.Test.YtckkiilbabbeaaaDoorKZ1
import Derived.Test.YtckkiilbabbeaaaDoorKO1
namespace Go.Proofs.YtckkiilbabbeaaaDoor
open Go Go.RowKit Sm
attribute [local go_sem] Oper.semAt_some

theorem cks_one {M : Nat → Addr} {w : World} {v1 : Value} {k1 : Ck} {t : TypeId} (h1 : CkAt M w v1 k1) : CksAt M (w.alloc (.cells #[v1] t)) (some ⟨w.heap.size, 0, none⟩) [k1] := by
  refine ⟨_, _, rfl, fun k hk => ?_⟩
  simp only [List.length_cons, List.length_nil] at hk
  match k, hk with
  | 0, _ => exact ⟨v1, by go_simp, h1.below (below_al (Below.refl _ _) _)⟩
theorem ok_am1 (l : List Int) : firstC [.am l] = if l.all amt then 0 else 110 := by
  have e1 : (Ck.am l).ok = l.all amt := rfl
  unfold firstC firstC
  rw [e1]
  rfl
theorem make8 (m : Nat) (hm : m ≤ 1000) (W : World) : (Instr.makeSlice 55 (.int .i64 0) (.int .i64 ((m : Int) * 8))).run Tryd.prog W = .ok (.slice (some ⟨W.heap.size, 0, none⟩) 0 (8 * m)) (W.alloc (.cells (madeCells #[Value.int .u8 0] (8 * m)) 5)) := by
  obtain ⟨i0, hi, hz0, hz1, hz2⟩ := info_parts info_u8
  have h := run_make (P := Tryd.prog) W 55 5 i0 (.int .u8 0) Tryd.underlying55 hi hz0 .i64 .i64 0 ((m : Int) * 8) (by omega) (by omega) (by rw [hz2]; omega) (by omega)
  rw [hz1, Nat.mul_one, show (((m : Int) * 8).toNat) = 8 * m by omega] at h
  exact h
theorem made8_own (W : World) (m : Nat) (hm : m ≤ 100000) : OwnB (W.alloc (.cells (madeCells #[Value.int .u8 0] m) 5)) W.heap.size (.slice (some ⟨W.heap.size, 0, none⟩) 0 m) [] :=
  ⟨rfl, .inr ⟨W.heap.size, m, _, rfl, Nat.le_refl _, heap_alloc_new _ _, Nat.zero_le _, by unfold maxLen; omega, by simp [madeCells], rfl⟩⟩
theorem own_base {w : World} {B B' : Nat} {v : Value} {L : List UInt8} (h : OwnB w B v L) (hB : B' ≤ B) : OwnB w B' v L := by
  obtain ⟨h1, h2⟩ := h
  refine ⟨h1, ?_⟩
  rcases h2 with h2 | ⟨g, cap, cur, hv, hg, r⟩
  · exact .inl h2
  · exact .inr ⟨g, cap, cur, hv, Nat.le_trans hB hg, r⟩
theorem bytesM_next (l : List Int) (k : Nat) (h : k < l.length) (n : Nat) (hn : l.getD k 0 = n) : bytesM (l.take (k + 1)) = bytesM (l.take k) ++ putB n 8 := by
  rw [bytesM_take l k h, hn]; rfl

set_option maxRecDepth 20000 in
set_option maxHeartbeats 1000000 in
theorem mobytes_any {w : World} {p : Option Addr} (l : List Int) (c : Nat) (h : Els elL w p l) (hl : l.length ≤ 1000) (hS : MSent w) :
    Calls Tryd.prog 26 #[.slice p l.length c] w fun e w' => e = .returned (.tuple #[.string ⟨(bytesR l).1.toArray⟩, .int .i64 (bytesR l).2]) ∧ Below w.heap.size w w' := by
  obtain ⟨M, hM⟩ := hS
  have HM : Veil _ := ⟨hM⟩
  clear hM
  have HA : Veil _ := ⟨moamounts_any (M := M) (c := c) l h⟩
  have HQ : Veil _ := ⟨fun (p : Option Addr) (w' : World) (hM : MSen w' M) (h : CksAt M w' p [.am l]) => mofirst_any (c := 1) [.am l] (show (1 : Nat) ≤ 1000 by decide) (by intro k hk; obtain rfl := List.mem_singleton.1 hk; exact hl) hM h⟩
  rw [ok_am1] at HQ
  by_cases hall : l.all amt = true
  · rw [if_pos hall] at HQ
    have e : bytesR l = (bytesM l, 0) := if_pos hall
    rw [e]
    dsimp only
    have HL : Veil _ := ⟨hall⟩
    have HH : Veil _ := ⟨h⟩
    clear e hall h
    go_enter Tryd.func26, Tryd.ntmps26
    go_wp2_with (first
      | (go_at_call 43; refine (HQ.out _ _ (HM.out.below (below_al hb1 _)) (cks_one hk1)).mono ?_; rintro e w2 ⟨rfl, hb2⟩; have HB : Veil _ := ⟨bc_then (below_al hb1 _) hb2⟩; clear hb1 hb2 hk1; obtain ⟨v5, h5⟩ : ∃ v5, (Value.slice (some ⟨w2.heap.size, 0, none⟩) 0 (8 * l.length) : Value) = v5 := ⟨_, rfl⟩; obtain ⟨W3, h3⟩ : ∃ W3, w2.alloc (.cells (madeCells #[Value.int .u8 0] (8 * l.length)) 5) = W3 := ⟨_, rfl⟩; have hmk : (Instr.makeSlice 55 (.int .i64 0) (.int .i64 ((l.length : Int) * 8))).run Tryd.prog w2 = .ok v5 W3 := (by rw [← h5, ← h3]; exact make8 _ hl w2); have HO : Veil (OwnB W3 w.heap.size v5 []) := ⟨(by rw [← h5, ← h3]; exact own_base (made8_own _ (8 * l.length) (by omega)) HB.out.size)⟩; have HB3 : Veil (Below w.heap.size w W3) := ⟨by rw [← h3]; exact below_al HB.out _⟩; clear h5 h3)
      | (go_at_call 44; refine HA.out.mono ?_; rintro e w1 ⟨v1, rfl, hk1, hb1⟩; obtain ⟨f1, b1, rfl⟩ := CkAt.func hk1))
    clear hmk
    go_loopw [5, 22] (fun s i wr => ∃ k : Nat, k ≤ l.length ∧ i = .int .i64 k ∧ Veil (OwnB wr w.heap.size s (bytesM (l.take k)) ∧ Below w.heap.size w wr)) (fun _ i _ => l.length - (intOf i).toNat)
    case atStart => exact ⟨0, Nat.zero_le _, rfl, ⟨HO.out, HB3.out⟩⟩
    case round =>
      obtain ⟨k, hk, rfl, hJ⟩ := hrel
      by_cases hlt : k < l.length
      · obtain ⟨b, o, rfl, hc⟩ := els_load (HH.out.below hJ.out.2) hlt
        have hx : amt (l.getD k 0) = true := by
          have := List.all_eq_true.1 HL.out l[k] (List.getElem_mem hlt)
          simpa [List.getD, hlt] using this
        obtain ⟨n, hn⟩ : ∃ n : Nat, l.getD k 0 = n := ⟨(l.getD k 0).toNat, by have := (amt_iff _).1 hx; omega⟩
        have HN : Veil _ := ⟨bytesM_next l k hlt n hn⟩
        rw [hn] at hc
        have hbl : (bytesM (l.take k)).length ≤ 8000 := by rw [bytesM_len, List.length_take]; omega
        clear hx hn
        revert HN hbl hJ
        generalize bytesM (l.take k) = L
        intro hJ HN hbl
        go_wp2
        go_loopw [5, 8] (fun s j wi => ∃ (m : Nat) (z : Int), m ≤ 8 ∧ z = 7 - (m : Int) ∧ j = .int .i64 z ∧ Below w.heap.size w wi ∧ Veil (OwnB wi w.heap.size s (L ++ (putB n 8).take m))) (fun _ j _ => (intOf j + 1).toNat)
        case atStart => exact ⟨0, 7, by omega, rfl, rfl, hJ.out.2, ⟨by simpa using hJ.out.1⟩⟩
        case round =>
          obtain ⟨m, z, hm, hz, rfl, hB2, hA2⟩ := hrel
          by_cases hz0 : 0 ≤ z
          · have hzz := Lib.hid hz
            have hz9 : z ≤ 8 := by omega
            have HB2 := Lib.hid hB2
            clear hB2 hz
            have HV : Veil _ := ⟨byte_shr n z hz0⟩
            have HP : Veil _ := ⟨putB_take n 8 m (by have := hzz.out; omega)⟩
            have HE : Veil (8 - 1 - m = z.toNat) := ⟨by have := hzz.out; omega⟩
            go_wp2_with (refine wpList_append_u8 rfl (.tmp 30) (.tmp 36) rfl w.heap.size _ (L ++ (putB n 8).take m) (byteAt n z.toNat) rfl (hA2.out.alloc _) ⟨wr.heap.size, 0, none⟩ rfl (by rw [← HV.out]; exact cell_alloc_one _ _ _) (by simp; omega) (by have := HB2.out.size; simp; omega) ?_; intro g cap w9 hown hgrow hlies hglt)
            have hnn := own_next (L := L) (n := L.length + m + 1) hown (show (putB n 8).take (m + 1) = _ by rw [HP.out, HE.out]) (by simp; omega)
            refine ⟨⟨m + 1, z - 1, by have := hzz.out; omega, by have := hzz.out; omega, rfl, below_grown HB2.out hA2.out hgrow, ⟨hnn⟩⟩, ?_⟩
            simp only [intOf]; omega
          · obtain rfl : m = 8 := by omega
            have hfull : (putB n 8).take 8 = putB n 8 := List.take_of_length_le (by simp)
            rw [hfull, ← HN.out] at hA2
            have HA2 : Veil _ := ⟨(⟨hA2.out, hB2⟩ : _ ∧ _)⟩
            clear hA2 hB2 hfull HN hJ
            go_wp2
            refine ⟨⟨k + 1, by omega, by go_num, ⟨HA2.out.1, HA2.out.2⟩⟩, ?_⟩
            simp only [intOf]; omega
      · obtain rfl : k = l.length := by omega
        rw [List.take_of_length_le (Nat.le_refl _)] at hJ
        have hconv := conv_own hJ.out.1
        have HB2 : Veil _ := ⟨hJ.out.2⟩
        clear hJ
        go_wp2
        go_ret2
        exact ⟨rfl, HB2.out⟩
  · rw [if_neg hall] at HQ
    have e : bytesR l = ([], 110) := if_neg hall
    rw [e]
    dsimp only
    clear e hall h
    go_enter Tryd.func26, Tryd.ntmps26
    go_wp2_with (first
      | (go_at_call 43; refine (HQ.out _ _ (HM.out.below (below_al hb1 _)) (cks_one hk1)).mono ?_; rintro e w2 ⟨rfl, hb2⟩)
      | (go_at_call 44; refine HA.out.mono ?_; rintro e w1 ⟨v1, rfl, hk1, hb1⟩; obtain ⟨f1, b1, rfl⟩ := CkAt.func hk1))
    go_ret2
    exact ⟨rfl, bc_then (below_al hb1 _) hb2⟩
end Go.Proofs.YtckkiilbabbeaaaDoor

/- Money: the number in eight bytes; the iterator over eights; the program's Parse. -/

namespace Go.Proofs.YtckkiilbabbeaaaDoor
open Go Go.RowKit Sm
attribute [local go_sem] Oper.semAt_some

set_option maxRecDepth 20000 in
set_option maxHeartbeats 1000000 in
theorem moread_any (s : List UInt8) (hs : s.length ≤ 1000000) (w : World) : Calls Tryd.prog 75 #[.string ⟨s.toArray⟩] w fun e w' => e = .returned (.int .i64 (wrap64 (getB s))) ∧ w = w' := by
  go_enter Tryd.func75, Tryd.ntmps75
  go_wp2
  go_loop [3, 7] (fun n j => ∃ m : Nat, m ≤ s.length ∧ j = .int .i64 m ∧ n = .int .u64 (getB (s.take m))) (fun _ j => s.length - (intOf j).toNat)
  case atStart => exact ⟨0, Nat.zero_le _, rfl, rfl⟩
  case round =>
    obtain ⟨m, hm, rfl, rfl⟩ := hrel
    by_cases hlm : m < s.length
    · have HG : Veil _ := ⟨getB_take s m hlm⟩
      have hci : (⟨s.toArray⟩ : ByteArray)[m]'(by simpa [ByteArray.size] using hlm) = s.getD m 0 := by
        simp [List.getD, hlm]
        rfl
      revert hci HG
      generalize getB (s.take m) = v
      generalize s.getD m 0 = c
      intro HG hci
      obtain ⟨V, hV⟩ : ∃ V : Int, (v : Int) = V := ⟨_, rfl⟩
      obtain ⟨C, hC⟩ : ∃ C : Int, (c.toNat : Int) = C := ⟨_, rfl⟩
      obtain ⟨R, hR⟩ : ∃ R : Int, ((shl64 v c : Nat) : Int) = R := ⟨_, rfl⟩
      have ho : bits BinOp.or IntKind.u64 (IntKind.u64.wrap (V * 256)) C = R := by rw [← hV, ← hC, ← hR]; exact or_byte64 v c
      have hc2 : 0 ≤ C ∧ C < 256 := by have := c.toNat_lt; omega
      obtain ⟨hc2, hc3⟩ := hc2
      have HR : Veil _ := ⟨hR⟩
      rw [hV]
      clear hV hR
      go_wp2
      refine ⟨⟨m + 1, by omega, by go_num, by rw [HG.out, ← HR.out]⟩, ?_⟩
      simp only [intOf]; omega
    · obtain rfl : m = s.length := by omega
      rw [List.take_length]
      go_wp2
      go_ret
      exact ⟨rfl, rfl⟩

theorem eights_any (s : List UInt8) (w : World) : Calls Tryd.prog 61 #[.string ⟨s.toArray⟩] w fun e w' => e = .returned (.func (.func 74) #[] #[.pointer (some ⟨w.heap.size, 0, none⟩)]) ∧ w.alloc (.cells #[.string ⟨s.toArray⟩] 9) = w' := by
  go_enter Tryd.func61, Tryd.ntmps61
  go_wp2
  go_ret
  exact ⟨rfl, rfl⟩
/-- What the iterator hands over. -/
def handsM (s : List UInt8) (k : Nat) : Array Value := #[.int .i64 (wrap64 (eightM s k))]
def ReadsM (Bx : Nat) (s : List UInt8) (W : World) : Prop := W.cell? ⟨Bx, 0, none⟩ = some (.string ⟨s.toArray⟩)

set_option maxRecDepth 20000 in
set_option maxHeartbeats 1000000 in
theorem eights_seq (Bx : Nat) (s : List UInt8) (hl : s.length ≤ 1000000) :
    Seq Tryd.prog 74 #[.pointer (some ⟨Bx, 0, none⟩)] (handsM s) (s.length / 8) (ReadsM Bx s) := by
  intro l n J Jx W hJ hJx hF hY h0
  have hf1 := hF 0 W h0
  unfold ReadsM at hf1
  obtain ⟨N, hN⟩ : ∃ N : Nat, s.length / 8 = N := ⟨_, rfl⟩
  rw [hN] at hY ⊢
  refine callsIn_of_wp Tryd.func74 rfl trivial ?_
  simp only [Tryd.ntmps74, List.size_toArray, List.length_cons, List.length_nil, Nat.reduceAdd, Nat.reduceSub, Array.replicate_succ, Array.replicate_zero, List.push_toArray, List.append_toArray, List.nil_append, List.cons_append]
  gi_wp2
  have hNi : (s.length : Int) / 8 = (N : Int) := by omega
  have HL : Veil (8 * N ≤ s.length ∧ s.length ≤ 1000000) := ⟨by omega, hl⟩
  rw [hNi]
  have HRd : Veil (∀ k, 8 * k + 8 ≤ s.length → ∀ w, Calls Tryd.prog 75 #[.string ((⟨s.toArray⟩ : ByteArray).extract (8 * k) (8 * k + 8))] w fun e w' => e = .returned (.int .i64 (wrap64 (eightM s k))) ∧ w = w') := ⟨fun k hk w => by
    have h := moread_any ((s.drop (8 * k)).take 8) (by rw [List.length_take]; omega) w
    rw [extM, Nat.add_sub_cancel_left]
    exact h⟩
  have HS : Veil (∀ k W, J k W → W.cell? ⟨Bx, 0, none⟩ = some (.string ⟨s.toArray⟩)) := ⟨hF⟩
  clear hf1 hN hNi hF hl
  gi_loopw [8] (fun i wr => ∃ k : Nat, k ≤ N ∧ i = .int .i64 k ∧ J k wr) (fun i _ => N - (intOf i).toNat)
  case atStart => exact ⟨0, Nat.zero_le _, rfl, h0⟩
  case round =>
    obtain ⟨k, hk, rfl, hj⟩ := hrel
    by_cases hlt : k < N
    · have hs := HS.out k wr hj
      have hYk := fun A hA => hY k A hlt hA
      simp only [handsM] at hYk
      have HC : Veil _ := ⟨HRd.out k (by have := HL.out; omega)⟩
      obtain ⟨fn, tmps, assign, body, hy, hR⟩ := hYk _ hj
      obtain ⟨j, hjj⟩ : ∃ j : Nat, 8 * k = j := ⟨_, rfl⟩
      have hji : (k : Int) * 8 = (j : Int) := by omega
      have hjl : j + 8 ≤ s.length := by have := HL.out; omega
      have hsl : s.length ≤ 1000000 := HL.out.2
      rw [hjj] at HC
      have HK : Veil _ := ⟨hjj⟩
      clear hjj hY hYk HRd hJ hJx
      generalize wrap64 (eightM s k) = X at HC hy hR
      gi_wp2_with (refine calls_wide6 ?_; refine (HC.out _).mono ?_; rintro e w3 ⟨rfl, rfl⟩)
      refine hR.mono ?_
      rintro e W3 (⟨rfl, hj'⟩ | ⟨rfl, hjx⟩)
      · gi_wp2
        go_roundw
        case rel => exact ⟨k + 1, by omega, by go_num, hj'⟩
        case measure => simp [intOf]; omega
      · gi_wp2
        refine bodyPost_ret (results_none rfl _ _ _) rfl ?_
        exact ⟨⟨_, rfl⟩, .inr ⟨k, hlt, hjx⟩⟩
    · obtain rfl : k = N := by omega
      gi_wp2
      go_end0
      exact ⟨⟨_, rfl⟩, .inl hj⟩
end Go.Proofs.YtckkiilbabbeaaaDoor

/- Money: the program's Parse. -/
namespace Go.Proofs.YtckkiilbabbeaaaDoor
open Go Go.RowKit Sm
attribute [local go_sem] Oper.semAt_some

theorem makeM (s : List UInt8) (hs : s.length ≤ 1000) (W : World) : (Instr.makeSlice 59 (.int .i64 0) (.int .i64 ((s.length : Int) / 8))).run Tryd.prog W = .ok (.slice (some ⟨W.heap.size, 0, none⟩) 0 (s.length / 8)) (W.alloc (.cells (madeCells #[Value.int .i64 0] (s.length / 8)) 2)) := by
  obtain ⟨i0, hi, hz0, hz1, hz2⟩ := info_parts elL.info
  have hz2 : i0.bytes = 8 := hz2
  have h := run_make (P := Tryd.prog) W 59 2 i0 (.int .i64 0) Tryd.underlying59 hi hz0 .i64 .i64 0 ((s.length : Int) / 8) (by omega) (by omega) (by rw [hz2]; omega) (by omega)
  have hz1 : i0.size = 1 := hz1
  rw [hz1, Nat.mul_one, show (((s.length : Int) / 8).toNat) = s.length / 8 by omega] at h
  exact h
theorem madeM_own (W : World) (m : Nat) (hm : m ≤ 100000) : OwnE elL (W.alloc (.cells (madeCells #[Value.int .i64 0] m) 2)) W.heap.size (.slice (some ⟨W.heap.size, 0, none⟩) 0 m) [] :=
  ⟨rfl, .inr ⟨W.heap.size, m, _, rfl, Nat.le_refl _, heap_alloc_new _ _, Nat.zero_le _, by unfold maxLen; omega, by show (madeCells #[Value.int .i64 0] m).size = m * 1; simp [madeCells], rfl⟩⟩
/-- A call in a round, by the callee's plain contract. -/
theorem calls_roundM {P : Program} {f : FuncId} {args : Array Value} {w : World} {R : Ending → World → Prop} {l m : Nat} (h : Calls P f args w R) :
    Fence.wide.fn f ∧ (Fence.wide.depth.isSome = true → 1 ≤ m) ∧ CallsIn (Fence.wide.inRound l) (m - 1) P f args w R := by
  refine ⟨trivial, fun hd => by simp [Fence.wide] at hd, ?_⟩
  have h' := (callsIn_wide (n := m - 1)).2 h
  refine ⟨trivial, fun cs hr => ?_⟩
  obtain ⟨e, w2, fr, hR, hs, hf⟩ := h'.2 cs (room_wide _)
  exact ⟨e, w2, fr, hR, hs, hf⟩
/-- What the call itself holds as it goes on reading. -/
structure ParM (w : World) (s : List UInt8) (Bl Bx : Nat) (v : Value) (L : List Int) (A : World) : Prop where
  box : A.heap[Bl]? = some (.cells #[v] 59 (0, 0))
  own : OwnE elL A w.heap.size v L
  ne : v.ownBlock ≠ some Bl
  nx : v.ownBlock ≠ some Bx
  it : ReadsM Bx s A
  t : Turned (fun _ => False) w A
theorem ParM.new {w : World} {s : List UInt8} {Bl Bx : Nat} {v : Value} {L : List Int} {A A' : World} (h : ParM w s Bl Bx v L A) (hb : Below A.heap.size A A') : ParM w s Bl Bx v L A' :=
  ⟨(hb.block _ (lt_of_heap h.box)).trans h.box, h.own.below hb, h.ne, h.nx, (hb.cell (World.block_lt_of_cell? _ _ h.it)).trans h.it, h.t.trans (Turned.new hb)⟩
theorem ParM.booked {w : World} {s : List UInt8} {Bl Bx S : Nat} {v : Value} {L : List Int} {A A' : World} (h : ParM w s Bl Bx v L A) (hb : Booked S A A') (hS : w.heap.size ≤ S) : ParM w s Bl Bx v L A' := by
  refine ⟨hb.heap h.box, hb.ownsRow h.own, h.ne, h.nx, ?_, hb.turned h.t hS⟩
  have hx := h.it
  unfold ReadsM World.cell? at hx ⊢
  dsimp only at hx ⊢
  cases e : A.heap[Bx]? with
  | none => rw [e] at hx; cases hx
  | some o =>
    rw [e] at hx
    cases o with
    | cells c t fr => rw [hb.heap e]; exact hx
    | _ => cases hx

def mapM8 (s : List UInt8) : List Int := (eightsM s).map fun (n : Nat) => (n : Int)
theorem ReadsM.turned {Bx : Nat} {s : List UInt8} {F : Nat → Prop} {A A' : World} (h : ReadsM Bx s A) (ht : Turned F A A') (hn : ¬ F Bx) : ReadsM Bx s A' :=
  (World.cell?_of_block (w := A) (ht.block _ (World.block_lt_of_cell? _ _ h) hn)).trans h
theorem parse_less (s : List UInt8) (k N : Nat) (hN : s.length / 8 = N) (_ : k ≤ N) (hb : k < N → ¬ eightM s k ≤ 1152921504606846976) (h : k * 8 < s.length) : parseR s = ([], 110) := by
  unfold parseR isM
  rw [if_neg]
  rw [Bool.and_eq_true, decide_eq_true_iff]
  rintro ⟨h1, h2⟩
  rcases Nat.lt_or_ge k N with h3 | h3
  · rw [allM_out s k (by omega) (hb h3)] at h2
    cases h2
  · omega
theorem parse_full (s : List UInt8) (k N : Nat) (hN : s.length / 8 = N) (_ : k ≤ N) (ha : ((eightsM s).take k).all (fun n => decide (n ≤ 1152921504606846976)) = true) (h : ¬ k * 8 < s.length) : parseR s = ((mapM8 s).take k, 0) := by
  have hkN : k = N := by omega
  have hl : (eightsM s).length ≤ k := by rw [eightsM_len]; omega
  rw [List.take_of_length_le hl] at ha
  unfold parseR isM
  rw [if_pos]
  · rw [List.take_of_length_le (by unfold mapM8; rw [List.length_map]; exact hl)]; rfl
  · rw [Bool.and_eq_true, decide_eq_true_iff]
    exact ⟨by omega, ha⟩
theorem amt_eight (s : List UInt8) (k : Nat) : amt (wrap64 (eightM s k)) = decide (eightM s k ≤ 1152921504606846976) := by
  have h : eightM s k < 18446744073709551616 := getB_lt _
  by_cases hx : eightM s k ≤ 1152921504606846976
  · rw [decide_eq_true hx, amt_iff]
    unfold wrap64
    omega
  · rw [decide_eq_false hx, amt_not]
    unfold wrap64
    omega
theorem wrap_eight (s : List UInt8) (k : Nat) (h : eightM s k ≤ 1152921504606846976) : wrap64 (eightM s k) = eightM s k := by unfold wrap64; omega

set_option maxRecDepth 20000 in
set_option maxHeartbeats 1000000 in
theorem moparse_any (s : List UInt8) (hs : s.length ≤ 1000) (w : World) : Calls Tryd.prog 45 #[.string ⟨s.toArray⟩] w (LsPost w (parseR s).1 (parseR s).2) := by
  obtain ⟨R, hR⟩ : ∃ R, parseR s = R := ⟨_, rfl⟩
  have HR : Veil _ := ⟨hR⟩
  rw [hR]
  clear hR
  obtain ⟨rl, rc⟩ := R
  dsimp only
  have hmk := makeM s hs w
  have HSEQ : Veil _ := ⟨fun Bx => eights_seq Bx s (by omega)⟩
  have HE8 : Veil _ := ⟨eights_any s⟩
  have HON : Veil _ := ⟨madeM_own w (s.length / 8) (by omega)⟩
  refine calls_of_wp_marks Tryd.func45 rfl ?_
  simp only [Tryd.ntmps45, List.size_toArray, List.length_cons, List.length_nil, Nat.reduceAdd, Nat.reduceSub, Array.replicate_succ, Array.replicate_zero, List.push_toArray, List.append_toArray, List.nil_append, List.cons_append]
  go_wp2
  go_step3
  go_wp2
  go_step3
  go_wp2_with (go_at_call 61; refine (HE8.out _).mono ?_; rintro e w3 ⟨rfl, hw3⟩)
  obtain ⟨B0, e0⟩ : ∃ B0, w.heap.size = B0 := ⟨_, rfl⟩
  obtain ⟨Bl, e1⟩ : ∃ Bl, B0 + 1 = Bl := ⟨_, rfl⟩
  obtain ⟨Bx, e2⟩ : ∃ Bx, Bl + 1 = Bx := ⟨_, rfl⟩
  have hI0 : ParM w s Bl Bx (.slice (some ⟨B0, 0, none⟩) 0 (s.length / 8)) [] w3 := by
    have hb2 : Below (w.alloc (.cells (madeCells #[Value.int .i64 0] (s.length / 8)) 2)).heap.size (w.alloc (.cells (madeCells #[Value.int .i64 0] (s.length / 8)) 2)) w3 := by rw [← hw3]; exact below_al (below_al (Below.refl _ _) _) _
    refine ⟨?_, ?_, ?_, ?_, ?_, (Turned.new (below_al (Below.refl _ _) _)).trans (Turned.new hb2)⟩
    · rw [← hw3, ← e1, ← e0]
      simp only [heap_alloc_if, World.size_alloc]; repeat (first | rw [if_neg (by omega)] | rw [if_pos (by first | trivial | omega)])
    · rw [← e0]; exact HON.out.below hb2
    · intro h
      have : B0 = Bl := Option.some.inj h
      omega
    · intro h
      have : B0 = Bx := Option.some.inj h
      omega
    · unfold ReadsM
      rw [← hw3, ← e2, ← e1, ← e0]
      go_simp
  have hz3 : w3.heap.size = Bx + 1 := by rw [← hw3, ← e2, ← e1, ← e0]; simp
  rw [e0, e1, e2]
  have HW : Veil (w.heap.size = B0 ∧ B0 + 1 = Bl ∧ Bl + 1 = Bx) := ⟨⟨e0, e1, e2⟩⟩
  clear hmk HON hw3 e0 e1 e2
  obtain ⟨N, hN⟩ : ∃ N, s.length / 8 = N := ⟨_, rfl⟩
  have HN : Veil _ := ⟨hN⟩
  rw [hN] at HSEQ hI0
  have hNi : (s.length : Int) / 8 = (N : Int) := by omega
  rw [hNi, hN]
  clear hN hNi
  refine wp_range_break (gf := 74) (lb := #[.pointer (some ⟨Bx, 0, none⟩)]) rfl (enters_of Tryd.func74 (by kernel_rfl) rfl)
    (HSEQ.out Bx) (fun k => rfl)
    (fun k A => ∃ v, ParM w s Bl Bx v ((mapM8 s).take k) A ∧ ((eightsM s).take k).all (fun n => decide (n ≤ 1152921504606846976)) = true)
    (fun A => ∃ k v, ParM w s Bl Bx v ((mapM8 s).take k) A ∧ ((eightsM s).take k).all (fun n => decide (n ≤ 1152921504606846976)) = true ∧ k ≤ N ∧ (k < N → ¬ eightM s k ≤ 1152921504606846976)) ?hI ?hE ?hF ?h0 ?hN ?hround ?hend
  case hI =>
    rintro k A A' ⟨v, h1, h2⟩ hb
    exact ⟨v, h1.booked hb (by have := HW.out; omega), h2⟩
  case hE =>
    rintro A A' ⟨k, v, h1, h2⟩ hb
    exact ⟨k, v, h1.booked hb (by have := HW.out; omega), h2⟩
  case hF =>
    rintro k A ⟨v, h1, h2⟩
    exact h1.it
  case h0 => exact ⟨_, hI0, rfl⟩
  case hN =>
    rintro A ⟨v, h1, h2⟩
    exact ⟨N, v, h1, h2, Nat.le_refl _, fun h => absurd h (Nat.lt_irrefl _)⟩
  case hround =>
    rintro l m k A hl hlt ⟨v, hi, hall⟩
    have hk8 : k < s.length / 8 := by rw [HN.out]; exact hlt
    have HT : Veil _ := ⟨mapM_take s k hk8⟩
    have HT2 : Veil _ := ⟨allM_take s k hk8⟩
    have HAL : Veil _ := ⟨hall⟩
    have HRT : Veil _ := ⟨fun w => moright_of (wrap64 (eightM s k)) w⟩
    have HK : Veil (((mapM8 s).take k).length ≤ 200) := ⟨Nat.le_trans (List.length_take_le _ _) (by have := HN.out; omega)⟩
    clear hI0 hall HSEQ
    simp only [handsM, List.zip_cons_cons, List.zip_nil_right, List.foldl_cons, List.foldl_nil, List.setIfInBounds_toArray, List.set_cons_succ, List.set_cons_zero]
    rw [amt_eight] at HRT
    by_cases hle : eightM s k ≤ 1152921504606846976
    · rw [decide_eq_true hle, wrap_eight s k hle] at HRT
      rw [wrap_eight s k hle]
      rw [decide_eq_true hle, Bool.and_true] at HT2
      have e9 : (mapM8 s).take (k + 1) = (mapM8 s).take k ++ [(eightM s k : Int)] := HT.out
      have HE9 : Veil _ := ⟨e9⟩
      clear hle e9 HT
      generalize eightM s k = x at HRT HE9
      obtain ⟨X, hX⟩ : ∃ X : Int, (x : Int) = X := ⟨_, rfl⟩
      rw [hX] at HRT HE9 ⊢
      clear hX
      have HI1 : Veil _ := ⟨hi⟩
      clear hi
      gi_wp2
      refine ⟨KeepsFrom.refl _ _, fun A2 hbk hsz => ?_⟩
      have hi2 := HI1.out.booked hbk (by have := HW.out; omega)
      clear HI1 hbk hsz
      have HI2 : Veil _ := ⟨hi2⟩
      clear hi2
      gi_wp2_with (first
        | (refine listIn_op rfl (fun K hK => ?_); refine wpList_append_el elL rfl (.tmp 16) (.tmp 18) rfl w.heap.size v ((mapM8 s).take k) X rfl (HI3.out.own.below (below_al (Below.refl _ _) _)) w2.heap.size rfl (heap_alloc_new _ _) (by have := HK.out; omega) (by have := HI3.out.t.size; simp; omega) ?_; intro v' w9 hown9 hgrow hfrom; obtain ⟨p', c', ev, -, -⟩ := hown9.form; subst ev; have ht9 : Turned (fun j => v.ownBlock = some j) w2 w9 := ((Turned.refl _ w2).alloc _).trans (Turned.grown hgrow (fun j hj _ => hj)); have hv9 := ht9.heap HI3.out.box HI3.out.ne; have q9 := cell_row6 hv9; have f9 : w9.frozen? ⟨Bl, 0, none⟩ = false := frozen_whole hv9 _; refine wpList_nil (one_normal (hK _ _ ?_)); clear hK K)
        | (refine calls_roundM ?_; refine (HRT.out _).mono ?_; rintro e w2 ⟨rfl, hb2⟩; have HI3 : Veil _ := ⟨HI2.out.new hb2⟩; have HB2 : Veil _ := ⟨hb2⟩; have q0 := cell_row6 HI3.out.box; clear hb2))
      have e9 : ((mapM8 s).take k ++ [X]).length = min k (mapM8 s).length + 1 := by simp
      rw [e9] at hown9 hfrom
      have hbx := World.block_lt_of_cell? _ _ HI3.out.it
      dsimp only at hbx
      have htF : ∀ x, Turned (fun j => v.ownBlock = some j ∨ j = Bl) w2 (w9.setCell ⟨Bl, 0, none⟩ x) := fun x => (ht9.wider fun _ _ h => .inl h).setCell (p := ⟨Bl, 0, none⟩) (.inr rfl) _
      have hl9 : ∀ j, v.ownBlock = some j → w.heap.size ≤ j ∧ j < w2.heap.size := fun j hj => HI3.out.own.lt hj
      have hbl : w.heap.size < Bl := by have := HW.out; omega
      have hbl2 := lt_of_heap HI3.out.box
      refine ⟨keepsFrom_turned6 ((Turned.new HB2.out : Turned (fun j => v.ownBlock = some j ∨ j = Bl) A2 w2).trans (htF _)) ?_, _, ⟨heap_setCell_at hv9 0 _, ?_, ?_, ?_, ?_, ?_⟩, ?_⟩
      · rintro j (hj | rfl)
        · right
          obtain ⟨-, h2⟩ := HI2.out.own
          rcases h2 with ⟨rfl, -⟩ | ⟨g, cap, cur, rfl, -, hh, -⟩
          · cases hj
          · cases hj; exact ⟨_, _, _, hh⟩
        · exact .inl (by have := HW.out; omega)
      · rw [HE9.out]
        exact hown9.kept ((Turned.refl (· = Bl) w9).setCell (p := ⟨Bl, 0, none⟩) rfl _) (fun j hj e => by
          subst e
          rcases hfrom _ hj with h | h
          · exact HI3.out.ne h
          · simp at h; omega)
      · intro h
        rcases hfrom _ h with h | h
        · exact HI3.out.ne h
        · simp at h; omega
      · intro h
        rcases hfrom _ h with h | h
        · exact HI3.out.nx h
        · simp at h; omega
      · exact HI3.out.it.turned (htF _) (fun h => by
          rcases h with h | h
          · exact HI3.out.nx h
          · have := HW.out; omega)
      · exact HI3.out.t.then (htF _) (fun j hj e => by
          rcases e with h | h
          · have := (hl9 _ h).1; omega
          · omega)
      · rw [HT2.out]; exact HAL.out
    · rw [decide_eq_false hle] at HRT
      have HI1 : Veil _ := ⟨hi⟩
      have HNE : Veil _ := ⟨hle⟩
      clear hi hle
      generalize wrap64 (eightM s k) = X at HRT
      gi_wp2
      refine ⟨KeepsFrom.refl _ _, fun A2 hbk hsz => ?_⟩
      have hi2 := HI1.out.booked hbk (by have := HW.out; omega)
      have HI2 : Veil _ := ⟨hi2⟩
      clear HI1 hbk hsz hi2
      gi_wp2_with (refine calls_roundM ?_; refine (HRT.out _).mono ?_; rintro e w2 ⟨rfl, hb2⟩)
      exact ⟨keepsFrom_new6 (Turned.new hb2), rfl, k, v, HI2.out.new hb2, HAL.out, Nat.le_of_lt hlt, fun _ => HNE.out⟩
  case hend =>
    rintro Dd A hDd ⟨k, v, hi, hall, hk, hbad⟩ hdd
    obtain ⟨p5, c5, rfl, hE5, hq5⟩ := hi.own.form
    have q0 := cell_row6 hi.box
    have hlk : ((mapM8 s).take k).length = k := by rw [List.length_take]; unfold mapM8; rw [List.length_map, eightsM_len, HN.out]; omega
    rw [hlk] at q0
    have hcap := own_cap hi.own
    have HI2 : Veil _ := ⟨hi⟩
    have HE5 : Veil _ := ⟨hE5⟩
    have HCP : Veil _ := ⟨hcap⟩
    have HLK : Veil _ := ⟨hlk⟩
    have HAL : Veil _ := ⟨hall⟩
    have HBD : Veil _ := ⟨hbad⟩
    have HD : Veil _ := ⟨hdd⟩
    have hk5 : k ≤ 1000 := by have := HN.out; omega
    clear hI0 hi hE5 hcap hlk hall hbad hdd hq5
    obtain ⟨kk, hkk⟩ : ∃ kk : Nat, k * 8 = kk := ⟨_, rfl⟩
    have hkki : (k : Int) * 8 = (kk : Int) := by omega
    have HKK : Veil _ := ⟨hkk⟩
    clear hkk
    by_cases hless : kk < s.length
    · have HE : Veil (rl = [] ∧ rc = 110) := ⟨by have h := HR.out.symm.trans (parse_less s k N HN.out hk HBD.out (by have := HKK.out; omega)); simp only [Prod.mk.injEq] at h; exact h⟩
      obtain ⟨e5, e6⟩ := HE.out
      subst e5 e6
      go_wp2
      refine leaves_mark (D := Dd) (B := w3.heap.size) HD.out hDd ?_
      intro w' hb _
      refine leaves_none (results_two rfl rfl rfl) ⟨none, 0, rfl, Els.nil _ _, Nat.le_refl _, ?_⟩
      exact (hb.turned HI2.out.t (by have := HW.out; omega)).toBelow (Nat.le_refl _) (fun _ _ h => h.elim)
    · have HE : Veil (rl = (mapM8 s).take k ∧ rc = 0) := ⟨by have h := HR.out.symm.trans (parse_full s k N HN.out hk HAL.out (by have := HKK.out; omega)); simp only [Prod.mk.injEq] at h; exact h⟩
      obtain ⟨e5, e6⟩ := HE.out
      subst e5 e6
      go_wp2
      refine leaves_mark (D := Dd) (B := w3.heap.size) HD.out hDd ?_
      intro w' hb _
      refine leaves_none (results_two rfl rfl rfl) ⟨p5, c5, by rw [HLK.out]; rfl, ?_, by rw [HLK.out]; rw [HLK.out] at HCP; exact HCP.out, ?_⟩
      · obtain ⟨p7, c7, e7, h7, -⟩ := OwnE.form (hb.ownsRow (HI2.out.own) : OwnE elL w' w.heap.size _ _)
        cases e7
        exact h7
      · exact (hb.turned HI2.out.t (by have := HW.out; omega)).toBelow (Nat.le_refl _) (fun _ _ h => h.elim)
end Go.Proofs.YtckkiilbabbeaaaDoor
