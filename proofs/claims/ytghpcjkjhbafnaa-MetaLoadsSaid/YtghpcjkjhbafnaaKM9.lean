/- The walks of place, Store, held, places of metas. -/
import Derived.Test.YtghpcjkjhbafnaaKM4
import Derived.Test.YtghpcjkjhbafnaaKPO
namespace Go.Proofs.Ytghpcjkjhbafnaa
open Go Go.RowKit Sm
attribute [local go_sem] Oper.semAt_some

/-- The sector of a transaction's meta. -/
def secM (tx : Nat) : Nat := tx % 2 * 4
theorem secM_lt (tx : Nat) : secM tx ≤ 4 := by unfold secM; omega
theorem mplace_any (tx : Nat) (w : World) : Calls Try.prog 66 #[.int .u64 tx] w fun e w' => e = .returned (.int .i64 (secM tx : Nat)) ∧ w = w' := by
  have e0 : ((tx : Int)).tmod 2 = ((tx % 2 : Nat) : Int) := by rw [Int.tmod_eq_emod_of_nonneg (by omega)]; omega
  have e1 : ((secM tx : Nat) : Int) = ((tx % 2 : Nat) : Int) * 4 := by unfold secM; omega
  have h2 : tx % 2 < 2 := Nat.mod_lt _ (by decide)
  rw [e1]
  clear e1
  generalize tx % 2 = r at *
  have e2 : IntKind.i64.wrap (r : Int) = r := by rw [IntKind.wrap_i64]; omega
  have e3 : IntKind.u64.wrap (r : Int) = r := by rw [IntKind.wrap_u64]; omega
  go_enter Try.func66, Try.ntmps66
  go_wp2
  go_ret
  exact ⟨rfl, rfl⟩

set_option maxRecDepth 20000 in
set_option maxHeartbeats 2000000 in
theorem mstore_bad (m : Mt) (hm : m.Ok) (hr : m.right = false) (x : Option Addr) (w : World) :
    Calls Try.prog 36 #[.pointer x, m.v] w fun e w' => e = .returned (.int .i64 40) ∧ Below w.heap.size w w' := by
  have hE : Veil (∀ w, Calls Try.prog 30 #[m.v] w fun e w' => e = .returned (.tuple #[.string ⟨#[]⟩, .int .i64 40]) ∧ Below w.heap.size w w') := ⟨fun w => by
    have := mencode_any m ⟨hm⟩ w
    unfold Mt.encR at this
    rwa [hr, if_neg (by decide)] at this⟩
  clear hm hr
  obtain ⟨t, a, h, f⟩ := m
  unfold Mt.v at *
  dsimp only at *
  go_enter Try.func36, Try.ntmps36
  go_wp2_with (go_at_call 30; refine (hE.out _).mono ?_; rintro e w2 ⟨rfl, hb2⟩)
  go_ret
  exact ⟨rfl, blw_then (below_al (Below.refl _ w) _) (hb2.mono (by simp))⟩

/-- A box made ahead of a disk's call. -/
theorem post_ahead {w W w' : World} {d kb sb : Nat} {v : Value} {D : Dk} {r : Value} {e : Ending} (hb : Below w.heap.size w W) (h : DiskPost W d kb sb v D r e w') : DiskPost w d kb sb v D r e w' := by
  obtain ⟨he, v', hD, hT, ho⟩ := h
  refine ⟨he, v', hD, (Turned.new hb : Turned (Foot d kb sb v) w W).trans (hT.wider fun _ _ h => h), ?_⟩
  rcases ho with e | e
  · exact .inl e
  · exact .inr fun k hk => Nat.le_trans hb.size (e k hk)

set_option maxRecDepth 20000 in
set_option maxHeartbeats 2000000 in
theorem mstore_good {w : World} {d kb sb : Nat} {v : Value} {D : Dk} (h : DiskAt w d kb sb v D) (m : Mt) (hm : m.Ok) (hr : m.right = true) (hu : D.uns.length < 1000000000000) (ho : D.ops < 1000000000000000) :
    Calls Try.prog 36 #[.pointer (some ⟨d, 0, none⟩), m.v] w (DiskPost w d kb sb v (D.wr (secM m.tx : Nat) m.enc) (.int .i64 (D.wrc (secM m.tx : Nat) m.enc))) := by
  have hE : Veil (∀ w, Calls Try.prog 30 #[m.v] w fun e w' => e = .returned (.tuple #[.string ⟨m.enc.toArray⟩, .int .i64 0]) ∧ Below w.heap.size w w') := ⟨fun w => by
    have := mencode_any m ⟨hm⟩ w
    unfold Mt.encR at this
    rwa [hr, if_pos rfl] at this⟩
  clear hm hr
  generalize m.enc = E at *
  obtain ⟨t, a, hh, f⟩ := m
  unfold Mt.v at *
  dsimp only at *
  have HW : Veil (∀ W : World, Below w.heap.size w W → Calls Try.prog 38 #[.pointer (some ⟨d, 0, none⟩), .int .i64 (secM t : Nat), .string ⟨E.toArray⟩] W (DiskPost w d kb sb v (D.wr (secM t : Nat) E) (.int .i64 (D.wrc (secM t : Nat) E)))) := ⟨fun W hb => (wr_any (h.kept' (Turned.new hb : Turned (fun _ => False) w W) (fun _ => False.elim)) (secM t : Nat) E hu ho).mono fun e w' hp => post_ahead hb hp⟩
  have HP : Veil _ := ⟨mplace_any t⟩
  clear h hu ho
  generalize D.wr (secM t : Nat) E = D' at *
  generalize D.wrc (secM t : Nat) E = c at *
  generalize (secM t : Nat) = sc at *
  obtain ⟨W0, hW0⟩ : ∃ W0, w.alloc (.cells #[.int .u64 t, .int .u32 a, .int .u32 hh, .int .u32 f] 60) = W0 := ⟨_, rfl⟩
  have hp0 : Veil (W0.heap[w.heap.size]? = some (.cells #[.int .u64 t, .int .u32 a, .int .u32 hh, .int .u32 f] 60 (0, 0))) := ⟨by rw [← hW0]; exact heap_alloc_new _ _⟩
  have hz0 : Veil (w.heap.size < W0.heap.size) := ⟨by rw [← hW0]; simp⟩
  have hb0 : Veil (Below w.heap.size w W0) := ⟨by rw [← hW0]; exact below_al (Below.refl _ _) _⟩
  obtain ⟨⟨x0, x1, x2, x3⟩, -⟩ := pack4 hp0.out
  go_enter Try.func36, Try.ntmps36
  go_wp2_with (first
    | (go_at_call 30; refine (hE.out _).mono ?_; rintro e w2 ⟨rfl, hb2⟩; have hp2 : Veil _ := ⟨(hb2.block w.heap.size hz0.out).trans hp0.out⟩; obtain ⟨⟨y0, y1, y2, y3⟩, -⟩ := pack4 hp2.out)
    | (go_at_call 66; refine (HP.out _).mono ?_; rintro e w3 ⟨rfl, rfl⟩)
    | (go_at_call 38; refine (HW.out _ (blw_then hb0.out hb2)).mono ?_; rintro e w4 ⟨rfl, hw4⟩))
  go_ret
  exact ⟨rfl, hw4⟩

/-- The meta that stands in its own place. -/
def heldM (s : List UInt8) (k : Nat) : Mt := if isMt s && decide ((Mt.of s).tx % 2 = k) then Mt.of s else Mt.zero

set_option maxRecDepth 20000 in
set_option maxHeartbeats 2000000 in
theorem held_any (s : List UInt8) (k : Nat) (hs : s.length ≤ 1000) (w : World) : Calls Try.prog 69 #[.string ⟨s.toArray⟩, .int .i64 ((k * 4 : Nat) : Int)] w fun e w' => e = .returned (heldM s k).v ∧ Below w.heap.size w w' := by
  have HD : Veil (∀ w, Calls Try.prog 34 #[.string ⟨s.toArray⟩] w fun e w' => e = .returned (decM s) ∧ Below w.heap.size w w') := ⟨mdecode_any s (by omega)⟩
  obtain ⟨W0, hW0⟩ : ∃ W0, w.alloc (.cells #[.int .u64 0, .int .u32 0, .int .u32 0, .int .u32 0] 60) = W0 := ⟨_, rfl⟩
  have hp0 : Veil (W0.heap[w.heap.size]? = some (.cells #[.int .u64 0, .int .u32 0, .int .u32 0, .int .u32 0] 60 (0, 0))) := ⟨by rw [← hW0]; exact heap_alloc_new _ _⟩
  have hz0 : Veil (w.heap.size < W0.heap.size) := ⟨by rw [← hW0]; simp⟩
  have hb0 : Veil (Below w.heap.size w W0) := ⟨by rw [← hW0]; exact below_al (Below.refl _ _) _⟩
  unfold heldM
  unfold decM mtOf at HD
  cases hi : isMt s
  · rw [hi] at HD
    have HD' : Veil (∀ w, Calls Try.prog 34 #[.string ⟨s.toArray⟩] w fun e w' => e = .returned (.tuple #[.agg #[.int .u64 0, .int .u32 0, .int .u32 0, .int .u32 0], .int .i64 40]) ∧ Below w.heap.size w w') := ⟨HD.out⟩
    show Calls _ _ _ _ fun e w' => e = .returned (.agg #[.int .u64 0, .int .u32 0, .int .u32 0, .int .u32 0]) ∧ Below w.heap.size w w'
    clear HD hi
    go_enter Try.func69, Try.ntmps69
    go_wp2_with (go_at_call 34; refine (HD'.out _).mono ?_; rintro e w2 ⟨rfl, hb2⟩; have hp2 : Veil _ := ⟨(hb2.block w.heap.size hz0.out).trans hp0.out⟩; have hz2 : w.heap.size < w2.heap.size := Nat.lt_of_lt_of_le hz0.out hb2.size; obtain ⟨⟨q0, q1, q2, q3⟩, f0, f1, f2, f3⟩ := pack4 hp2.out)
    exact bodyPost_ret (results_meta (g := w.heap.size) rfl rfl rfl (by rw [Below.heap_alloc _ _ _ (by simpa using hz2)]; exact set4 hp2.out _ _ _ _)) rfl ⟨rfl, below_al (turn4 (hb0.out.trans (hb2.mono hb0.out.size)) (Nat.le_refl _) _ _ _ _) _⟩
  · rw [hi] at HD
    simp only [if_true, Bool.true_and, decide_eq_true_eq] at HD ⊢
    obtain ⟨m, hm⟩ : ∃ m, Mt.of s = m := ⟨_, rfl⟩
    rw [hm] at HD ⊢
    clear hm hi
    obtain ⟨T, A, H, F⟩ := m
    have HPl : Veil (∀ w, Calls Try.prog 66 #[.int .u64 T] w fun e w' => e = .returned (.int .i64 ((T % 2 * 4 : Nat) : Int)) ∧ w = w') := ⟨mplace_any T⟩
    unfold Mt.v at *
    dsimp only at *
    by_cases hk : T % 2 = k
    · rw [if_pos hk]
      rw [hk] at HPl
      have hkk : ((k * 4 : Nat) : Int) = ((k * 4 : Nat) : Int) := rfl
      generalize ((k * 4 : Nat) : Int) = K at *
      clear hkk hk
      go_enter Try.func69, Try.ntmps69
      go_wp2_with (first
        | (go_at_call 66; refine (HPl.out _).mono ?_; rintro e w3 ⟨rfl, rfl⟩)
        | (go_at_call 34; refine (HD.out _).mono ?_; rintro e w2 ⟨rfl, hb2⟩; have hp2 : Veil _ := ⟨(hb2.block w.heap.size hz0.out).trans hp0.out⟩; have hz2 : w.heap.size < w2.heap.size := Nat.lt_of_lt_of_le hz0.out hb2.size; obtain ⟨⟨q0, q1, q2, q3⟩, f0, f1, f2, f3⟩ := pack4 hp2.out))
      exact bodyPost_ret (results_meta (g := w.heap.size) rfl rfl rfl (by rw [Below.heap_alloc _ _ _ (by simpa using hz2)]; exact set4 hp2.out _ _ _ _)) rfl ⟨rfl, below_al (turn4 (hb0.out.trans (hb2.mono hb0.out.size)) (Nat.le_refl _) _ _ _ _) _⟩
    · rw [if_neg hk]
      have hkk : ¬ ((T % 2 * 4 : Nat) : Int) = ((k * 4 : Nat) : Int) := by omega
      generalize ((k * 4 : Nat) : Int) = K at *
      generalize ((T % 2 * 4 : Nat) : Int) = K' at *
      have hkb : (K' != K) = true := by simpa using hkk
      show Calls _ _ _ _ fun e w' => e = .returned (.agg #[.int .u64 0, .int .u32 0, .int .u32 0, .int .u32 0]) ∧ Below w.heap.size w w'
      clear hk
      go_enter Try.func69, Try.ntmps69
      go_wp2_with (first
        | (go_at_call 66; refine (HPl.out _).mono ?_; rintro e w3 ⟨rfl, rfl⟩)
        | (go_at_call 34; refine (HD.out _).mono ?_; rintro e w2 ⟨rfl, hb2⟩; have hp2 : Veil _ := ⟨(hb2.block w.heap.size hz0.out).trans hp0.out⟩; have hz2 : w.heap.size < w2.heap.size := Nat.lt_of_lt_of_le hz0.out hb2.size; obtain ⟨⟨q0, q1, q2, q3⟩, f0, f1, f2, f3⟩ := pack4 hp2.out))
      exact bodyPost_ret (results_meta (g := w.heap.size) rfl rfl rfl (by rw [Below.heap_alloc _ _ _ (by simpa using hz2)]; exact set4 hp2.out _ _ _ _)) rfl ⟨rfl, below_al (turn4 (hb0.out.trans (hb2.mono hb0.out.size)) (Nat.le_refl _) _ _ _ _) _⟩
end Go.Proofs.Ytghpcjkjhbafnaa

/- The walk of Load of a meta. -/
namespace Go.Proofs.Ytghpcjkjhbafnaa
open Go Go.RowKit Sm
attribute [local go_sem] Oper.semAt_some

theorem places_any (w : World) : Calls Try.prog 68 #[] w fun e w' => e = .returned (.func (.func 87) #[] #[]) ∧ w = w' := by
  go_enter Try.func68, Try.ntmps68
  go_wp2
  go_ret
  exact ⟨rfl, rfl⟩

theorem calls_wide {P : Program} {f : FuncId} {args : Array Value} {w : World} {R : Ending → World → Prop} {n : Nat} (h : Calls P f args w R) : Fence.wide.fn f ∧ CallsIn Fence.wide n P f args w R :=
  ⟨trivial, (callsIn_wide (n := n)).2 h⟩
/-- What the iterator hands over. -/
def handsM (k : Nat) : Array Value := #[.int .i64 ((k * 4 : Nat) : Int)]

set_option maxRecDepth 20000 in
set_option maxHeartbeats 1000000 in
theorem places_seq : Seq Try.prog 87 #[] handsM 2 (fun _ => True) := by
  intro l n J Jx W hJ hJx hF hY h0
  refine callsIn_of_wp Try.func87 rfl trivial ?_
  simp only [Try.ntmps87, List.size_toArray, List.length_cons, List.length_nil, Nat.reduceAdd, Nat.reduceSub, Array.replicate_succ, Array.replicate_zero, List.push_toArray, List.append_toArray, List.nil_append, List.cons_append]
  gi_wp2
  gi_loopw [3] (fun i wr => ∃ k : Nat, k ≤ 2 ∧ i = .int .u64 k ∧ J k wr) (fun i _ => 2 - (intOf i).toNat)
  case atStart => exact ⟨0, Nat.zero_le _, rfl, h0⟩
  case round =>
    obtain ⟨k, hk, rfl, hj⟩ := hrel
    by_cases hlt : k < 2
    · have hYk := hY k wr hlt hj
      have HP : Veil (∀ w, Calls Try.prog 66 #[.int .u64 k] w fun e w' => e = .returned (.int .i64 ((k * 4 : Nat) : Int)) ∧ w = w') := ⟨fun w => by
        have := mplace_any k w
        rwa [show secM k = k * 4 by unfold secM; omega] at this⟩
      have e : ((k * 4 : Nat) : Int) = (k : Int) * 4 := by omega
      simp only [handsM, e] at hYk
      obtain ⟨fn, tmps, assign, body, hy, hR⟩ := hYk
      gi_wp2_with (refine calls_wide ?_; refine (HP.out _).mono ?_; rintro e w3 ⟨rfl, rfl⟩)
      refine hR.mono ?_
      rintro e W3 (⟨rfl, hj'⟩ | ⟨rfl, hjx⟩)
      · gi_wp2
        go_roundw
        case rel => exact ⟨k + 1, by omega, by go_num, hj'⟩
        case measure => simp [intOf]; omega
      · gi_wp2
        refine bodyPost_ret (results_none rfl _ _ _) rfl ?_
        exact ⟨⟨_, rfl⟩, .inr ⟨k, hlt, hjx⟩⟩
    · obtain rfl : k = 2 := by omega
      gi_wp2
      go_end0
      exact ⟨⟨_, rfl⟩, .inl hj⟩
end Go.Proofs.Ytghpcjkjhbafnaa
