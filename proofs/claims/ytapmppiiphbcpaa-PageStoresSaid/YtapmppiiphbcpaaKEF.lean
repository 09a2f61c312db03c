/- The document's own Write and Read of pages over the plain disk. -/
import Derived.BigQuiet
import Derived.Test.YtapmppiiphbcpaaKEA
import Derived.Test.YtapmppiiphbcpaaKP7
import Derived.Test.YtapmppiiphbcpaaKPO
import Derived.Test.YtapmppiiphbcpaaKPA
import Derived.Test.YtapmppiiphbcpaaKPM
namespace Go.Proofs.Ytapmppiiphbcpaa
open Go Go.RowKit Sm
attribute [local go_sem] Oper.semAt_some

set_option maxRecDepth 20000 in
set_option maxHeartbeats 2000000 in
theorem rpwrite_bad {w : World} {r : Nat} (p : Pg) (hp : p.Ok) (hr : p.right = false) :
    Calls Try.prog 26 #[.pointer (some ⟨r, 0, none⟩), p.v] w fun e w' => e = .returned (.int .i64 30) ∧ Below w.heap.size w w' := by
  have hE : Veil (∀ w, Calls Try.prog 59 #[p.v] w fun e w' => e = .returned (.tuple #[.string ⟨#[]⟩, .int .i64 30]) ∧ Below w.heap.size w w') := ⟨fun w => by
    have := refencode_any p ⟨hp⟩ w
    unfold Pg.encR at this
    rwa [hr, if_neg (by decide)] at this⟩
  clear hp hr
  obtain ⟨k, i, t, b⟩ := p
  unfold Pg.v at *
  dsimp only at *
  go_enter Try.func26, Try.ntmps26
  go_wp2_with (go_at_call 59; refine (hE.out _).mono ?_; rintro e w2 ⟨rfl, hb2⟩)
  go_ret
  exact ⟨rfl, blw_then (below_al (Below.refl _ w) _) (hb2.mono (by simp))⟩

/-- Between two writes of the document's own: the disk, and the page that the call keeps in a block of its own. -/
structure RWI (w : World) (r : Nat) (vs vw vb : Value) (L pb : Nat) (row : Array Value) (tt : TypeId) (D : Dk) (A : World) : Prop where
  ds : ∃ vw' vb', RefAt A r vs vw' vb' D ∧ (∀ k, vw'.ownBlock = some k → vw.ownBlock = some k ∨ L ≤ k) ∧ ∀ k, vb'.ownBlock = some k → vb.ownBlock = some k ∨ L ≤ k
  t : Turned (RFoot r vs vw vb) w A
  pg : A.heap[pb]? = some (.cells row tt (0, 0))
  sz : L ≤ A.heap.size
section
variable {w A : World} {r : Nat} {vs vw vb : Value} {L pb : Nat} {row : Array Value} {tt : TypeId} {D : Dk}
theorem RWI.write (h : RWI w r vs vw vb L pb row tt D A) (hf : ∀ k, RFoot r vs vw vb k → k < w.heap.size) (h1 : w.heap.size ≤ pb) (h2 : pb < L) (i : Int) (s : List UInt8) (hu : D.uns.length ≤ 1000000) (ho : D.ops ≤ 1000000) :
    Calls Try.prog 49 #[.pointer (some ⟨r, 0, none⟩), .int .i64 i, .string ⟨s.toArray⟩] A fun e w' => e = .returned (.int .i64 (D.wrc i s)) ∧ RWI w r vs vw vb L pb row tt (D.wr i s) w' := by
  obtain ⟨⟨vw', vb', hR, hu', hb'⟩, hT, hp, hz⟩ := h
  have hfoot : ∀ k, RFoot r vs vw' vb' k → RFoot r vs vw vb k ∨ L ≤ k := by
    rintro k (hk | hk | hk | hk)
    · exact .inl (.inl hk)
    · exact .inl (.inr (.inl hk))
    · exact (hu' k hk).imp (fun h => .inr (.inr (.inl h))) id
    · exact (hb' k hk).imp (fun h => .inr (.inr (.inr h))) id
  refine (rwr_any hR i s hu ho).mono ?_
  rintro e w' ⟨he, vw2, vb2, hR2, hT2, hu2, hb2⟩
  refine ⟨he, ⟨vw2, vb2, hR2, fun k hk => ?_, fun k hk => ?_⟩, hT.then hT2 fun k hk hr => ?_, hT2.heap hp fun hr => ?_, Nat.le_trans hz hT2.size⟩
  · rcases hu2 k hk with h | h
    · exact hu' k h
    · exact .inr (Nat.le_trans hz h)
  · rcases hb2 k hk with h | h
    · exact hb' k h
    · exact .inr (Nat.le_trans hz h)
  · rcases hfoot k hr with h | h
    · exact h
    · omega
  · rcases hfoot pb hr with h | h
    · have := hf pb h; omega
    · omega
theorem RWI.below {A' : World} (h : RWI w r vs vw vb L pb row tt D A) (hb : Below A.heap.size A A') : RWI w r vs vw vb L pb row tt D A' := by
  obtain ⟨⟨vw', vb', hR, hu', hb'⟩, hT, hp, hz⟩ := h
  exact ⟨⟨vw', vb', hR.kept' (Turned.new hb : Turned (fun _ => False) A A') (fun _ => False.elim), hu', hb'⟩, hT.then (Turned.new hb : Turned (fun _ => False) A A') (fun _ _ h => h.elim), (hb.block pb (lt_of_heap hp)).trans hp, Nat.le_trans hz hb.size⟩
theorem RWI.post (h : RWI w r vs vw vb L pb row tt D A) (hL : w.heap.size ≤ L) (ans : Value) : RefPost w r vs vw vb D (.returned ans) ans A := by
  obtain ⟨⟨vw', vb', hR, hu', hb'⟩, hT, -, -⟩ := h
  exact ⟨rfl, vw', vb', hR, hT, fun k hk => (hu' k hk).imp id fun h => Nat.le_trans hL h, fun k hk => (hb' k hk).imp id fun h => Nat.le_trans hL h⟩
end

set_option maxRecDepth 20000 in
set_option maxHeartbeats 4000000 in
theorem rpwrite_good {w : World} {r : Nat} {vs vw vb : Value} {R : Dk} (h : RefAt w r vs vw vb R) (p : Pg) (hp : p.Ok) (hr : p.right = true) (hu : R.uns.length + 4 ≤ 1000000) (ho : R.ops + 4 ≤ 1000000) :
    Calls Try.prog 26 #[.pointer (some ⟨r, 0, none⟩), p.v] w fun e w' => RefPost w r vs vw vb (wrs R p.id p.enc 4) e (.int .i64 (wrCode R p.id)) w' := by
  have hE : Veil (∀ w, Calls Try.prog 59 #[p.v] w fun e w' => e = .returned (.tuple #[.string ⟨p.enc.toArray⟩, .int .i64 0]) ∧ Below w.heap.size w w') := ⟨fun w => by
    have := refencode_any p ⟨hp⟩ w
    unfold Pg.encR at this
    rwa [hr, if_pos rfl] at this⟩
  have hel : p.enc.length = 256 := p.enc_len (p.right_iff.1 hr).2.2.2.2.2
  have hid : p.id < 4294967296 := hp.id
  clear hp hr
  generalize p.enc = E at *
  obtain ⟨k, id, t, b⟩ := p
  unfold Pg.v at *
  dsimp only at *
  obtain ⟨W0, hW0⟩ : ∃ W0, w.alloc (.cells #[.int .i64 k, .int .u32 id, .int .u64 t, .string ⟨b.toArray⟩] 49) = W0 := ⟨_, rfl⟩
  have hI : Veil (RWI w r vs vw vb (w.heap.size + 1) w.heap.size #[.int .i64 k, .int .u32 id, .int .u64 t, .string ⟨b.toArray⟩] 49 R W0) := ⟨by
    have hT : Below w.heap.size w W0 := by rw [← hW0]; exact below_al (Below.refl _ _) _
    exact ⟨⟨vw, vb, h.kept' (Turned.new hT : Turned (fun _ => False) w W0) (fun _ => False.elim), fun _ h => .inl h, fun _ h => .inl h⟩, Turned.new hT, by rw [← hW0]; exact heap_alloc_new _ _, by rw [← hW0]; simp⟩⟩
  have hf : ∀ k, RFoot r vs vw vb k → k < w.heap.size := fun k hk => h.rlt hk
  clear h
  have HB : Veil (∀ A A' D, RWI w r vs vw vb (w.heap.size + 1) w.heap.size #[.int .i64 k, .int .u32 id, .int .u64 t, .string ⟨b.toArray⟩] 49 D A → Below A.heap.size A A' → RWI w r vs vw vb (w.heap.size + 1) w.heap.size #[.int .i64 k, .int .u32 id, .int .u64 t, .string ⟨b.toArray⟩] 49 D A') := ⟨fun A A' D h hb => h.below hb⟩
  have HW : Veil (∀ (A : World) (q : Nat), q < 4 → RWI w r vs vw vb (w.heap.size + 1) w.heap.size #[.int .i64 k, .int .u32 id, .int .u64 t, .string ⟨b.toArray⟩] 49 (wrs R id E q) A →
      Calls Try.prog 49 #[.pointer (some ⟨r, 0, none⟩), .int .i64 (4 * (id : Int) + q), .string ⟨(secB E q).toArray⟩] A fun e w' => e = .returned (.int .i64 ((wrs R id E q).wrc ((id * 4 + q : Nat) : Int) (secB E q))) ∧ RWI w r vs vw vb (w.heap.size + 1) w.heap.size #[.int .i64 k, .int .u32 id, .int .u64 t, .string ⟨b.toArray⟩] 49 (wrs R id E (q + 1)) w') := ⟨fun A q hq hA => by
    have h1 := wrs_few R id E q
    have := hA.write hf (Nat.le_refl _) (Nat.lt_succ_self _) ((id * 4 + q : Nat) : Int) (secB E q) (by omega) (by omega)
    rw [show 4 * (id : Int) + q = ((id * 4 + q : Nat) : Int) by omega]
    exact this⟩
  have HP : Veil (∀ A D ans, RWI w r vs vw vb (w.heap.size + 1) w.heap.size #[.int .i64 k, .int .u32 id, .int .u64 t, .string ⟨b.toArray⟩] 49 D A → RefPost w r vs vw vb D (.returned ans) ans A) := ⟨fun A D ans h => h.post (Nat.le_succ _) ans⟩
  clear hf
  obtain ⟨⟨x0, x1, x2, x3⟩, -⟩ := pack4 hI.out.pg
  go_enter Try.func26, Try.ntmps26
  go_wp2_with (go_at_call 59; refine (hE.out _).mono ?_; rintro e w2 ⟨rfl, hb2⟩)
  have hI2 : Veil _ := ⟨HB.out _ _ _ hI.out hb2⟩
  clear hI hb2 hE x0 x1 x2 x3
  go_loopw [7] (fun i A => ∃ q : Nat, q ≤ 4 ∧ i = .int .i64 q ∧ Veil (RWI w r vs vw vb (w.heap.size + 1) w.heap.size #[.int .i64 k, .int .u32 id, .int .u64 t, .string ⟨b.toArray⟩] 49 (wrs R id E q) A ∧ ∀ i, i < q → id * 4 + i < R.kept.length)) (fun i _ => 4 - (intOf i).toNat)
  case atStart => exact ⟨0, Nat.zero_le _, rfl, ⟨hI2.out, fun i hi => absurd hi (by omega)⟩⟩
  case round =>
    obtain ⟨q, hq, rfl, hrel⟩ := hrel
    clear hI2
    by_cases hlt : q < 4
    · have e1 : IntKind.i64.wrap (id : Int) = id := by rw [IntKind.wrap_i64]; omega
      have e2 : IntKind.i64.wrap (4 * (id : Int)) = 4 * id := by rw [IntKind.wrap_i64]; omega
      have e3 : IntKind.i64.wrap (4 * (id : Int) + q) = 4 * id + q := by rw [IntKind.wrap_i64]; omega
      have e4 : IntKind.i64.wrap (64 * (q : Int)) = 64 * q := by rw [IntKind.wrap_i64]; omega
      have e5 : IntKind.i64.wrap (64 * (q : Int) + 64) = 64 * q + 64 := by rw [IntKind.wrap_i64]; omega
      have e6 : IntKind.i64.wrap ((q : Int) + 1) = (q : Int) + 1 := by rw [IntKind.wrap_i64]; omega
      have HWq := HW.out wr.drew q hlt (HB.out _ _ _ hrel.out.1 (Below.refl _ _).drew)
      obtain ⟨⟨y0, y1, y2, y3⟩, -⟩ := pack4 hrel.out.1.pg
      clear HW HB
      by_cases hin : id * 4 + q < R.kept.length
      · rw [show (wrs R id E q).wrc ((id * 4 + q : Nat) : Int) (secB E q) = 0 by
          unfold Dk.wrc
          rw [if_pos ⟨by omega, by rw [wrs_kept]; omega⟩, if_pos (secB_len E q)]] at HWq
        have hx : (⟨E.toArray⟩ : ByteArray).extract (64 * q) (64 * q + 64) = ⟨(secB E q).toArray⟩ := by
          rw [extract_list', show 64 * q + 64 - 64 * q = 64 by omega, secB, Nat.mul_comm]
        rw [← hx] at HWq
        have HWQ : Veil _ := ⟨HWq⟩
        have HRL : Veil _ := ⟨hrel.out.2⟩
        have i1 : (0 : Int) ≤ 64 * (q : Int) := by omega
        have i2 : 64 * (q : Int) ≤ 64 * (q : Int) + 64 := by omega
        have i3 : 64 * (q : Int) + 64 ≤ 256 := by omega
        clear HWq hx hrel
        obtain ⟨W5, hW5⟩ : ∃ W5, wr.drew = W5 := ⟨_, rfl⟩
        rw [hW5] at HWQ
        have z1 : W5.cell? ⟨w.heap.size, 1, none⟩ = some (.int .u32 id) := by rw [← hW5]; exact y1
        clear y0 y1 y2 y3
        go_wp2
        refine region_tail 14 (by kernel_rfl) (by kernel_rfl) W5 hW5 ?_
        clear hW5
        simp only [List.take_succ_cons, List.take_zero, List.drop_succ_cons, List.drop_zero]
        iterate 14 still_step
        refine wpStill_nil ?_
        go_wp2_with (go_at_call 49; refine HWQ.out.mono ?_; rintro e w3 ⟨rfl, hw3⟩)
        refine only_normal ?_
        have HX3 : Veil _ := ⟨hw3⟩
        clear hw3 HWQ
        go_wp2
        go_roundw
        case rel => exact ⟨q + 1, by omega, by go_num, ⟨HX3.out, fun i hi => by
          rcases Nat.lt_or_eq_of_le (Nat.le_of_lt_succ hi) with h | h
          · exact HRL.out i h
          · rw [h]; exact hin⟩⟩
        case measure => simp [intOf]; omega
      · rw [show (wrs R id E q).wrc ((id * 4 + q : Nat) : Int) (secB E q) = 10 by
          unfold Dk.wrc
          rw [if_neg (by rw [wrs_kept]; omega)]] at HWq
        have hx : (⟨E.toArray⟩ : ByteArray).extract (64 * q) (64 * q + 64) = ⟨(secB E q).toArray⟩ := by
          rw [extract_list', show 64 * q + 64 - 64 * q = 64 by omega, secB, Nat.mul_comm]
        rw [← hx] at HWq
        have HWQ : Veil _ := ⟨HWq⟩
        have HST : Veil (wrs R id E (q + 1) = wrs R id E 4 ∧ wrCode R id = 10) := ⟨by
          have h1 := wrs_stop R id E q (by omega) 1
          have h2 := wrs_stop R id E q (by omega) (4 - q)
          rw [show q + (4 - q) = 4 by omega] at h2
          exact ⟨h1.trans h2.symm, by unfold wrCode loadOk; rw [if_neg (by simp; omega)]⟩⟩
        have i1 : (0 : Int) ≤ 64 * (q : Int) := by omega
        have i2 : 64 * (q : Int) ≤ 64 * (q : Int) + 64 := by omega
        have i3 : 64 * (q : Int) + 64 ≤ 256 := by omega
        clear HWq hx hrel
        obtain ⟨W5, hW5⟩ : ∃ W5, wr.drew = W5 := ⟨_, rfl⟩
        rw [hW5] at HWQ
        have z1 : W5.cell? ⟨w.heap.size, 1, none⟩ = some (.int .u32 id) := by rw [← hW5]; exact y1
        clear y0 y1 y2 y3
        go_wp2
        refine region_tail 14 (by kernel_rfl) (by kernel_rfl) W5 hW5 ?_
        clear hW5
        simp only [List.take_succ_cons, List.take_zero, List.drop_succ_cons, List.drop_zero]
        iterate 14 still_step
        refine wpStill_nil ?_
        go_wp2_with (go_at_call 49; refine HWQ.out.mono ?_; rintro e w3 ⟨rfl, hw3⟩)
        refine only_normal ?_
        have HX3 : Veil _ := ⟨hw3⟩
        clear hw3 HWQ
        go_wp2
        go_ret
        rw [HST.out.2, ← HST.out.1]
        exact HP.out _ _ _ HX3.out
    · obtain rfl : q = 4 := by omega
      have HST : Veil (wrCode R id = 0) := ⟨by unfold wrCode loadOk; rw [if_pos (by have := hrel.out.2 3 (by omega); simp; omega)]⟩
      have HX3 : Veil _ := ⟨hrel.out.1⟩
      clear hrel HW HB
      go_wp2
      go_ret
      rw [HST.out]
      exact HP.out _ _ _ HX3.out
end Go.Proofs.Ytapmppiiphbcpaa

/- The document's own Read of a page over the plain disk. -/
namespace Go.Proofs.Ytapmppiiphbcpaa
open Go Go.RowKit Sm
attribute [local go_sem] Oper.semAt_some

/-- What the document's Decode answers, in letters. -/
theorem rdec_of (s : List UInt8) (hs : s.length ≤ 1000) : ∃ (K I T : Int) (B : List UInt8) (C : Int), (∀ w, Calls Try.prog 61 #[.string ⟨s.toArray⟩] w fun e w' => e = .returned (.tuple #[.agg #[.int .i64 K, .int .u32 I, .int .u64 T, .string ⟨B.toArray⟩], .int .i64 C]) ∧ Below w.heap.size w w') ∧
    ((isPg s = true ∧ C = 0 ∧ K = (Pg.of s).kind ∧ I = (Pg.of s).id ∧ T = (Pg.of s).tx ∧ B = (Pg.of s).body) ∨ (isPg s = false ∧ C = 30)) := by
  have h2 := fun w => refdecode_any s (by omega) w
  unfold decR pgOf at h2
  by_cases h : isPg s = true
  · rw [if_pos h, if_pos h] at h2
    exact ⟨_, _, _, _, 0, h2, .inl ⟨h, rfl, rfl, rfl, rfl, rfl⟩⟩
  · rw [if_neg h, if_neg h] at h2
    exact ⟨_, _, _, _, 30, h2, .inr ⟨by simpa using h, rfl⟩⟩

set_option maxRecDepth 20000 in
set_option maxHeartbeats 4000000 in
theorem rpread_any {w : World} {r : Nat} {vs vw vb : Value} {R : Dk} (h : RefAt w r vs vw vb R) (hi : R.Inv) (ho : R.Ok) (hm : R.uns.length ≤ 1000000) (id : Nat) (hid : id < 4294967296) :
    Calls Try.prog 28 #[.pointer (some ⟨r, 0, none⟩), .int .u32 id] w fun e w' => e = .returned (rdV R id) ∧ Below w.heap.size w w' := by
  obtain ⟨W0, hW0⟩ : ∃ W0, w.alloc (.cells #[.int .i64 0, .int .u32 0, .int .u64 0, .string ⟨#[]⟩] 49) = W0 := ⟨_, rfl⟩
  have hp0 : Veil (W0.heap[w.heap.size]? = some (.cells #[.int .i64 0, .int .u32 0, .int .u64 0, .string ⟨#[]⟩] 49 (0, 0))) := ⟨by rw [← hW0]; exact heap_alloc_new _ _⟩
  have hz0 : Veil (w.heap.size < W0.heap.size) := ⟨by rw [← hW0]; simp⟩
  have hb0 : Veil (Below w.heap.size w W0) := ⟨by rw [← hW0]; exact below_al (Below.refl _ _) _⟩
  have HRd : Veil (∀ q : Nat, Calls Try.prog 22 #[.pointer (some ⟨r, 0, none⟩), .int .i64 (4 * (id : Int) + q)] W0 fun e w' => e = .returned (readR R (4 * (id : Int) + q)) ∧ W0 = w') := ⟨fun q => rread_any (h.kept' (Turned.new hb0.out : Turned (fun _ => False) w W0) (fun _ => False.elim)) hi _ hm⟩
  have HAL : Veil (∀ k, (accL R id k).length ≤ 64 * k) := ⟨fun k => accL_len R ho id k⟩
  have HS : Veil (∀ k, k < R.kept.length → (R.seen.getD k []).length ≤ 64) := ⟨fun k hk => by
    have hl : k < R.seen.length := by rw [ho.len]; exact hk
    have := ho.s64 (R.seen.getD k []) (by simp [List.getD, hl])
    omega⟩
  obtain ⟨V, hV⟩ : ∃ V, rdV R id = V := ⟨_, rfl⟩
  have HRV : Veil _ := ⟨hV⟩
  rw [hV]
  clear h hi hm ho hV
  go_enter Try.func28, Try.ntmps28
  go_wp2
  clear hW0
  go_loop [6, 7] (fun s i => ∃ q : Nat, q ≤ 4 ∧ i = .int .i64 q ∧ s = .string ⟨(accL R id q).toArray⟩ ∧ ∀ i, i < q → id * 4 + i < R.kept.length) (fun _ i => 4 - (intOf i).toNat)
  case atStart => exact ⟨0, Nat.zero_le _, rfl, rfl, fun i hi => absurd hi (by omega)⟩
  case round =>
    obtain ⟨q, hq, rfl, rfl, hr⟩ := hrel
    by_cases hlt : q < 4
    · have e1 : IntKind.i64.wrap (id : Int) = id := by rw [IntKind.wrap_i64]; omega
      have e2 : IntKind.i64.wrap (4 * (id : Int)) = 4 * id := by rw [IntKind.wrap_i64]; omega
      have e3 : IntKind.i64.wrap (4 * (id : Int) + q) = 4 * id + q := by rw [IntKind.wrap_i64]; omega
      have HRk := HRd.out q
      have HRL : Veil _ := ⟨hr⟩
      by_cases hin : id * 4 + q < R.kept.length
      · have hrd : readR R (4 * (id : Int) + q) = .tuple #[sv (R.seen.getD (id * 4 + q) []), .int .i64 0] := by
          unfold readR
          rw [if_pos (by omega), show (4 * (id : Int) + q).toNat = id * 4 + q by omega]
        rw [hrd] at HRk
        have HSU : Veil _ := ⟨accL_succ R id q⟩
        have hs := HS.out (id * 4 + q) hin
        have ha := HAL.out q
        have HIN : Veil _ := ⟨hin⟩
        clear hrd hr hin HRd
        revert hs ha HSU HRk
        generalize R.seen.getD (id * 4 + q) [] = s
        generalize accL R id q = acc
        intro HRk HSU hs ha
        unfold sv at HRk
        have hlen : acc.length + s.length ≤ 1000 := by omega
        have HRK : Veil _ := ⟨HRk⟩
        clear hs ha HRk
        go_wp2_with (go_at_call 22; refine HRK.out.mono ?_; rintro e w1 ⟨rfl, rfl⟩)
        go_round
        case rel => exact ⟨q + 1, by omega, by go_num, by rw [HSU.out]; exact congrArg Value.string (by apply ByteArray.ext; simp), fun i hi => by
          rcases Nat.lt_or_eq_of_le (Nat.le_of_lt_succ hi) with h | h
          · exact HRL.out i h
          · rw [h]; exact HIN.out⟩
        case measure => simp [intOf]; omega
      · have hrd : readR R (4 * (id : Int) + q) = .tuple #[.string ⟨#[]⟩, .int .i64 10] := by
          unfold readR
          rw [if_neg (by omega)]
        rw [hrd] at HRk
        have HV : Veil (V = .tuple #[.agg #[.int .i64 0, .int .u32 0, .int .u64 0, .string ⟨#[]⟩], .int .i64 10]) := ⟨by
          have : loadOk R id = false := by simp [loadOk]; omega
          rw [← HRV.out]; unfold rdV rdOk; simp [this]⟩
        have HRK : Veil _ := ⟨HRk⟩
        obtain ⟨⟨y0, y1, y2, y3⟩, g0, g1, g2, g3⟩ := pack4 hp0.out
        clear hrd hr HRd HRk
        go_wp2_with (go_at_call 22; refine HRK.out.mono ?_; rintro e w1 ⟨rfl, rfl⟩)
        exact bodyPost_ret (results_page2 (g := w.heap.size) rfl rfl rfl (set4 hp0.out _ _ _ _)) rfl ⟨by rw [HV.out]; rfl, turn4 hb0.out (Nat.le_refl _) _ _ _ _⟩
    · obtain rfl : q = 4 := by omega
      have hok : loadOk R id = true := by have := hr 3 (by omega); simp [loadOk]; omega
      have hRR : V = if isPg (accL R id 4) = true ∧ (Pg.of (accL R id 4)).id = id then .tuple #[(Pg.of (accL R id 4)).v, .int .i64 0] else .tuple #[.agg #[.int .i64 0, .int .u32 0, .int .u64 0, .string ⟨#[]⟩], .int .i64 30] := by
        rw [← HRV.out]; unfold rdV rdOk; simp [hok]
      obtain ⟨K, I, T, B, C, hD, hc⟩ := rdec_of (accL R id 4) (by have := HAL.out 4; omega)
      have HD : Veil _ := ⟨hD⟩
      clear hD hok hr HRd HAL HS HRV
      revert HD hc hRR
      generalize accL R id 4 = s
      intro hRR hc HD
      rcases hc with ⟨hp, rfl, rfl, rfl, rfl, rfl⟩ | ⟨hp, rfl⟩
      · by_cases hi : (Pg.of s).id = id
        · rw [if_pos ⟨hp, hi⟩] at hRR
          unfold Pg.v at hRR
          rw [hi] at HD hRR
          have HRR : Veil _ := ⟨hRR⟩
          clear hRR
          generalize (Pg.of s).kind = K at *
          generalize (Pg.of s).tx = T at *
          generalize (Pg.of s).body = B at *
          clear hp hi
          go_wp2_with (go_at_call 61; refine (HD.out _).mono ?_; rintro e w2 ⟨rfl, hb2⟩; have hp2 : Veil _ := ⟨(hb2.block w.heap.size hz0.out).trans hp0.out⟩; have hz2 : w.heap.size < w2.heap.size := Nat.lt_of_lt_of_le hz0.out hb2.size; obtain ⟨⟨q0, q1, q2, q3⟩, f0, f1, f2, f3⟩ := pack4 hp2.out)
          exact bodyPost_ret (results_page2 (g := w.heap.size) rfl rfl rfl (by rw [Below.heap_alloc _ _ _ (by simpa using hz2)]; exact set4 hp2.out _ _ _ _)) rfl ⟨by rw [HRR.out]; rfl, below_al (turn4 (below_then hb0.out hb2) (Nat.le_refl _) _ _ _ _) _⟩
        · rw [if_neg (fun h => hi h.2)] at hRR
          have HRR : Veil _ := ⟨hRR⟩
          clear hRR
          have hne : (((Pg.of s).id : Int) == (id : Int)) = false := by simp; omega
          revert HD hne
          generalize (Pg.of s).kind = K
          generalize (Pg.of s).tx = T
          generalize (Pg.of s).body = B
          generalize (Pg.of s).id = a
          intro HD hne
          clear hp hi
          go_wp2_with (go_at_call 61; refine (HD.out _).mono ?_; rintro e w2 ⟨rfl, hb2⟩; have hp2 : Veil _ := ⟨(hb2.block w.heap.size hz0.out).trans hp0.out⟩; have hz2 : w.heap.size < w2.heap.size := Nat.lt_of_lt_of_le hz0.out hb2.size; obtain ⟨⟨q0, q1, q2, q3⟩, f0, f1, f2, f3⟩ := pack4 hp2.out)
          exact bodyPost_ret (results_page2 (g := w.heap.size) rfl rfl rfl (by rw [Below.heap_alloc _ _ _ (by simpa using hz2)]; exact set4 hp2.out _ _ _ _)) rfl ⟨by rw [HRR.out]; rfl, below_al (turn4 (below_then hb0.out hb2) (Nat.le_refl _) _ _ _ _) _⟩
      · rw [if_neg (fun h => absurd h.1 (by rw [hp]; decide))] at hRR
        have HRR : Veil _ := ⟨hRR⟩
        clear hRR
        clear hp
        go_wp2_with (go_at_call 61; refine (HD.out _).mono ?_; rintro e w2 ⟨rfl, hb2⟩; have hp2 : Veil _ := ⟨(hb2.block w.heap.size hz0.out).trans hp0.out⟩; have hz2 : w.heap.size < w2.heap.size := Nat.lt_of_lt_of_le hz0.out hb2.size; obtain ⟨⟨q0, q1, q2, q3⟩, f0, f1, f2, f3⟩ := pack4 hp2.out)
        exact bodyPost_ret (results_page2 (g := w.heap.size) rfl rfl rfl (by rw [Below.heap_alloc _ _ _ (by simpa using hz2)]; exact set4 hp2.out _ _ _ _)) rfl ⟨by rw [HRR.out]; rfl, below_al (turn4 (below_then hb0.out hb2) (Nat.le_refl _) _ _ _ _) _⟩
end Go.Proofs.Ytapmppiiphbcpaa
