/- The law on a changed byte: PageHurt. -/
import Derived.Test.YtbmdodkgaehgnaaPH
import Derived.Test.YtbmdodkgaehgnaaPI
import Derived.Test.YtbmdodkgaehgnaaSV
namespace Go.Proofs.Ytbmdodkgaehgnaa
open Go Go.RowKit Sm
attribute [local go_sem] Oper.semAt_some

/-- What Encode answers: letters, and what is known of them. -/
theorem hurt1 (q : Pg) (hq : q.Ok) : ∃ (E : List UInt8) (C : Int), (∀ w, Calls Try.prog 13 #[q.v] w fun e w' => e = .returned (.tuple #[.string ⟨E.toArray⟩, .int .i64 C]) ∧ Below w.heap.size w w') ∧ ((C = 0 ∧ E.length = 256 ∧ ∀ i c, i < 256 → c ≠ E.getD i 0 → ∀ w, Calls Try.prog 17 #[.string ⟨(E.set i c).toArray⟩] w fun e w' => e = .returned (.tuple #[.agg #[.int .i64 0, .int .u32 0, .int .u64 0, .string ⟨#[]⟩], .int .i64 30]) ∧ Below w.heap.size w w') ∨ C = 30) := by
  have h1 := fun w => encode_any q ⟨hq⟩ w
  unfold Pg.encR at h1
  by_cases h : q.right = true
  · rw [if_pos h] at h1
    have hl : q.enc.length = 256 := q.enc_len (q.right_iff.1 h).2.2.2.2.2
    refine ⟨q.enc, 0, h1, .inl ⟨rfl, hl, fun i c hi hc w => ?_⟩⟩
    have h2 := decode_any (q.enc.set i c) (by rw [List.length_set, hl]; decide) w
    unfold decR pgOf at h2
    rw [hurt q h i hi c hc, if_neg (by decide), if_neg (by decide)] at h2
    exact h2
  · rw [if_neg h] at h1
    exact ⟨[], 30, h1, .inr rfl⟩

set_option maxRecDepth 20000 in
set_option maxHeartbeats 4000000 in
theorem pageHurt_bad (p : Pg) (hp : p.In) (at' Y : Int) (w : World) (E : List UInt8) (C : Int) (hE : ∀ w, Calls Try.prog 13 #[p.small.v] w fun e w' => e = .returned (.tuple #[.string ⟨E.toArray⟩, .int .i64 C]) ∧ Below w.heap.size w w') (hb : C = 30 ∨ (C = 0 ∧ E.length = 256 ∧ (at' < 0 ∨ (0 ≤ at' ∧ 255 < at') ∨ (0 ≤ at' ∧ at' ≤ 255 ∧ Y = 0)))) : Calls Try.prog 7 #[p.v, .int .i64 at', .int .u8 Y] w fun e w' => e = .returned (.bool true) ∧ Below w.heap.size w w' := by
  have SM : Veil (∀ w, Calls Try.prog 12 #[p.v] w fun e w' => e = .returned p.small.v ∧ Below w.heap.size w w') := ⟨small_any p hp.b⟩
  have HE : Veil _ := ⟨hE⟩
  clear hE hp
  obtain ⟨k, i, t, b⟩ := p
  unfold Pg.small at *
  unfold Pg.v at *
  dsimp only at *
  generalize b.take 250 = bs at *
  generalize (i : Int) = I at *
  generalize (t : Int) = T at *
  generalize (⟨b.toArray⟩ : ByteArray) = b0 at *
  obtain ⟨WB, hWB⟩ : ∃ WB, w.alloc (.cells #[.int .i64 k, .int .u32 I, .int .u64 T, .string b0] 25) = WB := ⟨_, rfl⟩
  have hpB : Veil (WB.heap[w.heap.size]? = some (.cells #[.int .i64 k, .int .u32 I, .int .u64 T, .string b0] 25 (0, 0))) := ⟨by rw [← hWB]; exact heap_alloc_new _ _⟩
  have hlw : Veil (w.heap.size < WB.heap.size) := ⟨by rw [← hWB]; simp⟩
  have hwB : Veil (Below w.heap.size w WB) := ⟨by rw [← hWB]; exact below_al (Below.refl _ _) _⟩
  go_enter Try.func7, Try.ntmps7
  rcases hb with rfl | ⟨rfl, hl, hb | ⟨hb0, hb⟩ | ⟨hb0, hb1, rfl⟩⟩
  all_goals
    go_wp2_with (first
      | (go_at_call 11; refine (shown3_any _).mono ?_; rintro e w1 ⟨rfl, hb1⟩; have hp1 : Veil _ := ⟨(hb1.block w.heap.size hlw.out).trans hpB.out⟩; obtain ⟨⟨x0, x1, x2, x3⟩, -⟩ := pack4 hp1.out)
      | (go_at_call 12; refine (SM.out _).mono ?_; rintro e w2 ⟨rfl, hb2⟩)
      | (go_at_call 13; refine (HE.out _).mono ?_; rintro e w3 ⟨rfl, hb3⟩))
    go_ret
    exact ⟨rfl, hwB.out.trans ((below_then (below_then hb1 hb2) hb3).mono (Nat.le_of_lt hlw.out))⟩

set_option maxRecDepth 20000 in
set_option maxHeartbeats 4000000 in
theorem pageHurt_good (p : Pg) (hp : p.In) (kk : Nat) (Y : Int) (w : World) (E : List UInt8) (hE : ∀ w, Calls Try.prog 13 #[p.small.v] w fun e w' => e = .returned (.tuple #[.string ⟨E.toArray⟩, .int .i64 0]) ∧ Below w.heap.size w w') (hl : E.length = 256) (hD : ∀ i c, i < 256 → c ≠ E.getD i 0 → ∀ w, Calls Try.prog 17 #[.string ⟨(E.set i c).toArray⟩] w fun e w' => e = .returned (.tuple #[.agg #[.int .i64 0, .int .u32 0, .int .u64 0, .string ⟨#[]⟩], .int .i64 30]) ∧ Below w.heap.size w w') (hk : kk < 256) (hY0 : 0 < Y) (hY : Y < 256) : Calls Try.prog 7 #[p.v, .int .i64 kk, .int .u8 Y] w fun e w' => e = .returned (.bool true) ∧ Below w.heap.size w w' := by
  have SM : Veil (∀ w, Calls Try.prog 12 #[p.v] w fun e w' => e = .returned p.small.v ∧ Below w.heap.size w w') := ⟨small_any p hp.b⟩
  have HE : Veil _ := ⟨hE⟩
  obtain ⟨c, hc⟩ : ∃ c, E.getD kk 0 ^^^ UInt8.ofNat Y.toNat = c := ⟨_, rfl⟩
  have hyt : ((UInt8.ofNat Y.toNat).toNat : Int) = Y := by rw [UInt8.toNat_ofNat']; omega
  have hne : c ≠ E.getD kk 0 := fun e => by
    rw [e] at hc
    have h0 := congrArg (E.getD kk 0 ^^^ ·) hc
    simp only [← UInt8.xor_assoc, UInt8.xor_self, UInt8.zero_xor] at h0
    rw [h0] at hyt
    simp at hyt
    omega
  have HD : Veil _ := ⟨hD kk c hk hne⟩
  have hxor : bits BinOp.xor IntKind.u8 ((E.getD kk 0).toNat : Int) Y = (c.toNat : Int) := by
    rw [← hyt, u8_xor_nat _ _ (UInt8.toNat_lt _) (UInt8.toNat_lt _), ← hc, UInt8.toNat_xor]
  obtain ⟨X, hX⟩ : ∃ X : Int, ((E.getD kk 0).toNat : Int) = X := ⟨_, rfl⟩
  obtain ⟨Z, hZ⟩ : ∃ Z : Int, (c.toNat : Int) = Z := ⟨_, rfl⟩
  rw [hX, hZ] at hxor
  have HXZ : Veil _ := ⟨And.intro hX hZ⟩
  have hk' : (kk : Int) ≤ 255 := by omega
  have hkE : kk < E.length := by omega
  have HK : Veil _ := ⟨hkE⟩
  have hY1 : (Y == 0) = false := by simp; omega
  have hk2 : kk < 256 := hk
  clear hE hp hc hyt hne hX hZ hD hkE
  obtain ⟨k, i, t, b⟩ := p
  unfold Pg.small at *
  unfold Pg.v at *
  dsimp only at *
  generalize b.take 250 = bs at *
  generalize (i : Int) = I at *
  generalize (t : Int) = T at *
  generalize (⟨b.toArray⟩ : ByteArray) = b0 at *
  obtain ⟨WB, hWB⟩ : ∃ WB, w.alloc (.cells #[.int .i64 k, .int .u32 I, .int .u64 T, .string b0] 25) = WB := ⟨_, rfl⟩
  have hpB : Veil (WB.heap[w.heap.size]? = some (.cells #[.int .i64 k, .int .u32 I, .int .u64 T, .string b0] 25 (0, 0))) := ⟨by rw [← hWB]; exact heap_alloc_new _ _⟩
  have hlw : Veil (w.heap.size < WB.heap.size) := ⟨by rw [← hWB]; simp⟩
  have hwB : Veil (Below w.heap.size w WB) := ⟨by rw [← hWB]; exact below_al (Below.refl _ _) _⟩
  go_enter Try.func7, Try.ntmps7
  go_wp2_with (first
    | (go_at_call 11; refine (shown3_any _).mono ?_; rintro e w1 ⟨rfl, hb1⟩; have hp1 : Veil _ := ⟨(hb1.block w.heap.size hlw.out).trans hpB.out⟩; obtain ⟨⟨x0, x1, x2, x3⟩, -⟩ := pack4 hp1.out)
    | (go_at_call 12; refine (SM.out _).mono ?_; rintro e w2 ⟨rfl, hb2⟩)
    | (go_at_call 13; refine (HE.out _).mono ?_; rintro e w3 ⟨rfl, hb3⟩; obtain ⟨cap, W, hcv, hW, hcc⟩ := bytes_of E w3; have hck := (hcc kk HK.out).1; have hfk := (hcc kk HK.out).2; rw [HXZ.out.1] at hck; have hcv2 := conv_set E kk c cap w3.heap.size W hcc; rw [HXZ.out.2, hl] at hcv2; clear hcc)
    | (go_at_call 17; refine (HD.out _).mono ?_; rintro e w5 ⟨rfl, hb5⟩))
  have hT : Below w3.heap.size w3 (W.setCell ⟨w3.heap.size, kk, none⟩ (.int .u8 Z)) := hW.setCell (Nat.le_refl _) _
  have h3 := below_then (below_then (below_then hb1 hb2) hb3) hT
  have h5 := below_then h3 hb5
  go_ret
  exact ⟨rfl, below_al (hwB.out.trans (h5.mono (Nat.le_of_lt hlw.out))) _⟩

theorem pageHurt_any (p : Pg) (hp : p.In) (at' Y : Int) (hY0 : 0 ≤ Y) (hY : Y < 256) (w : World) : Calls Try.prog 7 #[p.v, .int .i64 at', .int .u8 Y] w fun e w' => e = .returned (.bool true) ∧ Below w.heap.size w w' := by
  obtain ⟨E, C, hE, hc⟩ := hurt1 p.small hp.small
  rcases hc with ⟨rfl, hl, hD⟩ | rfl
  · by_cases h : at' < 0 ∨ (0 ≤ at' ∧ 255 < at') ∨ (0 ≤ at' ∧ at' ≤ 255 ∧ Y = 0)
    · exact pageHurt_bad p hp at' Y w E 0 hE (.inr ⟨rfl, hl, h⟩)
    · have hg := pageHurt_good p hp at'.toNat Y w E hE hl hD (by omega) (by omega) hY
      rwa [show ((at'.toNat : Nat) : Int) = at' by omega] at hg
  · exact pageHurt_bad p hp at' Y w E 30 hE (.inl rfl)
end Go.Proofs.Ytbmdodkgaehgnaa
