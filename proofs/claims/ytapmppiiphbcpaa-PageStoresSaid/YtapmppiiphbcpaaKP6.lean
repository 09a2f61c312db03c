/- The document's own: Right, Put, Get. -/
import Derived.Test.YtapmppiiphbcpaaKP5
namespace Go.Proofs.Ytapmppiiphbcpaa
open Go Go.RowKit Sm
attribute [local go_sem] Oper.semAt_some

set_option maxRecDepth 20000 in
set_option maxHeartbeats 1000000 in
theorem refright_any (p : Pg) (hp : Veil p.Ok) (w : World) : Calls Try.prog 82 #[p.v] w fun e w' => e = .returned (.bool p.right) ∧ Below w.heap.size w w' := by
  have HR : Veil _ := ⟨p.right_iff⟩
  obtain ⟨r, hr⟩ : ∃ r, p.right = r := ⟨_, rfl⟩
  rw [hr] at HR ⊢
  clear hr
  obtain ⟨k, i, t, b⟩ := p
  have h1 : b.length ≤ 1000000 := hp.out.b
  unfold Pg.v
  simp only at *
  obtain ⟨I, hI⟩ : ∃ I : Int, (i : Int) = I := ⟨_, rfl⟩
  obtain ⟨T, hT⟩ : ∃ T : Int, (t : Int) = T := ⟨_, rfl⟩
  obtain ⟨N, hN⟩ : ∃ N : Int, (b.length : Int) = N := ⟨_, rfl⟩
  have H : Veil ((i : Int) = I ∧ (t : Int) = T ∧ (b.length : Int) = N) := ⟨hI, hT, hN⟩
  rw [hI, hT]
  clear hI hT
  go_enter Try.func82, Try.ntmps82
  go_wp2
  all_goals
    go_ret
    refine ⟨?_, below_al (Below.refl _ _) _⟩
    refine (show Ending.returned (Value.bool _) = Ending.returned (Value.bool _) from congrArg (fun x => Ending.returned (Value.bool x)) ?_)
    obtain ⟨h1, h2, h3⟩ := H.out
    have hr := HR.out
    cases r <;> simp at hr ⊢ <;> omega

set_option maxRecDepth 20000 in
set_option maxHeartbeats 1000000 in
theorem put_any (vl sz : Nat) (hsz : sz ≤ 8) (w : World) : Calls Try.prog 68 #[.int .u64 vl, .int .i64 sz] w fun e w' => e = .returned (.string ⟨(putB vl sz).toArray⟩) ∧ Below w.heap.size w w' := by
  go_enter Try.func68, Try.ntmps68
  go_wp2
  go_loopw [5, 6] (fun s j wi => ∃ (m : Nat) (z : Int), m ≤ sz ∧ z = (sz : Int) - 1 - m ∧ j = .int .i64 z ∧ Below w.heap.size w wi ∧ Veil (OwnB wi w.heap.size s ((putB vl sz).take m))) (fun _ j _ => (intOf j + 1).toNat)
  case atStart => exact ⟨0, _, Nat.zero_le _, by simp, rfl, Below.refl _ _, ⟨World.ownsRow_nil _ _ _ _⟩⟩
  case round =>
    obtain ⟨m, z, hm, hz, rfl, hB2, hA2⟩ := hrel
    by_cases hz0 : 0 ≤ z
    · have hzz := Lib.hid hz
      have hz9 : z ≤ 8 := by omega
      have HB2 := Lib.hid hB2
      clear hB2 hz
      have HV : Veil _ := ⟨byte_shr vl z hz0⟩
      have HP : Veil _ := ⟨putB_take vl sz m (by have := hzz.out; omega)⟩
      have HE : Veil (sz - 1 - m = z.toNat) := ⟨by have := hzz.out; omega⟩
      go_wp2_with (refine wpList_append_u8 rfl (.tmp 13) (.tmp 20) rfl w.heap.size _ ((putB vl sz).take m) (byteAt vl z.toNat) rfl (hA2.out.alloc _) ⟨wr.heap.size, 0, none⟩ rfl (by rw [← HV.out]; exact cell_alloc_one _ _ _) (by simp; omega) (by have := HB2.out.size; simp; omega) ?_; intro g cap w9 hown hgrow hlies hglt)
      have hnn := own_next (L := []) (n := m + 1) hown (show (putB vl sz).take (m + 1) = _ by rw [HP.out, HE.out]) (by have := hzz.out; simp; omega)
      rw [List.nil_append] at hnn
      refine ⟨⟨m + 1, z - 1, by have := hzz.out; omega, by have := hzz.out; omega, rfl, below_grown HB2.out hA2.out hgrow, ⟨by simpa using hnn⟩⟩, ?_⟩
      simp only [intOf]; omega
    · obtain rfl : m = sz := by omega
      have hfull : (putB vl m).take m = putB vl m := by rw [List.take_of_length_le (by simp)]
      rw [hfull] at hA2
      have hconv := conv_own hA2.out
      have HB2 := Lib.hid hB2
      clear hB2 hz hfull
      go_wp2
      go_ret
      exact ⟨rfl, HB2.out⟩

set_option maxRecDepth 20000 in
set_option maxHeartbeats 1000000 in
theorem get_any (s : List UInt8) (hs : s.length ≤ 1000000) (w : World) : Calls Try.prog 71 #[.string ⟨s.toArray⟩] w fun e w' => e = .returned (.int .u64 (getB s)) ∧ w = w' := by
  go_enter Try.func71, Try.ntmps71
  go_wp2
  go_loop [3, 4] (fun n j => ∃ m : Nat, m ≤ s.length ∧ j = .int .i64 m ∧ n = .int .u64 (getB (s.take m))) (fun _ j => s.length - (intOf j).toNat)
  case atStart => exact ⟨0, Nat.zero_le _, rfl, rfl⟩
  case round =>
    obtain ⟨m, hm, rfl, rfl⟩ := hrel
    by_cases hlm : m < s.length
    · have HG : Veil _ := ⟨getB_take s m hlm⟩
      have hci : (⟨s.toArray⟩ : ByteArray)[m]'(by simpa [ByteArray.size] using hlm) = s.getD m 0 := by
        simp [List.getD, hlm]
        rfl
      revert hci HG
      generalize getB (s.take m) = v
      generalize s.getD m 0 = c
      intro HG hci
      obtain ⟨V, hV⟩ : ∃ V : Int, (v : Int) = V := ⟨_, rfl⟩
      obtain ⟨C, hC⟩ : ∃ C : Int, (c.toNat : Int) = C := ⟨_, rfl⟩
      obtain ⟨R, hR⟩ : ∃ R : Int, ((shl64 v c : Nat) : Int) = R := ⟨_, rfl⟩
      have ho : bits BinOp.or IntKind.u64 (IntKind.u64.wrap (V * 256)) C = R := by rw [← hV, ← hC, ← hR]; exact or_byte64 v c
      have hc2 : 0 ≤ C ∧ C < 256 := by have := c.toNat_lt; omega
      obtain ⟨hc2, hc3⟩ := hc2
      have HR : Veil _ := ⟨hR⟩
      rw [hV]
      clear hV hR
      go_wp2
      refine ⟨⟨m + 1, by omega, by go_num, by rw [HG.out, ← HR.out]⟩, ?_⟩
      simp only [intOf]; omega
    · obtain rfl : m = s.length := by omega
      rw [List.take_length]
      go_wp2
      go_ret
      exact ⟨rfl, rfl⟩
end Go.Proofs.Ytapmppiiphbcpaa
