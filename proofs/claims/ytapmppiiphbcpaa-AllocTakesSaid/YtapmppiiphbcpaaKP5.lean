/- The walk of Encode. -/
import Derived.Test.YtapmppiiphbcpaaSh
import Derived.Test.YtapmppiiphbcpaaKP3
namespace Go.Proofs.Ytapmppiiphbcpaa
open Go Go.RowKit Sm
attribute [local go_sem] Oper.semAt_some

theorem bcell {W w1 : World} (hb : Below W.heap.size W w1) : (∀ b o, b < W.heap.size → w1.cell? ⟨b, o, none⟩ = W.cell? ⟨b, o, none⟩) ∧ (∀ b o, b < W.heap.size → w1.frozen? ⟨b, o, none⟩ = W.frozen? ⟨b, o, none⟩) :=
  ⟨fun b o h => hb.cell (p := ⟨b, o, none⟩) h, fun b o h => hb.frozen (p := ⟨b, o, none⟩) h⟩
def Pg.head (p : Pg) : List UInt8 := wrB [(1, p.kind.toNat), (4, p.id), (8, p.tx), (2, p.body.length)]
def Pg.text (p : Pg) : List UInt8 := p.head ++ p.body
def Pg.sealed (p : Pg) : List UInt8 := p.text ++ sealB (sumN p.text)
def Pg.enc (p : Pg) : List UInt8 := p.sealed ++ List.replicate (256 - p.sealed.length) 0
def Pg.encR (p : Pg) : Value := if p.right then .tuple #[.string ⟨p.enc.toArray⟩, .int .i64 0] else .tuple #[.string ⟨#[]⟩, .int .i64 30]
theorem sealB_len' (n : Nat) : (sealB n).length = 4 := rfl
theorem Pg.head_len (p : Pg) : p.head.length = 15 := by simp [Pg.head, wrB]
theorem Pg.sealed_len (p : Pg) : p.sealed.length = 19 + p.body.length := by simp [Pg.sealed, Pg.text, p.head_len, sealB_len']; omega
theorem Pg.enc_len (p : Pg) (h : p.body.length ≤ 237) : p.enc.length = 256 := by simp [Pg.enc, p.sealed_len]; omega

set_option maxRecDepth 20000 in
set_option maxHeartbeats 1000000 in
theorem encode_any (p : Pg) (hp : Veil p.Ok) (w : World) : Calls Try.prog 55 #[p.v] w fun e w' => e = .returned p.encR ∧ Below w.heap.size w w' := by
  have hR : Veil (∀ w, Calls Try.prog 76 #[p.v] w fun e w' => e = .returned (.bool p.right) ∧ Below w.heap.size w w') := ⟨right_any p hp⟩
  unfold Pg.encR
  cases hr : p.right
  · rw [hr] at hR
    clear hr hp
    obtain ⟨k, i, t, b⟩ := p
    unfold Pg.v at hR ⊢
    simp only at hR ⊢
    go_enter Try.func55, Try.ntmps55
    go_wp2_with (go_at_call 76; refine (hR.out _).mono ?_; rintro e w2 ⟨rfl, hb2⟩)
    go_ret2
    exact ⟨rfl, (below_al (Below.refl _ _) _).trans (hb2.mono (by simp))⟩
  · have hrr := p.right_iff.1 hr
    rw [hr] at hR
    obtain ⟨k, i, t, b⟩ := p
    simp only at hrr
    obtain ⟨n, rfl⟩ : ∃ n : Nat, k = n := ⟨k.toNat, by omega⟩
    have hW : Veil (∀ w : World, Calls Try.prog 77 #[.slice (some ⟨w.heap.size, 0, none⟩) 4 4] (w.alloc (.cells #[.int .i64 1, .int .u64 n, .int .i64 4, .int .u64 i, .int .i64 8, .int .u64 t, .int .i64 2, .int .u64 b.length] 133)) fun e w' => e = .returned (.string ⟨(wrB [(1, n), (4, i), (8, t), (2, b.length)]).toArray⟩) ∧ Below w.heap.size w w') := ⟨fun w => by
      refine (written_any w.heap.size 4 [(1, n), (4, i), (8, t), (2, b.length)] _ ?_ (by simp) ⟨?_⟩ (by simp)).mono fun e w' ⟨he, hb⟩ => ⟨he, (below_al (Below.refl _ w) _).trans (hb.mono (by simp))⟩
      · intro j hj
        have : j = 0 ∨ j = 1 ∨ j = 2 ∨ j = 3 := by simp at hj; omega
        rcases this with rfl | rfl | rfl | rfl <;> constructor <;> rw [cell_whole (cur := [.int .i64 1, .int .u64 n, .int .i64 4, .int .u64 i, .int .i64 8, .int .u64 t, .int .i64 2, .int .u64 b.length]) (heap_alloc_new _ _)] <;> rfl
      · have h1 := hp.out.id
        have h2 := hp.out.tx
        simp only at h1 h2
        intro x hx
        simp only [List.mem_cons, List.not_mem_nil, or_false] at hx
        rcases hx with rfl | rfl | rfl | rfl <;> simp only <;> omega⟩
    obtain ⟨hd, hhd⟩ : ∃ hd, wrB [(1, n), (4, i), (8, t), (2, b.length)] = hd := ⟨_, rfl⟩
    have hdl : hd.length = 15 := by rw [← hhd]; simp [wrB]
    rw [hhd] at hW
    have hS : Veil (∀ w, Calls Try.prog 78 #[.string (⟨hd.toArray⟩ ++ ⟨b.toArray⟩)] w fun e w' => e = .returned (.string ⟨(hd ++ b ++ sealB (sumN (hd ++ b))).toArray⟩) ∧ Below w.heap.size w w') := ⟨fun w => by
      rw [str_append]
      exact seal_any (hd ++ b) ⟨by simp [hdl]; omega⟩ w⟩
    have hE : Veil ((⟨(n : Int), i, t, b⟩ : Pg).enc = hd ++ b ++ sealB (sumN (hd ++ b)) ++ List.replicate (256 - (hd ++ b ++ sealB (sumN (hd ++ b))).length) 0) := ⟨by rw [← hhd]; rfl⟩
    obtain ⟨q, hq⟩ : ∃ q, hd ++ b ++ sealB (sumN (hd ++ b)) = q := ⟨_, rfl⟩
    have hql : q.length = 19 + b.length := by rw [← hq]; simp [hdl, sealB_len']; omega
    rw [hq] at hS hE
    have hRep : Veil (∀ w, Calls Try.prog 79 #[.string ⟨#[0]⟩, .int .i64 (256 - (q.length : Int))] w fun e w' => e = .returned (.string ⟨(List.replicate (256 - q.length) 0).toArray⟩) ∧ Below w.heap.size w w') := ⟨fun w => by
      have h := Try.strings_Repeat ⟨#[0]⟩ (256 - q.length) w (by omega) (by simp [ByteArray.size]; omega)
      rw [show (((256 - q.length : Nat) : Int)) = 256 - (q.length : Int) by omega] at h
      have e : Lib.repeatL ([0] : List UInt8) (256 - q.length) = List.replicate (256 - q.length) 0 := by
        have := Lib.repeatL_replicate 0 1 (256 - q.length)
        simpa using this
      rw [show (⟨#[0]⟩ : ByteArray).data.toList = [0] from rfl, e] at h
      exact h⟩
    obtain ⟨h1, h2, h3, h4, h5, h6⟩ := hrr
    have hql2 : q.length ≤ 256 := by omega
    have hnb : ¬ 9223372036854775807 < hd.length + b.length := by omega
    have hnb2 : ¬ 9223372036854775807 < q.length + (256 - q.length) := by omega
    clear hq hhd hdl hr hp hql
    unfold Pg.v at hR ⊢
    simp only [if_true] at hR ⊢
    rw [hE.out]
    obtain ⟨bl, hbl⟩ : ∃ bl, b.length = bl := ⟨_, rfl⟩
    rw [hbl] at hW h6 hnb
    go_enter Try.func55, Try.ntmps55
    go_wp2_with (first
      | (go_at_call 79; refine (hRep.out _).mono ?_; rintro e w5 ⟨rfl, hb5⟩)
      | (go_at_call 78; refine (hS.out _).mono ?_; rintro e w4 ⟨rfl, hb4⟩)
      | (go_at_call 77; refine (hW.out _).mono ?_; rintro e w3 ⟨rfl, hb3⟩; obtain ⟨hc3, hf3⟩ := bcell hb3)
      | (go_at_call 76; refine (hR.out _).mono ?_; rintro e w2 ⟨rfl, hb2⟩; obtain ⟨hc2, hf2⟩ := bcell hb2; have hz2 : w.heap.size < w2.heap.size := (by have := hb2.size; simp at this; omega)))
    go_ret2
    have b3 := (below_al (Below.refl _ w) _).trans (hb2.mono (by simp))
    have b4 := b3.trans (hb3.mono b3.size)
    have b5 := b4.trans (hb4.mono b4.size)
    exact ⟨congrArg (fun x => Ending.returned (Value.tuple #[Value.string x, .int .i64 0])) (str_append _ _), b5.trans (hb5.mono b5.size)⟩
end Go.Proofs.Ytapmppiiphbcpaa

/- The document's own: Right, Put, Get. -/
namespace Go.Proofs.Ytapmppiiphbcpaa
open Go Go.RowKit Sm
attribute [local go_sem] Oper.semAt_some

set_option maxRecDepth 20000 in
set_option maxHeartbeats 1000000 in
theorem refright_any (p : Pg) (hp : Veil p.Ok) (w : World) : Calls Try.prog 82 #[p.v] w fun e w' => e = .returned (.bool p.right) ∧ Below w.heap.size w w' := by
  have HR : Veil _ := ⟨p.right_iff⟩
  obtain ⟨r, hr⟩ : ∃ r, p.right = r := ⟨_, rfl⟩
  rw [hr] at HR ⊢
  clear hr
  obtain ⟨k, i, t, b⟩ := p
  have h1 : b.length ≤ 1000000 := hp.out.b
  unfold Pg.v
  simp only at *
  obtain ⟨I, hI⟩ : ∃ I : Int, (i : Int) = I := ⟨_, rfl⟩
  obtain ⟨T, hT⟩ : ∃ T : Int, (t : Int) = T := ⟨_, rfl⟩
  obtain ⟨N, hN⟩ : ∃ N : Int, (b.length : Int) = N := ⟨_, rfl⟩
  have H : Veil ((i : Int) = I ∧ (t : Int) = T ∧ (b.length : Int) = N) := ⟨hI, hT, hN⟩
  rw [hI, hT]
  clear hI hT
  go_enter Try.func82, Try.ntmps82
  go_wp2
  all_goals
    go_ret
    refine ⟨?_, below_al (Below.refl _ _) _⟩
    refine (show Ending.returned (Value.bool _) = Ending.returned (Value.bool _) from congrArg (fun x => Ending.returned (Value.bool x)) ?_)
    obtain ⟨h1, h2, h3⟩ := H.out
    have hr := HR.out
    cases r <;> simp at hr ⊢ <;> omega

set_option maxRecDepth 20000 in
set_option maxHeartbeats 1000000 in
theorem put_any (vl sz : Nat) (hsz : sz ≤ 8) (w : World) : Calls Try.prog 68 #[.int .u64 vl, .int .i64 sz] w fun e w' => e = .returned (.string ⟨(putB vl sz).toArray⟩) ∧ Below w.heap.size w w' := by
  go_enter Try.func68, Try.ntmps68
  go_wp2
  go_loopw [5, 6] (fun s j wi => ∃ (m : Nat) (z : Int), m ≤ sz ∧ z = (sz : Int) - 1 - m ∧ j = .int .i64 z ∧ Below w.heap.size w wi ∧ Veil (OwnB wi w.heap.size s ((putB vl sz).take m))) (fun _ j _ => (intOf j + 1).toNat)
  case atStart => exact ⟨0, _, Nat.zero_le _, by simp, rfl, Below.refl _ _, ⟨World.ownsRow_nil _ _ _ _⟩⟩
  case round =>
    obtain ⟨m, z, hm, hz, rfl, hB2, hA2⟩ := hrel
    by_cases hz0 : 0 ≤ z
    · have hzz := Lib.hid hz
      have hz9 : z ≤ 8 := by omega
      have HB2 := Lib.hid hB2
      clear hB2 hz
      have HV : Veil _ := ⟨byte_shr vl z hz0⟩
      have HP : Veil _ := ⟨putB_take vl sz m (by have := hzz.out; omega)⟩
      have HE : Veil (sz - 1 - m = z.toNat) := ⟨by have := hzz.out; omega⟩
      go_wp2_with (refine wpList_append_u8 rfl (.tmp 13) (.tmp 20) rfl w.heap.size _ ((putB vl sz).take m) (byteAt vl z.toNat) rfl (hA2.out.alloc _) ⟨wr.heap.size, 0, none⟩ rfl (by rw [← HV.out]; exact cell_alloc_one _ _ _) (by simp; omega) (by have := HB2.out.size; simp; omega) ?_; intro g cap w9 hown hgrow hlies hglt)
      have hnn := own_next (L := []) (n := m + 1) hown (show (putB vl sz).take (m + 1) = _ by rw [HP.out, HE.out]) (by have := hzz.out; simp; omega)
      rw [List.nil_append] at hnn
      refine ⟨⟨m + 1, z - 1, by have := hzz.out; omega, by have := hzz.out; omega, rfl, below_grown HB2.out hA2.out hgrow, ⟨by simpa using hnn⟩⟩, ?_⟩
      simp only [intOf]; omega
    · obtain rfl : m = sz := by omega
      have hfull : (putB vl m).take m = putB vl m := by rw [List.take_of_length_le (by simp)]
      rw [hfull] at hA2
      have hconv := conv_own hA2.out
      have HB2 := Lib.hid hB2
      clear hB2 hz hfull
      go_wp2
      go_ret
      exact ⟨rfl, HB2.out⟩

set_option maxRecDepth 20000 in
set_option maxHeartbeats 1000000 in
theorem get_any (s : List UInt8) (hs : s.length ≤ 1000000) (w : World) : Calls Try.prog 71 #[.string ⟨s.toArray⟩] w fun e w' => e = .returned (.int .u64 (getB s)) ∧ w = w' := by
  go_enter Try.func71, Try.ntmps71
  go_wp2
  go_loop [3, 4] (fun n j => ∃ m : Nat, m ≤ s.length ∧ j = .int .i64 m ∧ n = .int .u64 (getB (s.take m))) (fun _ j => s.length - (intOf j).toNat)
  case atStart => exact ⟨0, Nat.zero_le _, rfl, rfl⟩
  case round =>
    obtain ⟨m, hm, rfl, rfl⟩ := hrel
    by_cases hlm : m < s.length
    · have HG : Veil _ := ⟨getB_take s m hlm⟩
      have hci : (⟨s.toArray⟩ : ByteArray)[m]'(by simpa [ByteArray.size] using hlm) = s.getD m 0 := by
        simp [List.getD, hlm]
        rfl
      revert hci HG
      generalize getB (s.take m) = v
      generalize s.getD m 0 = c
      intro HG hci
      obtain ⟨V, hV⟩ : ∃ V : Int, (v : Int) = V := ⟨_, rfl⟩
      obtain ⟨C, hC⟩ : ∃ C : Int, (c.toNat : Int) = C := ⟨_, rfl⟩
      obtain ⟨R, hR⟩ : ∃ R : Int, ((shl64 v c : Nat) : Int) = R := ⟨_, rfl⟩
      have ho : bits BinOp.or IntKind.u64 (IntKind.u64.wrap (V * 256)) C = R := by rw [← hV, ← hC, ← hR]; exact or_byte64 v c
      have hc2 : 0 ≤ C ∧ C < 256 := by have := c.toNat_lt; omega
      obtain ⟨hc2, hc3⟩ := hc2
      have HR : Veil _ := ⟨hR⟩
      rw [hV]
      clear hV hR
      go_wp2
      refine ⟨⟨m + 1, by omega, by go_num, by rw [HG.out, ← HR.out]⟩, ?_⟩
      simp only [intOf]; omega
    · obtain rfl : m = s.length := by omega
      rw [List.take_length]
      go_wp2
      go_ret
      exact ⟨rfl, rfl⟩
end Go.Proofs.Ytapmppiiphbcpaa
