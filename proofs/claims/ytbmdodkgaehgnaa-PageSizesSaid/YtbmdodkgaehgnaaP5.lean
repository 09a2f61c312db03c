/- The walk of Encode. -/
import Derived.Test.YtbmdodkgaehgnaaP4
import Derived.Test.YtbmdodkgaehgnaaSh
namespace Go.Proofs.Ytbmdodkgaehgnaa
open Go Go.RowKit Sm
attribute [local go_sem] Oper.semAt_some

theorem bcell {W w1 : World} (hb : Below W.heap.size W w1) : (∀ b o, b < W.heap.size → w1.cell? ⟨b, o, none⟩ = W.cell? ⟨b, o, none⟩) ∧ (∀ b o, b < W.heap.size → w1.frozen? ⟨b, o, none⟩ = W.frozen? ⟨b, o, none⟩) :=
  ⟨fun b o h => hb.cell (p := ⟨b, o, none⟩) h, fun b o h => hb.frozen (p := ⟨b, o, none⟩) h⟩
def Pg.head (p : Pg) : List UInt8 := wrB [(1, p.kind.toNat), (4, p.id), (8, p.tx), (2, p.body.length)]
def Pg.text (p : Pg) : List UInt8 := p.head ++ p.body
def Pg.sealed (p : Pg) : List UInt8 := p.text ++ sealB (sumN p.text)
def Pg.enc (p : Pg) : List UInt8 := p.sealed ++ List.replicate (256 - p.sealed.length) 0
def Pg.encR (p : Pg) : Value := if p.right then .tuple #[.string ⟨p.enc.toArray⟩, .int .i64 0] else .tuple #[.string ⟨#[]⟩, .int .i64 30]
theorem sealB_len' (n : Nat) : (sealB n).length = 4 := rfl
theorem Pg.head_len (p : Pg) : p.head.length = 15 := by simp [Pg.head, wrB]
theorem Pg.sealed_len (p : Pg) : p.sealed.length = 19 + p.body.length := by simp [Pg.sealed, Pg.text, p.head_len, sealB_len']; omega
theorem Pg.enc_len (p : Pg) (h : p.body.length ≤ 237) : p.enc.length = 256 := by simp [Pg.enc, p.sealed_len]; omega

set_option maxRecDepth 20000 in
set_option maxHeartbeats 1000000 in
theorem encode_any (p : Pg) (hp : Veil p.Ok) (w : World) : Calls Try.prog 13 #[p.v] w fun e w' => e = .returned p.encR ∧ Below w.heap.size w w' := by
  have hR : Veil (∀ w, Calls Try.prog 15 #[p.v] w fun e w' => e = .returned (.bool p.right) ∧ Below w.heap.size w w') := ⟨right_any p hp⟩
  unfold Pg.encR
  cases hr : p.right
  · rw [hr] at hR
    clear hr hp
    obtain ⟨k, i, t, b⟩ := p
    unfold Pg.v at hR ⊢
    simp only at hR ⊢
    go_enter Try.func13, Try.ntmps13
    go_wp2_with (go_at_call 15; refine (hR.out _).mono ?_; rintro e w2 ⟨rfl, hb2⟩)
    go_ret2
    exact ⟨rfl, (below_al (Below.refl _ _) _).trans (hb2.mono (by simp))⟩
  · have hrr := p.right_iff.1 hr
    rw [hr] at hR
    obtain ⟨k, i, t, b⟩ := p
    simp only at hrr
    obtain ⟨n, rfl⟩ : ∃ n : Nat, k = n := ⟨k.toNat, by omega⟩
    have hW : Veil (∀ w : World, Calls Try.prog 33 #[.slice (some ⟨w.heap.size, 0, none⟩) 4 4] (w.alloc (.cells #[.int .i64 1, .int .u64 n, .int .i64 4, .int .u64 i, .int .i64 8, .int .u64 t, .int .i64 2, .int .u64 b.length] 69)) fun e w' => e = .returned (.string ⟨(wrB [(1, n), (4, i), (8, t), (2, b.length)]).toArray⟩) ∧ Below w.heap.size w w') := ⟨fun w => by
      refine (written_any w.heap.size 4 [(1, n), (4, i), (8, t), (2, b.length)] _ ?_ (by simp) ⟨?_⟩ (by simp)).mono fun e w' ⟨he, hb⟩ => ⟨he, (below_al (Below.refl _ w) _).trans (hb.mono (by simp))⟩
      · intro j hj
        have : j = 0 ∨ j = 1 ∨ j = 2 ∨ j = 3 := by simp at hj; omega
        rcases this with rfl | rfl | rfl | rfl <;> constructor <;> rw [cell_whole (cur := [.int .i64 1, .int .u64 n, .int .i64 4, .int .u64 i, .int .i64 8, .int .u64 t, .int .i64 2, .int .u64 b.length]) (heap_alloc_new _ _)] <;> rfl
      · have h1 := hp.out.id
        have h2 := hp.out.tx
        simp only at h1 h2
        intro x hx
        simp only [List.mem_cons, List.not_mem_nil, or_false] at hx
        rcases hx with rfl | rfl | rfl | rfl <;> simp only <;> omega⟩
    obtain ⟨hd, hhd⟩ : ∃ hd, wrB [(1, n), (4, i), (8, t), (2, b.length)] = hd := ⟨_, rfl⟩
    have hdl : hd.length = 15 := by rw [← hhd]; simp [wrB]
    rw [hhd] at hW
    have hS : Veil (∀ w, Calls Try.prog 34 #[.string (⟨hd.toArray⟩ ++ ⟨b.toArray⟩)] w fun e w' => e = .returned (.string ⟨(hd ++ b ++ sealB (sumN (hd ++ b))).toArray⟩) ∧ Below w.heap.size w w') := ⟨fun w => by
      rw [str_append]
      exact seal_any (hd ++ b) ⟨by simp [hdl]; omega⟩ w⟩
    have hE : Veil ((⟨(n : Int), i, t, b⟩ : Pg).enc = hd ++ b ++ sealB (sumN (hd ++ b)) ++ List.replicate (256 - (hd ++ b ++ sealB (sumN (hd ++ b))).length) 0) := ⟨by rw [← hhd]; rfl⟩
    obtain ⟨q, hq⟩ : ∃ q, hd ++ b ++ sealB (sumN (hd ++ b)) = q := ⟨_, rfl⟩
    have hql : q.length = 19 + b.length := by rw [← hq]; simp [hdl, sealB_len']; omega
    rw [hq] at hS hE
    have hRep : Veil (∀ w, Calls Try.prog 35 #[.string ⟨#[0]⟩, .int .i64 (256 - (q.length : Int))] w fun e w' => e = .returned (.string ⟨(List.replicate (256 - q.length) 0).toArray⟩) ∧ Below w.heap.size w w') := ⟨fun w => by
      have h := Try.strings_Repeat ⟨#[0]⟩ (256 - q.length) w (by omega) (by simp [ByteArray.size]; omega)
      rw [show (((256 - q.length : Nat) : Int)) = 256 - (q.length : Int) by omega] at h
      have e : Lib.repeatL ([0] : List UInt8) (256 - q.length) = List.replicate (256 - q.length) 0 := by
        have := Lib.repeatL_replicate 0 1 (256 - q.length)
        simpa using this
      rw [show (⟨#[0]⟩ : ByteArray).data.toList = [0] from rfl, e] at h
      exact h⟩
    obtain ⟨h1, h2, h3, h4, h5, h6⟩ := hrr
    have hql2 : q.length ≤ 256 := by omega
    have hnb : ¬ 9223372036854775807 < hd.length + b.length := by omega
    have hnb2 : ¬ 9223372036854775807 < q.length + (256 - q.length) := by omega
    clear hq hhd hdl hr hp hql
    unfold Pg.v at hR ⊢
    simp only [if_true] at hR ⊢
    rw [hE.out]
    obtain ⟨bl, hbl⟩ : ∃ bl, b.length = bl := ⟨_, rfl⟩
    rw [hbl] at hW h6 hnb
    go_enter Try.func13, Try.ntmps13
    go_wp2_with (first
      | (go_at_call 35; refine (hRep.out _).mono ?_; rintro e w5 ⟨rfl, hb5⟩)
      | (go_at_call 34; refine (hS.out _).mono ?_; rintro e w4 ⟨rfl, hb4⟩)
      | (go_at_call 33; refine (hW.out _).mono ?_; rintro e w3 ⟨rfl, hb3⟩; obtain ⟨hc3, hf3⟩ := bcell hb3)
      | (go_at_call 15; refine (hR.out _).mono ?_; rintro e w2 ⟨rfl, hb2⟩; obtain ⟨hc2, hf2⟩ := bcell hb2; have hz2 : w.heap.size < w2.heap.size := (by have := hb2.size; simp at this; omega)))
    go_ret2
    have b3 := (below_al (Below.refl _ w) _).trans (hb2.mono (by simp))
    have b4 := b3.trans (hb3.mono b3.size)
    have b5 := b4.trans (hb4.mono b4.size)
    exact ⟨congrArg (fun x => Ending.returned (Value.tuple #[Value.string x, .int .i64 0])) (str_append _ _), b5.trans (hb5.mono b5.size)⟩
end Go.Proofs.Ytbmdodkgaehgnaa
