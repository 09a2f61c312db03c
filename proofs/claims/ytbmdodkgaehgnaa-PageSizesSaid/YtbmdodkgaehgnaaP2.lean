/- The walk of written: numbers as bytes, one behind the other. -/
import Derived.Test.YtbmdodkgaehgnaaP1
namespace Go.Proofs.Ytbmdodkgaehgnaa
open Go Go.RowKit Sm
attribute [local go_sem] Oper.semAt_some

def wrB (ns : List (Nat × Nat)) : List UInt8 := ns.flatMap fun x => putB x.2 x.1
theorem wrB_take (ns : List (Nat × Nat)) (k : Nat) (h : k < ns.length) : wrB (ns.take (k + 1)) = wrB (ns.take k) ++ putB (ns.getD k (0, 0)).2 (ns.getD k (0, 0)).1 := by
  unfold wrB
  rw [List.take_succ_eq_append_getElem h, List.flatMap_append]
  simp [List.getD, h]
def Nums (w : World) (b : Nat) (ns : List (Nat × Nat)) : Prop := ∀ i, i < ns.length → w.cell? ⟨b, i * 2, none⟩ = some (.int .i64 (ns.getD i (0, 0)).1) ∧ w.cell? ⟨b, i * 2 + 1, none⟩ = some (.int .u64 (ns.getD i (0, 0)).2)

theorem byte_shr (vl : Nat) (z : Int) (hz : 0 ≤ z) : (vl : Int) / 2 ^ (8 * z).toNat % 256 = ((byteAt vl z.toNat).toNat : Int) := by
  obtain ⟨n, rfl⟩ := Int.eq_ofNat_of_zero_le hz
  have e : (8 * (n : Int)).toNat = 8 * n := by omega
  have h2 : (256 : Nat) ^ n = 2 ^ (8 * n) := by rw [Nat.pow_mul]
  simp only [byteAt, Nat.toUInt8, UInt8.toNat_ofNat', Int.toNat_natCast, Int.ofNat_eq_natCast, h2]
  rw [e]
  generalize 8 * n = m
  have h3 : ((2 : Int) ^ m) = ((2 ^ m : Nat) : Int) := by simp
  rw [h3]
  generalize 2 ^ m = q
  have h4 : (vl : Int) / (q : Int) = ((vl / q : Nat) : Int) := by simp
  rw [h4]
  have h5 : (2 : Nat) ^ 8 = 256 := rfl
  rw [h5]
  omega
theorem cell_alloc_one (w : World) (x : Value) (t : TypeId) : (w.alloc (.cells #[x] t)).cell? ⟨w.heap.size, 0, none⟩ = some x := by
  have := heap_alloc_new w (.cells #[x] t)
  unfold World.cell?
  rw [this]
  rfl
theorem wrB_le : ∀ (ns : List (Nat × Nat)), (∀ x ∈ ns, x.1 ≤ 8) → (wrB ns).length ≤ 8 * ns.length := by
  intro ns
  induction ns with
  | nil => intro _; simp [wrB]
  | cons a ns ih =>
    intro h
    have := ih fun x hx => h x (List.mem_cons_of_mem _ hx)
    have := h a (List.mem_cons_self ..)
    simp only [wrB, List.flatMap_cons, List.length_append, putB_length, List.length_cons] at *
    omega
theorem own_next {w : World} {base : Nat} {p : Option Addr} {L T T' : List UInt8} {c : UInt8} {n cap : Nat} (h : OwnB w base (.slice p ((L ++ T).length + 1 : Nat) cap) ((L ++ T) ++ [c])) (e : T' = T ++ [c]) (hn : n = (L ++ T).length + 1) : OwnB w base (.slice p n cap) (L ++ T') := by
  subst hn e
  rw [← List.append_assoc]
  exact h
theorem own_lt {w : World} {base : Nat} {v : Value} {L : List UInt8} (h : OwnB w base v L) {j : Nat} (hj : v.ownBlock = some j) : base ≤ j ∧ j < w.heap.size := World.ownsRow.lt h j hj
theorem conv_own {w : World} {base : Nat} {v : Value} {L : List UInt8} (h : OwnB w base v L) : (convert 32 9 v).run Try.prog w = .ok (.string ⟨L.toArray⟩) w := by
  obtain ⟨h1, h2⟩ := h
  rcases h2 with ⟨rfl, h0⟩ | ⟨g, cap, cur, rfl, hg, hh, hn, hc, hs, ht⟩
  · obtain rfl : L = [] := List.eq_nil_of_length_eq_zero h0
    kernel_rfl
  · refine run_convert_u8s (P := Try.prog) w 32 9 5 Try.underlying32 Try.underlying5 Try.underlying9 g 0 cap L ?_
    have := rangeAt_whole (cur := cur.toList) (by simpa using hh) 0 L.length
    rw [Nat.mul_one] at ht
    rwa [List.drop_zero, ht] at this
/-- Behind one append: what was there ahead of the call stands. -/
theorem below_grown {w wr w' : World} {v : Value} {L : List UInt8} {o : Obj} (hB : Below w.heap.size w wr) (hown : OwnB wr w.heap.size v L) (hg : (wr.alloc o).grownBy w' v.ownBlock) : Below w.heap.size w w' := by
  have ht : Turned (fun j => v.ownBlock = some j) (wr.alloc o) w' := Turned.grown hg (fun j hj _ => hj)
  have ht2 : Turned (fun j => v.ownBlock = some j) wr w' := ((Turned.refl _ wr).alloc o).trans ht
  exact hB.trans (ht2.toBelow hB.size (fun k hk e => (own_lt hown e).1))

set_option maxRecDepth 20000 in
set_option maxHeartbeats 1000000 in
theorem written_any (b cap : Nat) (ns : List (Nat × Nat)) (w : World) (hc : Nums w b ns) (hb : b < w.heap.size) (hn : Veil (∀ x ∈ ns, x.1 ≤ 8 ∧ x.2 < 18446744073709551616)) (hl : ns.length ≤ 10) :
    Calls Try.prog 33 #[.slice (some ⟨b, 0, none⟩) ns.length cap] w fun e w' => e = .returned (.string ⟨(wrB ns).toArray⟩) ∧ Below w.heap.size w w' := by
  go_enter Try.func33, Try.ntmps33
  have HC := Lib.hid hc
  clear hc
  go_wp2
  go_loopw [3, 9] (fun s i wr => ∃ k : Nat, k ≤ ns.length ∧ i = .int .i64 k ∧ Below w.heap.size w wr ∧ Veil (OwnB wr w.heap.size s (wrB (ns.take k)))) (fun _ i _ => ns.length - (intOf i).toNat)
  case atStart => exact ⟨0, Nat.zero_le _, rfl, Below.refl _ _, ⟨World.ownsRow_nil _ _ _ _⟩⟩
  case round =>
    obtain ⟨k, hk, rfl, hB, hA⟩ := hrel
    by_cases hlt : k < ns.length
    · obtain ⟨h1, h2⟩ := HC.out k hlt
      have hck : wr.cell? ⟨b, k * 2, none⟩ = _ := (hB.cell hb).trans h1
      have hck2 : wr.cell? ⟨b, k * 2 + 1, none⟩ = _ := (hB.cell hb).trans h2
      clear h1 h2
      have HB := Lib.hid hB
      have hkn : Veil ((ns.getD k (0, 0)).1 ≤ 8 ∧ (ns.getD k (0, 0)).2 < 18446744073709551616) := ⟨hn.out _ (by simp [List.getD, hlt])⟩
      have ht : Veil (wrB (ns.take (k + 1)) = wrB (ns.take k) ++ putB (ns.getD k (0, 0)).2 (ns.getD k (0, 0)).1) := ⟨wrB_take ns k hlt⟩
      clear hB
      revert hck hck2 hkn ht
      generalize ns.getD k (0, 0) = x
      obtain ⟨sz, vl⟩ := x
      intro hck hck2 hkn ht
      have hsz : sz ≤ 8 := hkn.out.1
      have HL : Veil ((wrB (ns.take k)).length ≤ 80) := ⟨by have := wrB_le (ns.take k) (fun x hx => (hn.out x (List.mem_of_mem_take hx)).1); rw [List.length_take] at this; omega⟩
      obtain ⟨L, hL⟩ : ∃ L, wrB (ns.take k) = L := ⟨_, rfl⟩
      rw [hL] at hA ht HL
      clear hL
      go_wp2
      generalize hBn : wr.heap.size = Bn
      have HBn := Lib.hid hBn
      clear hBn
      go_loopw [3, 6] (fun s j wi => ∃ (m : Nat) (z : Int), m ≤ sz ∧ z = (sz : Int) - 1 - m ∧ j = .int .i64 z ∧ Below w.heap.size w wi ∧ Veil (OwnB wi w.heap.size s (L ++ (putB vl sz).take m) ∧ s.ownBlock ≠ some Bn ∧ wi.heap[Bn]? = some (.cells #[.int .i64 sz, .int .u64 vl] 69 (0, 0)))) (fun _ j _ => (intOf j + 1).toNat)
      case atStart => exact ⟨0, _, Nat.zero_le _, by simp, rfl, below_al HB.out _, ⟨by rw [List.take_zero, List.append_nil]; exact hA.out.alloc _, fun e => by have := (own_lt hA.out e).2; have := HBn.out; omega, by rw [← HBn.out]; exact heap_alloc_new _ _⟩⟩
      case round =>
        obtain ⟨m, z, hm, hz, rfl, hB2, hA2⟩ := hrel
        by_cases hz0 : 0 ≤ z
        · have hc1 : wr.cell? ⟨Bn, 1, none⟩ = some (.int .u64 vl) := by simp [World.cell?, hA2.out.2.2]
          have hzz := Lib.hid hz
          have hz9 : z ≤ 8 := by omega
          have HB2 := Lib.hid hB2
          clear hB2 hz
          have HV : Veil _ := ⟨byte_shr vl z hz0⟩
          have HP : Veil _ := ⟨putB_take vl sz m (by have := hzz.out; omega)⟩
          have HE : Veil (sz - 1 - m = z.toNat) := ⟨by have := hzz.out; omega⟩
          go_wp2_with (refine wpList_append_u8 rfl (.tmp 20) (.tmp 27) rfl w.heap.size _ (L ++ (putB vl sz).take m) (byteAt vl z.toNat) rfl (hA2.out.1.alloc _) ⟨wr.heap.size, 0, none⟩ rfl (by rw [← HV.out]; exact cell_alloc_one _ _ _) (by have := HL.out; simp; omega) (by have := HB2.out.size; simp; omega) ?_; intro g cap w9 hown hgrow hlies hglt)
          have hnn := own_next (n := L.length + m + 1) hown (show (putB vl sz).take (m + 1) = _ by rw [HP.out, HE.out]) (by simp; omega)
          have hbn : Bn < wr.heap.size := lt_of_heap hA2.out.2.2
          refine ⟨⟨m + 1, z - 1, by have := hzz.out; omega, by have := hzz.out; omega, rfl, below_grown HB2.out hA2.out.1 hgrow, ⟨hnn, ?_, ?_⟩⟩, ?_⟩
          · simp only [Value.ownBlock, ne_eq, Option.some.injEq]
            intro e
            subst e
            rcases hlies with h | h
            · exact hA2.out.2.1 h
            · simp at h; omega
          · have ht : Turned (fun j => _ = some j) (wr.alloc _) w9 := Turned.grown hgrow (fun j hj _ => hj)
            exact ht.heap (by rw [Below.heap_alloc _ _ _ hbn]; exact hA2.out.2.2) hA2.out.2.1
          · simp only [intOf]; omega
        · obtain rfl : m = sz := by omega
          have hfull : (putB vl m).take m = putB vl m := by rw [List.take_of_length_le (by simp)]
          have HF : Veil _ := ⟨hfull⟩
          have HB2 := Lib.hid hB2
          clear hB2 hz hfull
          go_wp2
          refine ⟨⟨k + 1, by omega, by go_num, HB2.out, ⟨by rw [ht.out, ← HF.out]; exact hA2.out.1⟩⟩, ?_⟩
          simp only [intOf]; omega
    · obtain rfl : k = ns.length := by omega
      rw [List.take_length] at hA
      have hconv := conv_own hA.out
      have HB := Lib.hid hB
      clear hB
      go_wp2
      go_ret
      exact ⟨rfl, HB.out⟩
end Go.Proofs.Ytbmdodkgaehgnaa
