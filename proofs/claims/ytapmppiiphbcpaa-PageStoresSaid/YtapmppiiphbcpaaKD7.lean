/- The iterator over the unsynced writes. -/
import Derived.OwnWalkIn
import Derived.TacticsInMore
import Derived.LoopNIn
import Derived.LoopIn
import Derived.Test.YtapmppiiphbcpaaKD4
import Derived.Test.YtapmppiiphbcpaaKR
namespace Go.Proofs.Ytapmppiiphbcpaa
open Go.RowKit

set_option maxRecDepth 10000 in
set_option maxHeartbeats 400000 in
theorem writes_any (d : Nat) (w : World) : Calls Try.prog 53 #[.pointer (some ⟨d, 0, none⟩)] w fun e w' => e = .returned (.func (.func 75) #[] #[.pointer (some ⟨w.heap.size, 0, none⟩)]) ∧ w.alloc (.cells #[.pointer (some ⟨d, 0, none⟩)] 24) = w' := by
  go_enter Try.func53, Try.ntmps53
  go_wp2
  go_ret
  exact ⟨rfl, rfl⟩

/-- What the iterator reads. -/
def Reads (Bx d : Nat) (v : Value) (uns : List (Nat × List UInt8)) (W : World) : Prop :=
  W.cell? ⟨Bx, 0, none⟩ = some (.pointer (some ⟨d, 0, none⟩)) ∧ W.cell? ⟨d, 2, none⟩ = some v ∧ W.ownsRow 0 102 65 v uns.length (urows uns)
/-- What it hands over. -/
def hands (uns : List (Nat × List UInt8)) (k : Nat) : Array Value := #[.int .i64 k, .agg (wcells (uns.getD k (0, zero64))).toArray]

set_option maxRecDepth 10000 in
set_option maxHeartbeats 1000000 in
theorem writes_seq (Bx d : Nat) (v : Value) (uns : List (Nat × List UInt8)) (hlen : ∀ x ∈ uns, x.2.length = 64) (hfew : uns.length ≤ 1000000000000) :
    Seq Try.prog 75 #[.pointer (some ⟨Bx, 0, none⟩)] (hands uns) uns.length (Reads Bx d v uns) := by
  intro l n J Jx W hJ hJx hF hY h0
  obtain ⟨hf1, hf2, hf3⟩ := hF 0 W h0
  obtain ⟨p, cap, rfl⟩ : ∃ p cap, v = .slice p uns.length cap := by
    rcases hf3.2 with ⟨h1, h2⟩ | ⟨g, cap, cur, h, _⟩
    · exact ⟨none, 0, by rw [h1, h2]⟩
    · exact ⟨_, cap, h⟩
  refine callsIn_of_wp Try.func75 rfl trivial ?_
  simp only [Try.ntmps75, List.size_toArray, List.length_cons, List.length_nil, Nat.reduceAdd, Nat.reduceSub, Array.replicate_succ, Array.replicate_zero, List.push_toArray, List.append_toArray, List.nil_append, List.cons_append]
  clear hf3
  gi_wp2
  gi_loopw [10] (fun i wr => ∃ k : Nat, k ≤ uns.length ∧ i = .int .i64 k ∧ J k wr) (fun i _ => uns.length - (intOf i).toNat)
  case atStart => exact ⟨0, Nat.zero_le _, rfl, h0⟩
  case round =>
    obtain ⟨k, hk, rfl, hj⟩ := hrel
    clear hf1 hf2
    by_cases hlt : k < uns.length
    · obtain ⟨-, -, hr3⟩ := hF k wr hj
      obtain ⟨x, hx⟩ : ∃ x, uns[k]? = some x := ⟨_, List.getElem?_eq_getElem hlt⟩
      have hx64 : x.2.length = 64 := hlen x (List.mem_of_getElem? hx)
      obtain ⟨g, rfl⟩ : ∃ g, p = some ⟨g, 0, none⟩ := by
        rcases hr3.2 with ⟨h1, h2⟩ | ⟨g, cap, cur, h, _⟩
        · omega
        · simp only [Value.slice.injEq] at h; exact ⟨g, h.1⟩
      have hrange : wr.rangeAt g (k * 65) (wcells x) := ownsRow_range hr3 (fun y hy => by
        obtain ⟨u, hu, rfl⟩ := List.mem_map.1 hy
        simp [wcells, length_u8s, hlen u hu]) k (wcells x) (by simp [hx])
      have hYk := fun A hA => hY k A hlt hA
      have hgd : uns.getD k (0, zero64) = x := by simp [List.getD, hx]
      simp only [hands, hgd] at hYk
      have hl65 : (wcells x).length = 65 := by rw [wcells, List.length_cons, length_u8s, hx64]
      have hi65 : (Try.prog.info? 102).map (·.size) = some (wcells x).length := by rw [hl65]; exact siz71
      have hf65 : 0 + (wcells x).length ≤ (Value.int .i64 0 :: u8s zero64).length := by rw [hl65]; simp [length_u8s, zero64]
      have hsp : splice (Value.int .i64 0 :: u8s zero64) 0 (wcells x) = wcells x := splice_all _ _ (by rw [hl65]; simp [length_u8s, zero64])
      obtain ⟨fs, hfs⟩ := und71
      have hdt : ((splice (Value.int .i64 0 :: u8s zero64) 0 (wcells x)).drop 0).take (wcells x).length = wcells x := by rw [hsp]; simp
      have HDT := Lib.hid hdt
      have HU := Lib.hid hfs
      have HI := Lib.hid hi65
      have HF := Lib.hid hf65
      have HSP := Lib.hid hsp
      have HX := Lib.hid hx
      have HL := Lib.hid hl65
      have HJ := Lib.hid hJ
      have HY := Lib.hid hYk
      clear hdt hfs hi65 hf65 hsp hr3 hY hgd hx hx64 hl65 hJ hJx hF hYk
      gi_wp2_with (first | (refine listIn_op_wide (fun K hK => ?_); refine wpList_load_mid rfl 102 (.tmp 13) rfl g (k * 65) rfl (wcells x) _ hrange HU.out rfl HI.out ?_; refine wpList_nil (one_normal (hK _ _ ?_)); clear hK K) | (refine listIn_op_wide (fun K hK => ?_); refine wpList_alloc_at rfl 102 rfl _ (zero71 wr) ?_; intro w2 hw2 hT2; refine wpList_nil (one_normal (hK _ _ ?_)); clear hK K) | (refine listIn_op_wide (fun K hK => ?_); refine wpList_store_at rfl 102 (.tmp 4) (.tmp 14) rfl wr.heap.size 0 (wcells x) rfl rfl (.int .i64 0 :: u8s zero64) 102 hw2.out HF.out HI.out (oneCell_wcells x) ?_; intro w3 hw3 hT3; refine wpList_nil (one_normal (hK _ _ ?_)); clear hK K; have hb3 : Below wr.heap.size wr w3 := (hT2.toBelow (Nat.le_refl _) (fun _ _ h => h.elim)).trans (hT3.toBelow (Nat.le_of_lt (lt_of_heap hw2.out)) (fun _ _ h => Nat.le_of_eq h.symm)); obtain ⟨fn, tmps, assign, body, hy, hR⟩ := HY.out w3 (HJ.out k wr w3 hj hb3)) | (refine listIn_op_wide (fun K hK => ?_); refine wpList_load_at rfl 102 (.tmp 4) rfl wr.heap.size 0 (wcells x) rfl _ 102 _ hw3.out HDT.out _ HU.out rfl HI.out ?_; refine wpList_nil (one_normal (hK _ _ ?_)); clear hK K))
      refine hR.mono ?_
      rintro e W3 (⟨rfl, hj'⟩ | ⟨rfl, hjx⟩)
      · gi_wp2
        go_roundw
        case rel => exact ⟨k + 1, by omega, by go_num, hj'⟩
        case measure => simp [intOf]; omega
      · gi_wp2
        refine bodyPost_ret (results_none rfl _ _ _) rfl ?_
        exact ⟨⟨_, rfl⟩, .inr ⟨k, hlt, hjx⟩⟩
    · obtain rfl : k = uns.length := by omega
      gi_wp2
      go_end0
      exact ⟨⟨_, rfl⟩, .inl hj⟩
end Go.Proofs.Ytapmppiiphbcpaa
