/- Codec: the number in bytes; the iterator over fields' places. -/
import Derived.Test.YtaolhhgfnhhgaaaKC0
import Derived.Test.YtaolhhgfnhhgaaaKP3
import Derived.Test.YtaolhhgfnhhgaaaKN0
import Derived.Test.YtaolhhgfnhhgaaaKF1
namespace Go.Proofs.Ytaolhhgfnhhgaaa
open Go Go.RowKit Sm
attribute [local go_sem] Oper.semAt_some

set_option maxRecDepth 20000 in
set_option maxHeartbeats 1000000 in
theorem cnumber_any (s : List UInt8) (hs : s.length ≤ 1000000) (w : World) : Calls Try.prog 37 #[.string ⟨s.toArray⟩] w fun e w' => e = .returned (.int .u64 (getB s)) ∧ w = w' := by
  go_enter Try.func37, Try.ntmps37
  go_wp2
  go_loop [3, 7] (fun n j => ∃ m : Nat, m ≤ s.length ∧ j = .int .i64 m ∧ n = .int .u64 (getB (s.take m))) (fun _ j => s.length - (intOf j).toNat)
  case atStart => exact ⟨0, Nat.zero_le _, rfl, rfl⟩
  case round =>
    obtain ⟨m, hm, rfl, rfl⟩ := hrel
    by_cases hlm : m < s.length
    · have HG : Veil _ := ⟨getB_take s m hlm⟩
      have hci : (⟨s.toArray⟩ : ByteArray)[m]'(by simpa [ByteArray.size] using hlm) = s.getD m 0 := by
        simp [List.getD, hlm]
        rfl
      revert hci HG
      generalize getB (s.take m) = v
      generalize s.getD m 0 = c
      intro HG hci
      obtain ⟨V, hV⟩ : ∃ V : Int, (v : Int) = V := ⟨_, rfl⟩
      obtain ⟨C, hC⟩ : ∃ C : Int, (c.toNat : Int) = C := ⟨_, rfl⟩
      obtain ⟨R, hR⟩ : ∃ R : Int, ((shl64 v c : Nat) : Int) = R := ⟨_, rfl⟩
      have ho : bits BinOp.or IntKind.u64 (IntKind.u64.wrap (V * 256)) C = R := by rw [← hV, ← hC, ← hR]; exact or_byte64 v c
      have hc2 : 0 ≤ C ∧ C < 256 := by have := c.toNat_lt; omega
      obtain ⟨hc2, hc3⟩ := hc2
      have HR : Veil _ := ⟨hR⟩
      rw [hV]
      clear hV hR
      go_wp2
      refine ⟨⟨m + 1, by omega, by go_num, by rw [HG.out, ← HR.out]⟩, ?_⟩
      simp only [intOf]; omega
    · obtain rfl : m = s.length := by omega
      rw [List.take_length]
      go_wp2
      go_ret
      exact ⟨rfl, rfl⟩

def sizeV (v : Value) : Nat := match v with | .string s => s.size | _ => 0
theorem sizeV_list (s : List UInt8) : sizeV (.string ⟨s.toArray⟩) = s.length := by simp [sizeV, ByteArray.size]
def elQ : El Nat where
  enc n := [.int .u64 n]
  z := 1
  ty := 55
  sl := 58
  bytes := 8
  zero := .int .u64 0
  d := 0
  len _ := rfl
  one x v hv := by
    simp only [List.mem_cons, List.not_mem_nil, or_false] at hv
    subst hv; rfl
  pos := by decide
  under := by kernel_rfl
  info := by kernel_rfl
  zlen := rfl
  few := by decide
def i64row (ns : List Nat) : List Value := ns.map fun (n : Nat) => Value.int .i64 n
theorem i64_cell {w : World} {g : Nat} {ns : List Nat} {fr : Nat × Nat} (h : w.heap[g]? = some (.cells (i64row ns).toArray 3 fr)) (k : Nat) (hk : k < ns.length) : w.cell? ⟨g, k, none⟩ = some (.int .i64 (ns.getD k 0 : Nat)) := by
  rw [cell_whole h]
  simp [i64row, List.getD, hk]
theorem cfields_any (g n : Nat) (w : World) : Calls Try.prog 36 #[.slice (some ⟨g, 0, none⟩) n n] w fun e w' => e = .returned (.func (.func 41) #[] #[.pointer (some ⟨w.heap.size, 0, none⟩)]) ∧ w.alloc (.cells #[.slice (some ⟨g, 0, none⟩) n n] 73) = w' := by
  go_enter Try.func36, Try.ntmps36
  go_wp2
  go_ret
  exact ⟨rfl, rfl⟩
/-- What the iterator hands over, and what it reads. -/
def handsN (zs : List Nat) (k : Nat) : Array Value := #[.int .i64 (offB zs k : Nat), .int .i64 (offB zs (k + 1) : Nat)]
structure RdZ (Bx g : Nat) (zs : List Nat) (W : World) : Prop where
  bx : W.heap[Bx]? = some (.cells #[.slice (some ⟨g, 0, none⟩) zs.length zs.length] 73 (0, 0))
  row : W.heap[g]? = some (.cells (i64row zs).toArray 3 (0, 0))
theorem offB_few (zs : List Nat) (hz : ∀ x ∈ zs, x ≤ 8) (hn : zs.length ≤ 6) (k : Nat) : offB zs k ≤ 48 := by
  have h2 : zs.sum ≤ 8 * zs.length := by
    clear hn
    induction zs with
    | nil => simp
    | cons a l ih =>
      have := ih (fun x hx => hz x (List.mem_cons_of_mem _ hx))
      have := hz a List.mem_cons_self
      simp only [List.sum_cons, List.length_cons]
      omega
  have := offB_le zs k
  omega

set_option maxRecDepth 20000 in
set_option maxHeartbeats 1000000 in
theorem cfields_seq (Bx g : Nat) (zs : List Nat) (hz : ∀ x ∈ zs, x ≤ 8) (hn : zs.length ≤ 6) :
    Seq Try.prog 41 #[.pointer (some ⟨Bx, 0, none⟩)] (handsN zs) zs.length (RdZ Bx g zs) := by
  intro l n J Jx W hJ hJx hF hY h0
  have hf1 := cell_whole (hF 0 W h0).bx 0
  refine callsIn_of_wp Try.func41 rfl trivial ?_
  simp only [Try.ntmps41, List.size_toArray, List.length_cons, List.length_nil, Nat.reduceAdd, Nat.reduceSub, Array.replicate_succ, Array.replicate_zero, List.push_toArray, List.append_toArray, List.nil_append, List.cons_append]
  gi_wp2
  have HS : Veil _ := ⟨fun k W (h : J k W) (hk : k < zs.length) => i64_cell (hF k W h).row k hk⟩
  have HO : Veil _ := ⟨fun k => offB_succ zs k⟩
  have HFw : Veil _ := ⟨offB_few zs hz hn⟩
  have HZ : Veil (∀ k, k < zs.length → zs.getD k 0 ≤ 8) := ⟨fun k hk => hz _ (by simp [List.getD, hk])⟩
  clear hf1 hF hz
  gi_loopw [3, 8] (fun f i wr => ∃ k : Nat, k ≤ zs.length ∧ i = .int .i64 k ∧ f = .int .i64 (offB zs k : Nat) ∧ J k wr) (fun _ i _ => zs.length - (intOf i).toNat)
  case atStart => exact ⟨0, Nat.zero_le _, rfl, rfl, h0⟩
  case round =>
    obtain ⟨k, hk, rfl, rfl, hj⟩ := hrel
    by_cases hlt : k < zs.length
    · have hs := HS.out k wr hj hlt
      have hYk := fun A hA => hY k A hlt hA
      simp only [handsN] at hYk
      obtain ⟨fn, tmps, assign, body, hy, hR⟩ := hYk _ hj
      have ho := HO.out k hlt
      have hf := HFw.out k
      have hz8 := HZ.out k hlt
      clear hYk hJ hJx
      rw [ho] at hy
      have HOk : Veil _ := ⟨ho⟩
      clear ho
      revert hs hf hz8 hy HOk
      generalize zs.getD k 0 = z
      generalize offB zs k = o
      intro hs hy hf hz8 HOk
      rw [show ((o + z : Nat) : Int) = (o : Int) + z by omega] at hy
      gi_wp2
      refine hR.mono ?_
      rintro e W3 (⟨rfl, hj'⟩ | ⟨rfl, hjx⟩)
      · gi_wp2
        go_roundw
        case rel => exact ⟨k + 1, by omega, by go_num, by rw [HOk.out]; go_num, hj'⟩
        case measure => simp [intOf]; omega
      · gi_wp2
        refine bodyPost_ret (results_none rfl _ _ _) rfl ?_
        exact ⟨⟨_, rfl⟩, .inr ⟨k, hlt, hjx⟩⟩
    · obtain rfl : k = zs.length := by omega
      gi_wp2
      go_end0
      exact ⟨⟨_, rfl⟩, .inl hj⟩
end Go.Proofs.Ytaolhhgfnhhgaaa
