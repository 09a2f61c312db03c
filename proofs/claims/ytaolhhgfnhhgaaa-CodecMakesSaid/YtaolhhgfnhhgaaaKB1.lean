/- Codec: a text that is written byte by byte, as a writer embeds it (copyCheck, WriteByte, WriteString, String). -/
import Derived.Lib.FrozenHead2
import Derived.Lib.OthersKept
import Derived.Lib.UnsafeStr
import Derived.Test.YtaolhhgfnhhgaaaKC0
import Derived.Test.YtaolhhgfnhhgaaaKO1
import Derived.Test.YtaolhhgfnhhgaaaKP2
import Derived.Test.YtaolhhgfnhhgaaaKP3
import Derived.Test.YtaolhhgfnhhgaaaKF1
namespace Go.Proofs.Ytaolhhgfnhhgaaa
open Go Go.RowKit Sm
attribute [local go_sem] Oper.semAt_some

/-- A writer, as it goes on: in block b, with the bytes bs. -/
def WtF (B b : Nat) (bs : List Value) (w : World) : Prop := Lib.IsBuilderF 53 5 B b bs w
def WtU (B b : Nat) (bs : List Value) (w : World) : Prop := Lib.BuilderAtF 53 5 B b (.pointer (some ⟨b, 0, none⟩)) bs w
theorem noesc_run (x : Value) (w : World) : (callFunc 42 #[x]).run Try.prog w = .ok (.value x) w := by
  rw [run_callFunc_extern Try.func42 (by kernel_rfl) (by kernel_rfl) (by kernel_rfl) (e := Extern.AbiNoEscape.same) (by kernel_rfl)]
  rfl

set_option maxHeartbeats 1000000 in
theorem wcheck_any (B b : Nat) (bs : List Value) (w : World) (h : WtF B b bs w) : Calls Try.prog 38 #[.pointer (some ⟨b, 0, none⟩)] w fun e w' => e = .returned (.tuple #[]) ∧ WtU B b bs w' ∧ Below B w w' ∧ Lib.OthersKept 5 (some b) w w' := by
  obtain ⟨j, hj, hjs⟩ := Option.map_eq_some_iff.1 (show (Try.prog.info? 51).map (fun i => i.size) = some 2 by kernel_rfl)
  rcases h with h | h
  · have c0 := h.cell0
    have f0 := h.frozen0
    have hsh := h.shape
    have h1 : (convert 49 79 (.pointer (some ⟨b, 0, none⟩))).run Try.prog w = .ok (.pointer (some ⟨b, 0, none⟩)) w :=
      Lib.run_to_unsafe w ⟨b, 0, none⟩ Try.underlying49 Try.underlying79 hj (by rw [hjs]; decide) hsh (Nat.zero_lt_succ 1)
    have h2 : (convert 79 49 (.pointer (some ⟨b, 0, none⟩))).run Try.prog w = .ok (.pointer (some ⟨b, 0, none⟩)) w :=
      Lib.run_from_unsafe w ⟨b, 0, none⟩ Try.underlying79 Try.underlying49 hj hsh (by kernel_rfl)
    have H : Veil _ := ⟨h⟩
    clear hjs hsh h
    go_enter Try.func38, Try.ntmps38
    go_wp2
    rw [noesc_run]
    rw [Oper.upon_value]
    go_wp2
    go_end0
    exact ⟨rfl, H.out.used _, (Below.refl B w).setCell (p := ⟨b, 0, none⟩) H.out.1 _, (Lib.OthersKept.refl _ _ w).setCell ⟨b, 0, none⟩ rfl _⟩
  · have c0 := h.cell0
    have H : Veil _ := ⟨h⟩
    clear hjs h
    go_enter Try.func38, Try.ntmps38
    go_wp2
    rw [Lib.run_neq_ptr_same w _ Try.underlying49 hj]
    go_wp2
    go_end0
    exact ⟨rfl, H.out, Below.refl _ _, Lib.OthersKept.refl _ _ _⟩
theorem wt_parts {B b : Nat} {bs : List Value} {w : World} (h : WtU B b bs w) : ∃ v, B ≤ b ∧ w.heap[b]? = some (.cells #[.pointer (some ⟨b, 0, none⟩), v] 53 (0, 0)) ∧ w.ownsRowF B 5 1 v bs.length bs ∧ b < w.heap.size ∧ v.ownBlock ≠ some b := by
  have hlt := h.lt
  obtain ⟨h1, v, h2, h3, h4⟩ := h
  exact ⟨v, h1, h2, h3, hlt, h4⟩

set_option maxHeartbeats 1000000 in
/-- A byte is written. -/
theorem wbyte_any (B b : Nat) (bs : List Value) (c : Nat) (w : World) (h : WtF B b bs w) (hl : bs.length ≤ 1000000) (hB : B ≤ w.heap.size) : Calls Try.prog 35 #[.pointer (some ⟨b, 0, none⟩), .int .u8 c] w fun e w' => e = .returned .nilIface ∧ WtU B b (bs ++ [.int .u8 c]) w' ∧ Below B w w' ∧ Lib.OthersKept 5 (some b) w w' := by
  obtain ⟨i0, hi, hz0, hz1, hz2⟩ := info_parts info_u8
  have HC : Veil _ := ⟨fun w (h : WtF B b bs w) => wcheck_any B b bs w h⟩
  have H : Veil _ := ⟨h⟩
  clear h
  go_enter Try.func35, Try.ntmps35
  go_wp2_with (first
    | (at_builtin; refine wpList_append_ownF _ rfl _ _ 46 rfl B 5 i0 (.int .u8 0) 1 1 Try.underlying46 hi hz0 hz1 hz2 rfl (by decide) _ _ _ rfl (hown.alloc _) ⟨w1.heap.size, 0, none⟩ 1 1 [.int .u8 c] rfl rfl ?c1 ?c2 ?c3 ?c4 ?c5 ?_)
    | (go_at_call 38; refine (HC.out _ H.out).mono ?_; rintro e w1 ⟨rfl, h1, hb1, hk1⟩; obtain ⟨v, hBb, hbk, hown, hlt, hne⟩ := wt_parts h1; have c1 : w1.cell? ⟨b, 1, none⟩ = some v := cell_whole hbk 1; have hs1 := hb1.size; have hsz : B ≤ w1.heap.size := Nat.le_trans hB hs1; clear h1))
  case c1 =>
    intro j u hj
    match j, hj with
    | 0, hj => simp at hj; subst hj; simp [Addr.add]
  case c2 => intro u hu; simp at hu; subst hu; rfl
  case c3 => unfold maxLen; omega
  case c4 => omega
  case c5 => simp; omega
  intro v' w2 hown' hgrow _
  have hb2 : w2.heap[b]? = some (.cells #[.pointer (some ⟨b, 0, none⟩), v] 53 (0, 0)) := by
    rw [hgrow.block b (by simp; omega) (fun e => hne e.symm), Lib.alloc_old w1 _ b hlt]
    exact hbk
  have d1 : w2.cell? ⟨b, 1, none⟩ = some v := cell_whole hb2 1
  have f1 : w2.frozen? ⟨b, 1, none⟩ = false := Lib.frozen_of_heap hb2 1
  obtain ⟨g, cap, rfl⟩ : ∃ g cap, v' = .slice (some ⟨g, 0, none⟩) (bs.length + 1) cap := by
    rcases hown'.2 with ⟨_, h0⟩ | ⟨g, cap, cur, fz, hv, _⟩
    · omega
    · exact ⟨g, cap, hv⟩
  go_wp2
  go_ret
  refine ⟨rfl, Lib.BuilderAtF.put (T := 53) (e := 5) hBb hb2 (bs' := bs ++ [Value.int .u8 c]) (by simpa using hown') (by decide), ?_, ?_⟩
  · exact ((hb1.alloc hsz _).grown hgrow (by simp; omega) (fun k hk => (hown.lt k hk).1)).setCell (p := ⟨b, 1, none⟩) hBb _
  · exact ((hk1.alloc _).grown hgrow (Lib.ownsRowF_kind (hown.alloc _))).setCell ⟨b, 1, none⟩ rfl _

set_option maxHeartbeats 1000000 in
/-- A text is written. -/
theorem wwrite_any (B b : Nat) (bs : List Value) (s : ByteArray) (w : World) (h : WtF B b bs w) (hl : bs.length ≤ 1000000) (hs : s.size ≤ 1000000) (h0 : 0 < s.size) (hB : B ≤ w.heap.size) : Calls Try.prog 32 #[.pointer (some ⟨b, 0, none⟩), .string s] w fun e w' => e = .returned (.tuple #[.int .i64 s.size, .nilIface]) ∧ WtU B b (bs ++ Lib.strCells s) w' ∧ Below B w w' ∧ Lib.OthersKept 5 (some b) w w' := by
  obtain ⟨i0, hi, hz0, hz1, hz2⟩ := info_parts info_u8
  have HC : Veil _ := ⟨fun w (h : WtF B b bs w) => wcheck_any B b bs w h⟩
  have H : Veil _ := ⟨h⟩
  clear h
  go_enter Try.func32, Try.ntmps32
  go_wp2_with (first
    | (at_builtin; refine Lib.wpList_append_own_stringF _ rfl _ _ 46 9 rfl B 5 i0 Try.underlying46 Try.underlying9 hi hz0 hz1 hz2 _ _ _ rfl hown s rfl ?c3 ?c4 hsz ?_)
    | (go_at_call 38; refine (HC.out _ H.out).mono ?_; rintro e w1 ⟨rfl, h1, hb1, hk1⟩; obtain ⟨v, hBb, hbk, hown, hlt, hne⟩ := wt_parts h1; have c1 : w1.cell? ⟨b, 1, none⟩ = some v := cell_whole hbk 1; have hs1 := hb1.size; have hsz : B ≤ w1.heap.size := Nat.le_trans hB hs1; clear h1))
  case c3 => unfold maxLen; omega
  case c4 => omega
  intro v' w2 hown' hgrow _
  have hb2 : w2.heap[b]? = some (.cells #[.pointer (some ⟨b, 0, none⟩), v] 53 (0, 0)) := by
    rw [hgrow.block b hlt (fun e => hne e.symm)]
    exact hbk
  have d1 : w2.cell? ⟨b, 1, none⟩ = some v := cell_whole hb2 1
  have f1 : w2.frozen? ⟨b, 1, none⟩ = false := Lib.frozen_of_heap hb2 1
  obtain ⟨g, cap, rfl⟩ : ∃ g cap, v' = .slice (some ⟨g, 0, none⟩) (bs.length + s.size : Nat) cap := by
    rcases hown'.2 with ⟨_, h0⟩ | ⟨g, cap, cur, fz, hv, _⟩
    · omega
    · exact ⟨g, cap, hv⟩
  go_wp2
  go_ret2
  refine ⟨rfl, Lib.BuilderAtF.put (T := 53) (e := 5) hBb hb2 (bs' := bs ++ Lib.strCells s) (by rw [List.length_append, Lib.strCells_length]; exact hown') (by decide), ?_, ?_⟩
  · exact (hb1.grown hgrow hsz (fun k hk => (hown.lt k hk).1)).setCell (p := ⟨b, 1, none⟩) hBb _
  · exact (hk1.grown hgrow (Lib.ownsRowF_kind hown)).setCell ⟨b, 1, none⟩ rfl _

set_option maxHeartbeats 1000000 in
/-- What was written. -/
theorem wstring_any (B b : Nat) (l : List UInt8) (w : World) (h : WtF B b (Lib.byteCells l) w) (h0 : l ≠ []) (hl : l.length ≤ 1000000) : Calls Try.prog 26 #[.pointer (some ⟨b, 0, none⟩)] w fun e w' => e = .returned (.string ⟨l.toArray⟩) ∧ Below B w w' := by
  obtain ⟨p, v, hbk, hown⟩ : ∃ p v, w.heap[b]? = some (.cells #[p, v] 53 (0, 0)) ∧ w.ownsRowF B 5 1 v (Lib.byteCells l).length (Lib.byteCells l) := h.elim (fun ⟨_, v, h2, h3, _⟩ => ⟨_, v, h2, h3⟩) (fun ⟨_, v, h2, h3, _⟩ => ⟨_, v, h2, h3⟩)
  rw [Lib.byteCells_length] at hown
  have hl0 : l.length ≠ 0 := by simpa using h0
  obtain ⟨g, cap, cur, fz, rfl, hbg, hg, hfz, hnc, hcm, hcs, htake⟩ : ∃ g cap cur fz, v = .slice (some ⟨g, 0, none⟩) l.length cap ∧ B ≤ g ∧ w.heap[g]? = some (.cells cur 5 fz) ∧ fz.2 ≤ l.length * 1 ∧ l.length ≤ cap ∧ cap ≤ maxLen ∧ cur.size = cap * 1 ∧ cur.toList.take (l.length * 1) = Lib.byteCells l := by
    rcases hown.2 with ⟨_, hz⟩ | ⟨g, cap, cur, fz, hv, r⟩
    · exact absurd hz hl0
    · exact ⟨g, cap, cur, fz, hv, r⟩
  have hg' : w.drew.heap[g]? = some (.cells cur 5 fz) := hg
  have hSD : (Builtin.unsafeSliceData_ #[46] 71 #[.slice (some ⟨g, 0, none⟩) l.length cap]).run Try.prog w.drew = .ok (.pointer (some ⟨g, 0, none⟩)) w.drew :=
    Lib.run_unsafeSliceData_row _ _ _ _ _ _ (by omega)
  have hUS : (Builtin.unsafeString_ #[71, 3] 9 #[.pointer (some ⟨g, 0, none⟩), .int .i64 l.length]).run Try.prog w.drew = .ok (.string ⟨l.toArray⟩) (w.drew.freeze ⟨g, 0, none⟩ l.length) := by
    refine Lib.run_unsafeString_row w.drew 71 3 9 5 Try.underlying71 (by kernel_rfl) g cur.size (by simp [World.shape?, hg']) l h0 (by omega) (by unfold maxLen at hcm; omega) ?_
    intro j x hx
    exact hown.cells (g := g) rfl j (.int .u8 x.toNat) (by simp [Lib.byteCells, hx])
  have c1 : w.drew.cell? ⟨b, 1, none⟩ = some (.slice (some ⟨g, 0, none⟩) l.length cap) := cell_whole (w := w.drew) hbk 1
  have HB : Veil (B ≤ g) := ⟨hbg⟩
  clear hown hg hg' hfz hnc hcm hcs htake hbk h h0 hl0 hbg
  go_enter Try.func26, Try.ntmps26
  go_wp2
  go_region
  all_goals
    go_wp2
    go_ret
    exact ⟨rfl, Lib.below_freeze (Below.drew (Below.refl B w)) (p := ⟨g, 0, none⟩) HB.out _⟩
end Go.Proofs.Ytaolhhgfnhhgaaa

/- Codec: numbers written into a text (put). -/
namespace Go.Proofs.Ytaolhhgfnhhgaaa
open Go Go.RowKit Sm
attribute [local go_sem] Oper.semAt_some

def u64row (ns : List Nat) : List Value := ns.map fun (n : Nat) => Value.int .u64 n
def putsB (sz : Nat) (ns : List Nat) : List UInt8 := ns.flatMap fun n => putB n sz
theorem putsB_take (sz : Nat) (ns : List Nat) (k : Nat) (h : k < ns.length) : putsB sz (ns.take (k + 1)) = putsB sz (ns.take k) ++ putB (ns.getD k 0) sz := by
  unfold putsB
  rw [List.take_succ_eq_append_getElem h, List.flatMap_append]
  simp [List.getD, h]
theorem putsB_len (sz : Nat) (ns : List Nat) : (putsB sz ns).length = ns.length * sz := by
  unfold putsB
  induction ns with
  | nil => simp
  | cons a l ih => rw [List.flatMap_cons, List.length_append, ih, putB_length, List.length_cons, Nat.succ_mul, Nat.add_comm]
theorem u64_cell {w : World} {g : Nat} {ns : List Nat} {fr : Nat × Nat} (h : w.heap[g]? = some (.cells (u64row ns).toArray 55 fr)) (k : Nat) (hk : k < ns.length) : w.cell? ⟨g, k, none⟩ = some (.int .u64 (ns.getD k 0 : Nat)) := by
  rw [cell_whole h]
  simp [u64row, List.getD, hk]

theorem wt_len {B b : Nat} {bs : List Value} {w : World} (h : WtF B b bs w) : b < w.heap.size := h.elim (fun x => x.lt) (fun x => x.lt)
theorem wt_base {B b : Nat} {bs : List Value} {w : World} (h : WtF B b bs w) : B ≤ b := h.elim (fun x => x.1) (fun x => x.1)

set_option maxRecDepth 20000 in
set_option maxHeartbeats 1000000 in
theorem wput_any (B b g : Nat) (bs : List Value) (sz : Nat) (ns : List Nat) (w : World) (h : WtF B b bs w) (hsz : sz ≤ 8) (hn : ns.length ≤ 4) (hl : bs.length ≤ 1000) (hB : B ≤ w.heap.size)
    (hg : w.heap[g]? = some (.cells (u64row ns).toArray 55 (0, 0))) (hgb : g ≠ b) :
    Calls Try.prog 25 #[.pointer (some ⟨b, 0, none⟩), .int .i64 sz, .slice (some ⟨g, 0, none⟩) ns.length ns.length] w fun e w' => e = .returned (.tuple #[]) ∧ WtF B b (bs ++ Lib.byteCells (putsB sz ns)) w' ∧ Below B w w' ∧ Lib.OthersKept 5 (some b) w w' := by
  have HW : Veil _ := ⟨h⟩
  have HG : Veil _ := ⟨hg⟩
  have HGB : Veil _ := ⟨hgb⟩
  have HBs : Veil _ := ⟨hB⟩
  clear h hg hgb hB
  go_enter Try.func25, Try.ntmps25
  go_wp2
  go_loopw [11] (fun i wr => ∃ k : Nat, k ≤ ns.length ∧ i = .int .i64 k ∧ Veil (WtF B b (bs ++ Lib.byteCells (putsB sz (ns.take k))) wr ∧ Below B w wr ∧ Lib.OthersKept 5 (some b) w wr)) (fun i _ => ns.length - (intOf i).toNat)
  case atStart => exact ⟨0, Nat.zero_le _, rfl, ⟨by simpa [putsB, Lib.byteCells] using HW.out, Below.refl _ _, Lib.OthersKept.refl _ _ _⟩⟩
  case round =>
    obtain ⟨k, hk, rfl, HI⟩ := hrel
    by_cases hlt : k < ns.length
    · have hgw : wr.heap[g]? = some (.cells (u64row ns).toArray 55 (0, 0)) := HI.out.2.2 _ _ HG.out (fun e => HGB.out (Option.some.inj e)) (by intro c fz hc; cases hc)
      have hck := u64_cell hgw k hlt
      clear hgw
      have HT : Veil _ := ⟨putsB_take sz ns k hlt⟩
      have HLk : Veil ((putsB sz (ns.take k)).length ≤ 32) := ⟨by
        rw [putsB_len, List.length_take]
        have h1 : min k ns.length ≤ 4 := by omega
        exact Nat.le_trans (Nat.mul_le_mul h1 hsz) (by decide)⟩
      revert hck HT HLk HI
      generalize ns.getD k 0 = n
      generalize putsB sz (ns.take k) = acc
      intro HI hck HT HLk
      go_wp2
      go_loopw [8] (fun j wi => ∃ (m : Nat) (z : Int), m ≤ sz ∧ z = (sz : Int) - 1 - m ∧ j = .int .i64 z ∧ Veil (WtF B b (bs ++ Lib.byteCells (acc ++ (putB n sz).take m)) wi ∧ Below B w wi ∧ Lib.OthersKept 5 (some b) w wi)) (fun j _ => (intOf j + 1).toNat)
      case atStart => exact ⟨0, _, Nat.zero_le _, by simp, rfl, ⟨by rw [List.take_zero, List.append_nil]; exact HI.out.1, HI.out.2.1, HI.out.2.2⟩⟩
      case round =>
        obtain ⟨m, z, hm, hz, rfl, HA⟩ := hrel
        by_cases hz0 : 0 ≤ z
        · have hz9 : z ≤ 8 := by omega
          have HZ : Veil _ := ⟨hz⟩
          clear hz
          have HV : Veil (IntKind.u8.wrap ((n : Int) / 2 ^ (8 * z).toNat) = ((byteAt n z.toNat).toNat : Int)) := ⟨by rw [IntKind.wrap_u8]; exact byte_shr n z hz0⟩
          have HP : Veil _ := ⟨putB_take n sz m (by have := HZ.out; omega)⟩
          have HE : Veil (sz - 1 - m = z.toNat) := ⟨by have := HZ.out; omega⟩
          have HW9 : Veil _ := ⟨wbyte_any B b (bs ++ Lib.byteCells (acc ++ (putB n sz).take m)) (byteAt n z.toNat).toNat⟩
          have HLs : Veil ((bs ++ Lib.byteCells (acc ++ (putB n sz).take m)).length ≤ 1000000) := ⟨by
            have := HLk.out
            simp only [List.length_append, Lib.byteCells_length, List.length_take, putB_length]
            omega⟩
          go_wp2
          obtain ⟨W5, hW5⟩ : ∃ W5, wr.drew = W5 := ⟨_, rfl⟩
          have HA5 : Veil (WtF B b (bs ++ Lib.byteCells (acc ++ (putB n sz).take m)) W5 ∧ Below B w W5 ∧ Lib.OthersKept 5 (some b) w W5) := ⟨by
            rw [← hW5]
            exact ⟨HA.out.1.elim (fun x => .inl x.drew) (fun x => .inr x.drew), HA.out.2.1.drew, HA.out.2.2.drew⟩⟩
          refine region_tail 8 (by kernel_rfl) (by kernel_rfl) W5 hW5 ?_
          clear HA hW5
          have hw8 : IntKind.i64.wrap (8 * z) = 8 * z := by rw [IntKind.wrap_i64]; omega
          have hz8 : ¬ 8 * z < 0 := by omega
          iterate 8 still_step
          clear hw8 hz8
          refine wpStill_nil ?_
          rw [HV.out]
          go_wp2_with (go_at_call 35; refine (HW9.out W5 HA5.out.1 HLs.out (Nat.le_trans HBs.out HA5.out.2.1.size)).mono ?_; rintro e w9 ⟨rfl, h9, hb9, hk9⟩)
          refine only_normal ?_
          have HA9 : Veil (WtF B b (bs ++ Lib.byteCells (acc ++ (putB n sz).take (m + 1))) w9 ∧ Below B w w9 ∧ Lib.OthersKept 5 (some b) w w9) := ⟨by
            refine ⟨.inr ?_, HA5.out.2.1.trans hb9, HA5.out.2.2.trans hk9⟩
            rw [HP.out, HE.out, ← List.append_assoc, Lib.byteCells_append, ← List.append_assoc]
            exact h9⟩
          clear h9 hb9 hk9
          go_wp2
          refine ⟨⟨m + 1, z - 1, by have := HZ.out; omega, by have := HZ.out; omega, rfl, HA9⟩, ?_⟩
          simp only [intOf]; omega
        · obtain rfl : m = sz := by omega
          have hfull : (putB n m).take m = putB n m := by rw [List.take_of_length_le (by simp)]
          have HF : Veil _ := ⟨hfull⟩
          clear hz hfull
          go_wp2
          refine ⟨⟨k + 1, by omega, by go_num, ⟨?_, HA.out.2.1, HA.out.2.2⟩⟩, ?_⟩
          · rw [HT.out, ← HF.out]; exact HA.out.1
          · simp only [intOf]; omega
    · obtain rfl : k = ns.length := by omega
      rw [List.take_length] at HI
      go_wp2
      go_end0
      exact ⟨rfl, HI.out⟩
end Go.Proofs.Ytaolhhgfnhhgaaa

/- Codec: isOp, isError, isLength; Request, Reply, Frame. -/
namespace Go.Proofs.Ytaolhhgfnhhgaaa
open Go Go.RowKit Sm
attribute [local go_sem] Oper.semAt_some

theorem isop_any (n : Int) (w : World) : Calls Try.prog 24 #[.int .i64 n] w fun e w' => e = .returned (.bool (opOk n)) ∧ w = w' := by
  have H : Veil _ := ⟨opOk_iff n⟩
  generalize opOk n = r at H ⊢
  go_enter Try.func24, Try.ntmps24
  go_wp2
  all_goals
    go_ret
    refine ⟨congrArg (fun x => Ending.returned (Value.bool x)) ?_, rfl⟩
    have h := H.out
    cases r <;> simp at h ⊢ <;> omega
theorem iserr_any (n : Int) (w : World) : Calls Try.prog 30 #[.int .i64 n] w fun e w' => e = .returned (.bool (erOk n)) ∧ w = w' := by
  have H : Veil _ := ⟨erOk_iff n⟩
  generalize erOk n = r at H ⊢
  go_enter Try.func30, Try.ntmps30
  go_wp2
  all_goals
    go_ret
    refine ⟨congrArg (fun x => Ending.returned (Value.bool x)) ?_, rfl⟩
    have h := H.out
    cases r <;> simp at h ⊢ <;> omega
theorem islen_any (n : Int) (w : World) : Calls Try.prog 31 #[.int .i64 n] w fun e w' => e = .returned (.bool (lnOk n)) ∧ w = w' := by
  have H : Veil (lnOk n = true ↔ (1 ≤ n ∧ n ≤ 100)) := ⟨by unfold lnOk; exact decide_eq_true_iff⟩
  generalize lnOk n = r at H ⊢
  go_enter Try.func31, Try.ntmps31
  go_wp2
  all_goals
    go_ret
    refine ⟨congrArg (fun x => Ending.returned (Value.bool x)) ?_, rfl⟩
    have h := H.out
    cases r <;> simp at h ⊢ <;> omega

theorem wt_alloc {B b : Nat} {bs : List Value} {w : World} (h : WtF B b bs w) (o : Obj) : WtF B b bs (w.alloc o) := Lib.IsBuilderF.alloc h o
theorem put_row (B b : Nat) (L : List UInt8) (sz : Nat) (ns : List Nat) (W : World) (g : Nat) (cs : Array Value) (n : Nat) (hg : g = W.heap.size) (hcs : cs = (u64row ns).toArray) (hn : n = ns.length) (h : WtF B b (Lib.byteCells L) W) (hsz : sz ≤ 8) (hn4 : ns.length ≤ 4) (hl : L.length ≤ 1000) (hB : B ≤ W.heap.size) :
    Calls Try.prog 25 #[.pointer (some ⟨b, 0, none⟩), .int .i64 sz, .slice (some ⟨g, 0, none⟩) n n] (W.alloc (.cells cs 55)) fun e w' => e = .returned (.tuple #[]) ∧ WtF B b (Lib.byteCells (L ++ putsB sz ns)) w' ∧ Below B W w' ∧ Lib.OthersKept 5 (some b) W w' := by
  subst hg hcs hn
  have hb := wt_len h
  refine (wput_any B b W.heap.size (Lib.byteCells L) sz ns _ (wt_alloc h _) hsz hn4 (by rw [Lib.byteCells_length]; exact hl) (by simp; omega) (heap_alloc_new _ _) (by omega)).mono ?_
  rintro e w' ⟨rfl, h1, h2, h3⟩
  refine ⟨rfl, by rw [Lib.byteCells_append]; exact h1, ((Below.refl B W).alloc hB _).trans h2, ?_⟩
  intro k o hk hkb ho
  exact h3 k o (by rw [Lib.alloc_old W _ k (lt_of_heap hk)]; exact hk) hkb ho
/-- What a walk of a request or a reply holds: the box of what came in, the text so far. -/
structure RqI (w : World) (B1 : Nat) (o : Obj) (L : List UInt8) (A : World) : Prop where
  bx : A.heap[w.heap.size]? = some o
  wt : WtF w.heap.size B1 (Lib.byteCells L) A
  t : Below w.heap.size w A
theorem RqI.wrote {w A A' : World} {B1 : Nat} {o : Obj} {L L' : List UInt8} (h : RqI w B1 o L A) (hB : w.heap.size ≠ B1) (ho : ∀ c fz, o ≠ .cells c 5 fz) (h1 : WtF w.heap.size B1 (Lib.byteCells L') A') (h2 : Below w.heap.size A A') (h3 : Lib.OthersKept 5 (some B1) A A') : RqI w B1 o L' A' :=
  ⟨h3 _ _ h.bx (fun e => hB (Option.some.inj e)) ho, h1, h.t.trans h2⟩
theorem wt_new {B b : Nat} {w : World} {fr : Nat × Nat} (hB : B ≤ b) (h : w.heap[b]? = some (.cells #[.pointer none, .slice none 0 0] 53 fr)) (hf : fr = (0, 0)) : WtF B b (Lib.byteCells []) w := by
  subst hf
  exact .inl ⟨hB, .slice none 0 0, h, World.ownsRowF_nil _ _ _ _, (by simp [Value.ownBlock])⟩
end Go.Proofs.Ytaolhhgfnhhgaaa

/- Codec: Request, Reply, Frame. -/
namespace Go.Proofs.Ytaolhhgfnhhgaaa
open Go Go.RowKit Sm
attribute [local go_sem] Oper.semAt_some

set_option maxRecDepth 20000 in
set_option maxHeartbeats 2000000 in
theorem frame_any (s : List UInt8) (hs : s.length ≤ 1000000) (w : World) : Calls Try.prog 19 #[.string ⟨s.toArray⟩] w fun e w' => e = .returned (.tuple #[.string ⟨(frameR s).1.toArray⟩, .int .i64 (frameR s).2]) ∧ Below w.heap.size w w' := by
  by_cases h : 1 ≤ s.length ∧ s.length ≤ 100
  · have e : frameR s = (putB s.length 2 ++ s, 0) := by unfold frameR; rw [if_pos h]
    rw [e]
    have HL : Veil _ := ⟨fun w => islen_any (s.length : Int) w⟩
    have hl : lnOk (s.length : Int) = true := by unfold lnOk; rw [decide_eq_true_iff]; omega
    rw [hl] at HL
    have HP : Veil _ := ⟨fun W g hg hW hB => put_row w.heap.size w.heap.size [] 2 [s.length] W g #[.int .u64 s.length] 1 hg rfl rfl hW (by decide) (by simp) (by simp) hB⟩
    have HWr : Veil _ := ⟨fun (L : List UInt8) W h hl hB => wwrite_any w.heap.size w.heap.size (Lib.byteCells L) ⟨s.toArray⟩ W h (by rw [Lib.byteCells_length]; exact hl) (by simp [ByteArray.size]; omega) (by simp [ByteArray.size]; omega) hB⟩
    have HSt : Veil _ := ⟨fun (L : List UInt8) W h h0 hl => wstring_any w.heap.size w.heap.size L W h h0 hl⟩
    have HE : Veil ([] ++ putsB 2 [s.length] = putB s.length 2) := ⟨by simp [putsB]⟩
    have hwr : IntKind.u64.wrap (s.length : Int) = s.length := by rw [IntKind.wrap_u64]; omega
    have HCl : Veil (∀ A, WtU w.heap.size w.heap.size (Lib.byteCells (putB s.length 2) ++ Lib.strCells ⟨s.toArray⟩) A → WtU w.heap.size w.heap.size (Lib.byteCells (putB s.length 2 ++ s)) A) := ⟨fun A h => by rw [Lib.byteCells_append]; exact h⟩
    have H0 : Veil (putB s.length 2 ++ s ≠ [] ∧ (putB s.length 2 ++ s).length ≤ 1000000) := ⟨by
      constructor
      · intro e0
        have := congrArg List.length e0
        simp at this
      · simp; omega⟩
    clear hl e
    dsimp only
    go_enter Try.func19, Try.ntmps19
    go_wp2_with (first
      | (go_at_call 26; refine (HSt.out _ _ (.inr (HCl.out _ h3)) H0.out.1 H0.out.2).mono ?_; rintro e w4 ⟨rfl, hb4⟩)
      | (go_at_call 32; refine (HWr.out _ _ h2 (by simp) hb2.size).mono ?_; rintro e w3 ⟨rfl, h3, hb3, hk3⟩)
      | (go_at_call 25; refine (HP.out _ _ (by simp) (wt_new (Nat.le_refl _) (heap_alloc_new _ _) rfl) (by simp)).mono ?_; rintro e w2 ⟨rfl, h2, hb2, hk2⟩; rw [HE.out] at h2; have hb2 : Below w.heap.size w w2 := (below_al (Below.refl _ _) _).trans hb2)
      | (go_at_call 31; refine (HL.out _).mono ?_; rintro e w1 ⟨rfl, rfl⟩))
    go_ret2
    exact ⟨rfl, (hb2.trans hb3).trans hb4⟩
  · have e : frameR s = ([], 170) := by unfold frameR; rw [if_neg h]
    rw [e]
    have HL : Veil _ := ⟨fun w => islen_any (s.length : Int) w⟩
    have hl : lnOk (s.length : Int) = false := by unfold lnOk; rw [decide_eq_false_iff_not]; omega
    rw [hl] at HL
    clear hl e
    dsimp only
    go_enter Try.func19, Try.ntmps19
    go_wp2_with (go_at_call 31; refine (HL.out _).mono ?_; rintro e w1 ⟨rfl, rfl⟩)
    go_ret2
    exact ⟨rfl, Below.refl _ _⟩
theorem rq_put (w : World) (o : Obj) (ho : ∀ c fz, o ≠ .cells c 5 fz) (L L' : List UInt8) (sz : Nat) (ns : List Nat) (W : World) (g : Nat) (cs : Array Value) (n : Nat) (hg : g = W.heap.size) (hI : RqI w (w.heap.size + 1) o L W) (hcs : cs = (u64row ns).toArray) (hn : n = ns.length) (hsz : sz ≤ 8) (hn4 : ns.length ≤ 4) (hl : L.length ≤ 1000) (hL : L ++ putsB sz ns = L') :
    Calls Try.prog 25 #[.pointer (some ⟨w.heap.size + 1, 0, none⟩), .int .i64 sz, .slice (some ⟨g, 0, none⟩) n n] (W.alloc (.cells cs 55)) fun e w' => e = .returned (.tuple #[]) ∧ RqI w (w.heap.size + 1) o L' w' := by
  refine (put_row w.heap.size (w.heap.size + 1) L sz ns W g cs n hg hcs hn hI.wt hsz hn4 hl hI.t.size).mono ?_
  rintro e w' ⟨rfl, h1, h2, h3⟩
  rw [hL] at h1
  exact ⟨rfl, hI.wrote (by omega) ho h1 h2 h3⟩
theorem rq_end (w : World) (o : Obj) (L : List UInt8) (h0 : L ≠ []) (hl : L.length ≤ 1000) (W : World) (hI : RqI w (w.heap.size + 1) o L W) :
    Calls Try.prog 26 #[.pointer (some ⟨w.heap.size + 1, 0, none⟩)] W fun e w' => e = .returned (.string ⟨L.toArray⟩) ∧ Below w.heap.size w w' := by
  refine (wstring_any w.heap.size (w.heap.size + 1) L W hI.wt h0 (by omega)).mono ?_
  rintro e w' ⟨rfl, hb⟩
  exact ⟨rfl, hI.t.trans hb⟩
theorem rq_new (w : World) (o : Obj) : RqI w (w.heap.size + 1) o [] ((w.alloc o).alloc (.cells #[.pointer none, .slice none 0 0] 53)) := by
  refine ⟨(Below.heap_alloc _ _ _ (by simp)).trans (heap_alloc_new _ _), wt_new (by omega) ?_ rfl, below_al (below_al (Below.refl _ _) _) _⟩
  have := heap_alloc_new (w.alloc o) (.cells #[.pointer none, .slice none 0 0] 53)
  simpa using this
theorem not_u8 (c : Array Value) (T : TypeId) (fr : Nat × Nat) (h : T ≠ 5) : ∀ c' fz, Obj.cells c T fr ≠ .cells c' 5 fz := by
  intro c' fz e
  cases e
  exact h rfl

theorem pk6 {w : World} {g : Nat} {x0 x1 x2 x3 x4 x5 : Value} {t : TypeId} {fr : Nat × Nat} (h : w.heap[g]? = some (.cells #[x0, x1, x2, x3, x4, x5] t fr)) : w.cell? ⟨g, 0, none⟩ = some x0 ∧ w.cell? ⟨g, 1, none⟩ = some x1 ∧ w.cell? ⟨g, 2, none⟩ = some x2 ∧ w.cell? ⟨g, 3, none⟩ = some x3 ∧ w.cell? ⟨g, 4, none⟩ = some x4 ∧ w.cell? ⟨g, 5, none⟩ = some x5 :=
  ⟨cell_whole h 0, cell_whole h 1, cell_whole h 2, cell_whole h 3, cell_whole h 4, cell_whole h 5⟩
theorem pk3' {w : World} {g : Nat} {x0 x1 x2 : Value} {t : TypeId} {fr : Nat × Nat} (h : w.heap[g]? = some (.cells #[x0, x1, x2] t fr)) : w.cell? ⟨g, 0, none⟩ = some x0 ∧ w.cell? ⟨g, 1, none⟩ = some x1 ∧ w.cell? ⟨g, 2, none⟩ = some x2 :=
  ⟨cell_whole h 0, cell_whole h 1, cell_whole h 2⟩

set_option maxRecDepth 20000 in
set_option maxHeartbeats 4000000 in
theorem request_any (c : Cm) (hc : c.Ok) (w : World) : Calls Try.prog 10 #[c.v] w fun e w' => e = .returned (.tuple #[.string ⟨(reqR c).1.toArray⟩, .int .i64 (reqR c).2]) ∧ Below w.heap.size w w' := by
  have HL : Veil _ := ⟨fun w => isop_any c.op w⟩
  by_cases h : opOk c.op = true
  · have e : reqR c = (encC c, 0) := by unfold reqR; rw [if_pos h]
    rw [e]
    rw [h] at HL
    have hop := (opOk_iff _).1 h
    have ha := hc.a
    have hb := hc.b
    have hi := hc.item
    have un := uns_wrap c.n
    have um := uns_wrap c.m
    have HEn : Veil (encC c = putB c.op.toNat 1 ++ (putB c.a 4 ++ (putB c.b 4 ++ (putB c.item 2 ++ (putB (uns c.n) 8 ++ putB (uns c.m) 8))))) := ⟨rfl⟩
    clear e h hc
    obtain ⟨op, a, b, i, n, m⟩ := c
    unfold Cm.v
    dsimp only at *
    obtain ⟨O, rfl⟩ : ∃ O : Nat, op = O := ⟨op.toNat, by omega⟩
    rw [Int.toNat_natCast] at HEn
    have w0 : IntKind.u64.wrap (O : Int) = O := by rw [IntKind.wrap_u64]; omega
    have w1 : IntKind.u64.wrap (a : Int) = a := by rw [IntKind.wrap_u64]; omega
    have w2 : IntKind.u64.wrap (b : Int) = b := by rw [IntKind.wrap_u64]; omega
    have w3 : IntKind.u64.wrap (i : Int) = i := by rw [IntKind.wrap_u64]; omega
    obtain ⟨o, ho⟩ : ∃ o : Obj, Obj.cells #[.int .i64 O, .int .u32 a, .int .u32 b, .int .u16 i, .int .i64 n, .int .i64 m] 25 (0, 0) = o := ⟨_, rfl⟩
    have hno : ∀ c fz, o ≠ .cells c 5 fz := by rw [← ho]; exact not_u8 _ _ _ (by decide)
    generalize hN : uns n = N at *
    generalize hM : uns m = M at *
    have H1 : Veil _ := ⟨fun W g hg hI => rq_put w o hno [] (putB O 1) 1 [O] W g #[.int .u64 O] 1 hg hI rfl rfl (by decide) (by simp) (by simp) (by simp [putsB])⟩
    have H2 : Veil _ := ⟨fun W g hg hI => rq_put w o hno (putB O 1) (putB O 1 ++ (putB a 4 ++ putB b 4)) 4 [a, b] W g #[.int .u64 a, .int .u64 b] 2 hg hI rfl rfl (by decide) (by simp) (by simp) (by simp [putsB])⟩
    have H3 : Veil _ := ⟨fun W g hg hI => rq_put w o hno (putB O 1 ++ (putB a 4 ++ putB b 4)) (putB O 1 ++ (putB a 4 ++ putB b 4) ++ putB i 2) 2 [i] W g #[.int .u64 i] 1 hg hI rfl rfl (by decide) (by simp) (by simp) (by simp [putsB])⟩
    have H4 : Veil _ := ⟨fun W g hg hI => rq_put w o hno (putB O 1 ++ (putB a 4 ++ putB b 4) ++ putB i 2) (encC ⟨O, a, b, i, n, m⟩) 8 [N, M] W g #[.int .u64 N, .int .u64 M] 2 hg hI rfl rfl (by decide) (by simp) (by simp) (by rw [HEn.out]; simp [putsB])⟩
    have H5 : Veil _ := ⟨fun W hI => rq_end w o (encC ⟨O, a, b, i, n, m⟩) (by intro e0; have := congrArg List.length e0; rw [encC_len] at this; simp at this) (by rw [encC_len]; decide) W hI⟩
    have H0 : Veil _ := ⟨rq_new w o⟩
    clear HEn hN hM
    subst ho
    have HP : Veil _ := ⟨fun (w2 : World) (L : List UInt8) (h : RqI w (w.heap.size + 1) (Obj.cells #[.int .i64 O, .int .u32 a, .int .u32 b, .int .u16 i, .int .i64 n, .int .i64 m] 25 (0, 0)) L w2) => pk6 h.bx⟩
    go_enter Try.func10, Try.ntmps10
    go_wp2_with (first
      | (go_at_call 26; refine (H5.out _ HI4.out).mono ?_; rintro e w6 ⟨rfl, hb6⟩)
      | (go_at_call 25; refine (H4.out _ _ (by simp) HI3.out).mono ?_; rintro e w5 ⟨rfl, h5⟩; have HI4 : Veil _ := ⟨h5⟩; clear h5)
      | (go_at_call 25; refine (H3.out _ _ (by simp) HI2.out).mono ?_; rintro e w4 ⟨rfl, h4⟩; have HI3 : Veil _ := ⟨h4⟩; obtain ⟨-, -, -, -, q4, q5⟩ := HP.out _ _ h4; clear h4)
      | (go_at_call 25; refine (H2.out _ _ (by simp) HI1.out).mono ?_; rintro e w3 ⟨rfl, h3⟩; have HI2 : Veil _ := ⟨h3⟩; obtain ⟨-, -, -, q3, -, -⟩ := HP.out _ _ h3; clear h3)
      | (go_at_call 25; refine (H1.out _ _ (by simp) H0.out).mono ?_; rintro e w2 ⟨rfl, h2⟩; have HI1 : Veil _ := ⟨h2⟩; obtain ⟨-, q1, q2, -, -, -⟩ := HP.out _ _ h2; clear h2)
      | (go_at_call 24; refine (HL.out _).mono ?_; rintro e w1 ⟨rfl, rfl⟩))
    go_ret2
    exact ⟨rfl, hb6⟩
  · have e : reqR c = ([], 170) := by unfold reqR; rw [if_neg h]
    rw [e]
    rw [show opOk c.op = false by simpa using h] at HL
    clear h e hc
    obtain ⟨op, a, b, i, n, m⟩ := c
    unfold Cm.v
    dsimp only at *
    go_enter Try.func10, Try.ntmps10
    go_wp2_with (go_at_call 24; refine (HL.out _).mono ?_; rintro e w1 ⟨rfl, rfl⟩)
    go_ret2
    exact ⟨rfl, below_al (Below.refl _ _) _⟩

set_option maxRecDepth 20000 in
set_option maxHeartbeats 4000000 in
theorem reply_any (a : Aw) (w : World) : Calls Try.prog 15 #[a.v] w fun e w' => e = .returned (.tuple #[.string ⟨(repR a).1.toArray⟩, .int .i64 (repR a).2]) ∧ Below w.heap.size w w' := by
  have HL : Veil _ := ⟨fun w => iserr_any a.e w⟩
  by_cases h : erOk a.e = true
  · have e : repR a = (encA a, 0) := by unfold repR; rw [if_pos h]
    rw [e]
    rw [h] at HL
    have hop := (erOk_iff _).1 h
    have un := uns_wrap a.x
    have um := uns_wrap a.y
    have HEn : Veil (encA a = putB a.e.toNat 2 ++ (putB (uns a.x) 8 ++ putB (uns a.y) 8)) := ⟨rfl⟩
    clear e h
    obtain ⟨op, n, m⟩ := a
    unfold Aw.v
    dsimp only at *
    obtain ⟨O, rfl⟩ : ∃ O : Nat, op = O := ⟨op.toNat, by omega⟩
    rw [Int.toNat_natCast] at HEn
    have w0 : IntKind.u64.wrap (O : Int) = O := by rw [IntKind.wrap_u64]; omega
    obtain ⟨o, ho⟩ : ∃ o : Obj, Obj.cells #[.int .i64 O, .int .i64 n, .int .i64 m] 28 (0, 0) = o := ⟨_, rfl⟩
    have hno : ∀ c fz, o ≠ .cells c 5 fz := by rw [← ho]; exact not_u8 _ _ _ (by decide)
    generalize hN : uns n = N at *
    generalize hM : uns m = M at *
    have H1 : Veil _ := ⟨fun W g hg hI => rq_put w o hno [] (putB O 2) 2 [O] W g #[.int .u64 O] 1 hg hI rfl rfl (by decide) (by simp) (by simp) (by simp [putsB])⟩
    have H2 : Veil _ := ⟨fun W g hg hI => rq_put w o hno (putB O 2) (encA ⟨O, n, m⟩) 8 [N, M] W g #[.int .u64 N, .int .u64 M] 2 hg hI rfl rfl (by decide) (by simp) (by simp) (by rw [HEn.out]; simp [putsB])⟩
    have H5 : Veil _ := ⟨fun W hI => rq_end w o (encA ⟨O, n, m⟩) (by intro e0; have := congrArg List.length e0; rw [encA_len] at this; simp at this) (by rw [encA_len]; decide) W hI⟩
    have H0 : Veil _ := ⟨rq_new w o⟩
    clear HEn hN hM
    subst ho
    have HP : Veil _ := ⟨fun (w2 : World) (L : List UInt8) (h : RqI w (w.heap.size + 1) (Obj.cells #[.int .i64 O, .int .i64 n, .int .i64 m] 28 (0, 0)) L w2) => pk3' h.bx⟩
    go_enter Try.func15, Try.ntmps15
    go_wp2_with (first
      | (go_at_call 26; refine (H5.out _ HI2.out).mono ?_; rintro e w6 ⟨rfl, hb6⟩)
      | (go_at_call 25; refine (H2.out _ _ (by simp) HI1.out).mono ?_; rintro e w3 ⟨rfl, h3⟩; have HI2 : Veil _ := ⟨h3⟩; clear h3)
      | (go_at_call 25; refine (H1.out _ _ (by simp) H0.out).mono ?_; rintro e w2 ⟨rfl, h2⟩; have HI1 : Veil _ := ⟨h2⟩; obtain ⟨-, q1, q2⟩ := HP.out _ _ h2; clear h2)
      | (go_at_call 30; refine (HL.out _).mono ?_; rintro e w1 ⟨rfl, rfl⟩))
    go_ret2
    exact ⟨rfl, hb6⟩
  · have e : repR a = ([], 170) := by unfold repR; rw [if_neg h]
    rw [e]
    rw [show erOk a.e = false by simpa using h] at HL
    clear h e
    obtain ⟨op, n, m⟩ := a
    unfold Aw.v
    dsimp only at *
    go_enter Try.func15, Try.ntmps15
    go_wp2_with (go_at_call 30; refine (HL.out _).mono ?_; rintro e w1 ⟨rfl, rfl⟩)
    go_ret2
    exact ⟨rfl, below_al (Below.refl _ _) _⟩
end Go.Proofs.Ytaolhhgfnhhgaaa

/- Codec: the document's own Request, Reply, Frame. -/
namespace Go.Proofs.Ytaolhhgfnhhgaaa
open Go Go.RowKit Sm
attribute [local go_sem] Oper.semAt_some

set_option maxRecDepth 20000 in
set_option maxHeartbeats 4000000 in
theorem refrequest_any (c : Cm) (hc : c.Ok) (w : World) : Calls Try.prog 11 #[c.v] w fun e w' => e = .returned (.tuple #[.string ⟨(reqR c).1.toArray⟩, .int .i64 (reqR c).2]) ∧ Below w.heap.size w w' := by
  have HOk : Veil _ := ⟨opOk_iff c.op⟩
  by_cases h : opOk c.op = true
  · have hop := (opOk_iff _).1 h
    have e : reqR c = (((((putB c.op.toNat 1 ++ putB c.a 4) ++ putB c.b 4) ++ putB c.item 2) ++ putB (uns c.n) 8) ++ putB (uns c.m) 8, 0) := by unfold reqR; rw [if_pos h]; simp [encC]
    rw [e]
    have ba := hc.a
    have bb := hc.b
    have bi := hc.item
    clear e h hc HOk
    obtain ⟨op, a, b, i, n, m⟩ := c
    unfold Cm.v
    dsimp only at *
    obtain ⟨O, rfl⟩ : ∃ O : Nat, op = O := ⟨op.toNat, by omega⟩
    rw [Int.toNat_natCast]
    have wop : IntKind.u64.wrap (O : Int) = O := by rw [IntKind.wrap_u64]; omega
    have wa : IntKind.u64.wrap (a : Int) = a := by rw [IntKind.wrap_u64]; omega
    have wb : IntKind.u64.wrap (b : Int) = b := by rw [IntKind.wrap_u64]; omega
    have wi : IntKind.u64.wrap (i : Int) = i := by rw [IntKind.wrap_u64]; omega
    have wn := uns_wrap n
    generalize uns n = Un at *
    have wm := uns_wrap m
    generalize uns m = Um at *
    have P0 : Veil (∀ w, Calls Try.prog 27 #[.int .u64 O, .int .i64 1] w fun e w' => e = .returned (.string ⟨(putB O 1).toArray⟩) ∧ Below w.heap.size w w') := ⟨fun w => put_any O 1 (by decide) w⟩
    have P1 : Veil (∀ w, Calls Try.prog 27 #[.int .u64 a, .int .i64 4] w fun e w' => e = .returned (.string ⟨(putB a 4).toArray⟩) ∧ Below w.heap.size w w') := ⟨fun w => put_any a 4 (by decide) w⟩
    have P2 : Veil (∀ w, Calls Try.prog 27 #[.int .u64 b, .int .i64 4] w fun e w' => e = .returned (.string ⟨(putB b 4).toArray⟩) ∧ Below w.heap.size w w') := ⟨fun w => put_any b 4 (by decide) w⟩
    have P3 : Veil (∀ w, Calls Try.prog 27 #[.int .u64 i, .int .i64 2] w fun e w' => e = .returned (.string ⟨(putB i 2).toArray⟩) ∧ Below w.heap.size w w') := ⟨fun w => put_any i 2 (by decide) w⟩
    have P4 : Veil (∀ w, Calls Try.prog 27 #[.int .u64 Un, .int .i64 8] w fun e w' => e = .returned (.string ⟨(putB Un 8).toArray⟩) ∧ Below w.heap.size w w') := ⟨fun w => put_any Un 8 (by decide) w⟩
    have P5 : Veil (∀ w, Calls Try.prog 27 #[.int .u64 Um, .int .i64 8] w fun e w' => e = .returned (.string ⟨(putB Um 8).toArray⟩) ∧ Below w.heap.size w w') := ⟨fun w => put_any Um 8 (by decide) w⟩
    have HB : Veil _ := ⟨heap_alloc_new w (.cells #[.int .i64 O, .int .u32 a, .int .u32 b, .int .u16 i, .int .i64 n, .int .i64 m] 25)⟩
    have HBl : Veil _ := ⟨below_al (Below.refl _ w) (.cells #[.int .i64 O, .int .u32 a, .int .u32 b, .int .u16 i, .int .i64 n, .int .i64 m] 25)⟩
    have hO1 : ¬ ((O : Int) < 1) := by omega
    have hO2 : ¬ ((O : Int) > 21) := by omega
    go_enter Try.func11, Try.ntmps11
    go_wp2
    refine region_new [.is (.pointer (some ⟨w.heap.size, 0, none⟩)), .is (.int .i64 O), .is (.int .u64 O), .is (.string ⟨(putB O 1).toArray⟩), .is (.pointer (some ⟨w.heap.size, 1, none⟩)), .is (.int .u32 a), .is (.int .u64 a), .is (.string ⟨(putB a 4).toArray⟩), .is (.string ⟨(putB O 1 ++ putB a 4).toArray⟩), .is (.pointer (some ⟨w.heap.size, 2, none⟩)), .is (.int .u32 b), .is (.int .u64 b), .is (.string ⟨(putB b 4).toArray⟩), .is (.string ⟨((putB O 1 ++ putB a 4) ++ putB b 4).toArray⟩), .is (.pointer (some ⟨w.heap.size, 3, none⟩)), .is (.int .u16 i), .is (.int .u64 i), .is (.string ⟨(putB i 2).toArray⟩), .is (.string ⟨(((putB O 1 ++ putB a 4) ++ putB b 4) ++ putB i 2).toArray⟩), .is (.pointer (some ⟨w.heap.size, 4, none⟩)), .is (.int .i64 n), .is (.int .u64 Un), .is (.string ⟨(putB Un 8).toArray⟩), .is (.string ⟨((((putB O 1 ++ putB a 4) ++ putB b 4) ++ putB i 2) ++ putB Un 8).toArray⟩), .is (.pointer (some ⟨w.heap.size, 5, none⟩)), .is (.int .i64 m), .is (.int .u64 Um), .is (.string ⟨(putB Um 8).toArray⟩), .is (.string ⟨(((((putB O 1 ++ putB a 4) ++ putB b 4) ++ putB i 2) ++ putB Un 8) ++ putB Um 8).toArray⟩)]
      [[], [(0, 12)], [(1, 13)], [(2, 14)], [], [(4, 16)], [(5, 17)], [(6, 18)], [(3, 15), (7, 19)], [], [(9, 21)], [(10, 22)], [(11, 23)], [(8, 20), (12, 24)], [], [(14, 26)], [(15, 27)], [(16, 28)], [(13, 25), (17, 29)], [], [(19, 31)], [(20, 32)], [(21, 33)], [(18, 30), (22, 34)], [], [(24, 36)], [(25, 37)], [(26, 38)], [(23, 35), (27, 39)]]
      [[], [0], [1], [2], [], [4], [5], [3, 6], [3, 7], [], [9], [10], [7, 11], [8, 12], [], [14], [15], [12, 16], [13, 17], [], [19], [20], [17, 21], [18, 22], [], [24], [25], [22, 26], [23, 27]]
      [(0, 12), (1, 13), (2, 14), (3, 15), (4, 16), (5, 17), (6, 18), (7, 19), (8, 20), (9, 21), (10, 22), (11, 23), (12, 24), (13, 25), (14, 26), (15, 27), (16, 28), (17, 29), (18, 30), (19, 31), (20, 32), (21, 33), (22, 34), (23, 35), (24, 36), (25, 37), (26, 38), (27, 39), (28, 40)] rfl (by kernel_rfl) ⟨?_, ?_, ?_, ?_, ?_, ?_, ?_, ?_, ?_, ?_, ?_, ?_, ?_, ?_, ?_, ?_, ?_, ?_, ?_, ?_, ?_, ?_, ?_, ?_, ?_, ?_, ?_, ?_, ?_, trivial⟩ ?_
    · intro vals W hB _
      dsimp only [putsL, slotOf]
      go_wp2
      exact ⟨rfl, Below.refl _ _, rfl⟩
    · intro vals W hB ⟨h0, _⟩
      have h0 : vals 0 = _ := h0
      obtain ⟨x0, x1, x2, x3, x4, x5⟩ := pk6 ((hB.block _ (lt_of_heap HB.out)).trans HB.out)
      dsimp only [putsL, slotOf]
      rw [h0]
      go_wp2
      exact ⟨rfl, Below.refl _ _, rfl⟩
    · intro vals W hB ⟨h1, _⟩
      have h1 : vals 1 = _ := h1
      dsimp only [putsL, slotOf]
      rw [h1]
      go_wp2
      exact ⟨rfl, Below.refl _ _, rfl⟩
    · intro vals W hB ⟨h2, _⟩
      have h2 : vals 2 = _ := h2
      dsimp only [putsL, slotOf]
      rw [h2]
      go_wp2_with ((go_at_call 27; (with_reducible refine (P0.out _).mono ?_); rintro e w4 ⟨rfl, hb4⟩))
      exact ⟨rfl, hb4, rfl⟩
    · intro vals W hB _
      dsimp only [putsL, slotOf]
      go_wp2
      exact ⟨rfl, Below.refl _ _, rfl⟩
    · intro vals W hB ⟨h4, _⟩
      have h4 : vals 4 = _ := h4
      obtain ⟨x0, x1, x2, x3, x4, x5⟩ := pk6 ((hB.block _ (lt_of_heap HB.out)).trans HB.out)
      dsimp only [putsL, slotOf]
      rw [h4]
      go_wp2
      exact ⟨rfl, Below.refl _ _, rfl⟩
    · intro vals W hB ⟨h5, _⟩
      have h5 : vals 5 = _ := h5
      dsimp only [putsL, slotOf]
      rw [h5]
      go_wp2
      exact ⟨rfl, Below.refl _ _, rfl⟩
    · intro vals W hB ⟨h3, h6, _⟩
      have h6 : vals 6 = _ := h6
      dsimp only [putsL, slotOf]
      rw [h6]
      go_wp2_with ((go_at_call 27; (with_reducible refine (P1.out _).mono ?_); rintro e w4 ⟨rfl, hb4⟩))
      exact ⟨rfl, hb4, rfl⟩
    · intro vals W hB ⟨h3, h7, _⟩
      have h3 : vals 3 = _ := h3
      have h7 : vals 7 = _ := h7
      dsimp only [putsL, slotOf]
      rw [h3, h7]
      go_wp2
      exact ⟨rfl, Below.refl _ _, congrArg Value.string (str_add _ _)⟩
    · intro vals W hB _
      dsimp only [putsL, slotOf]
      go_wp2
      exact ⟨rfl, Below.refl _ _, rfl⟩
    · intro vals W hB ⟨h9, _⟩
      have h9 : vals 9 = _ := h9
      obtain ⟨x0, x1, x2, x3, x4, x5⟩ := pk6 ((hB.block _ (lt_of_heap HB.out)).trans HB.out)
      dsimp only [putsL, slotOf]
      rw [h9]
      go_wp2
      exact ⟨rfl, Below.refl _ _, rfl⟩
    · intro vals W hB ⟨h10, _⟩
      have h10 : vals 10 = _ := h10
      dsimp only [putsL, slotOf]
      rw [h10]
      go_wp2
      exact ⟨rfl, Below.refl _ _, rfl⟩
    · intro vals W hB ⟨h7, h11, _⟩
      have h11 : vals 11 = _ := h11
      dsimp only [putsL, slotOf]
      rw [h11]
      go_wp2_with ((go_at_call 27; (with_reducible refine (P2.out _).mono ?_); rintro e w4 ⟨rfl, hb4⟩))
      exact ⟨rfl, hb4, rfl⟩
    · intro vals W hB ⟨h8, h12, _⟩
      have h8 : vals 8 = _ := h8
      have h12 : vals 12 = _ := h12
      dsimp only [putsL, slotOf]
      rw [h8, h12]
      go_wp2
      exact ⟨rfl, Below.refl _ _, congrArg Value.string (str_add _ _)⟩
    · intro vals W hB _
      dsimp only [putsL, slotOf]
      go_wp2
      exact ⟨rfl, Below.refl _ _, rfl⟩
    · intro vals W hB ⟨h14, _⟩
      have h14 : vals 14 = _ := h14
      obtain ⟨x0, x1, x2, x3, x4, x5⟩ := pk6 ((hB.block _ (lt_of_heap HB.out)).trans HB.out)
      dsimp only [putsL, slotOf]
      rw [h14]
      go_wp2
      exact ⟨rfl, Below.refl _ _, rfl⟩
    · intro vals W hB ⟨h15, _⟩
      have h15 : vals 15 = _ := h15
      dsimp only [putsL, slotOf]
      rw [h15]
      go_wp2
      exact ⟨rfl, Below.refl _ _, rfl⟩
    · intro vals W hB ⟨h12, h16, _⟩
      have h16 : vals 16 = _ := h16
      dsimp only [putsL, slotOf]
      rw [h16]
      go_wp2_with ((go_at_call 27; (with_reducible refine (P3.out _).mono ?_); rintro e w4 ⟨rfl, hb4⟩))
      exact ⟨rfl, hb4, rfl⟩
    · intro vals W hB ⟨h13, h17, _⟩
      have h13 : vals 13 = _ := h13
      have h17 : vals 17 = _ := h17
      dsimp only [putsL, slotOf]
      rw [h13, h17]
      go_wp2
      exact ⟨rfl, Below.refl _ _, congrArg Value.string (str_add _ _)⟩
    · intro vals W hB _
      dsimp only [putsL, slotOf]
      go_wp2
      exact ⟨rfl, Below.refl _ _, rfl⟩
    · intro vals W hB ⟨h19, _⟩
      have h19 : vals 19 = _ := h19
      obtain ⟨x0, x1, x2, x3, x4, x5⟩ := pk6 ((hB.block _ (lt_of_heap HB.out)).trans HB.out)
      dsimp only [putsL, slotOf]
      rw [h19]
      go_wp2
      exact ⟨rfl, Below.refl _ _, rfl⟩
    · intro vals W hB ⟨h20, _⟩
      have h20 : vals 20 = _ := h20
      dsimp only [putsL, slotOf]
      rw [h20]
      go_wp2
      exact ⟨rfl, Below.refl _ _, rfl⟩
    · intro vals W hB ⟨h17, h21, _⟩
      have h21 : vals 21 = _ := h21
      dsimp only [putsL, slotOf]
      rw [h21]
      go_wp2_with ((go_at_call 27; (with_reducible refine (P4.out _).mono ?_); rintro e w4 ⟨rfl, hb4⟩))
      exact ⟨rfl, hb4, rfl⟩
    · intro vals W hB ⟨h18, h22, _⟩
      have h18 : vals 18 = _ := h18
      have h22 : vals 22 = _ := h22
      dsimp only [putsL, slotOf]
      rw [h18, h22]
      go_wp2
      exact ⟨rfl, Below.refl _ _, congrArg Value.string (str_add _ _)⟩
    · intro vals W hB _
      dsimp only [putsL, slotOf]
      go_wp2
      exact ⟨rfl, Below.refl _ _, rfl⟩
    · intro vals W hB ⟨h24, _⟩
      have h24 : vals 24 = _ := h24
      obtain ⟨x0, x1, x2, x3, x4, x5⟩ := pk6 ((hB.block _ (lt_of_heap HB.out)).trans HB.out)
      dsimp only [putsL, slotOf]
      rw [h24]
      go_wp2
      exact ⟨rfl, Below.refl _ _, rfl⟩
    · intro vals W hB ⟨h25, _⟩
      have h25 : vals 25 = _ := h25
      dsimp only [putsL, slotOf]
      rw [h25]
      go_wp2
      exact ⟨rfl, Below.refl _ _, rfl⟩
    · intro vals W hB ⟨h22, h26, _⟩
      have h26 : vals 26 = _ := h26
      dsimp only [putsL, slotOf]
      rw [h26]
      go_wp2_with ((go_at_call 27; (with_reducible refine (P5.out _).mono ?_); rintro e w4 ⟨rfl, hb4⟩))
      exact ⟨rfl, hb4, rfl⟩
    · intro vals W hB ⟨h23, h27, _⟩
      have h23 : vals 23 = _ := h23
      have h27 : vals 27 = _ := h27
      dsimp only [putsL, slotOf]
      rw [h23, h27]
      go_wp2
      exact ⟨rfl, Below.refl _ _, congrArg Value.string (str_add _ _)⟩
    rintro vals W hB ⟨q0, q1, q2, q3, q4, q5, q6, q7, q8, q9, q10, q11, q12, q13, q14, q15, q16, q17, q18, q19, q20, q21, q22, q23, q24, q25, q26, q27, q28, -⟩
    have h0 : vals 0 = _ := q0
    have h1 : vals 1 = _ := q1
    have h2 : vals 2 = _ := q2
    have h3 : vals 3 = _ := q3
    have h4 : vals 4 = _ := q4
    have h5 : vals 5 = _ := q5
    have h6 : vals 6 = _ := q6
    have h7 : vals 7 = _ := q7
    have h8 : vals 8 = _ := q8
    have h9 : vals 9 = _ := q9
    have h10 : vals 10 = _ := q10
    have h11 : vals 11 = _ := q11
    have h12 : vals 12 = _ := q12
    have h13 : vals 13 = _ := q13
    have h14 : vals 14 = _ := q14
    have h15 : vals 15 = _ := q15
    have h16 : vals 16 = _ := q16
    have h17 : vals 17 = _ := q17
    have h18 : vals 18 = _ := q18
    have h19 : vals 19 = _ := q19
    have h20 : vals 20 = _ := q20
    have h21 : vals 21 = _ := q21
    have h22 : vals 22 = _ := q22
    have h23 : vals 23 = _ := q23
    have h24 : vals 24 = _ := q24
    have h25 : vals 25 = _ := q25
    have h26 : vals 26 = _ := q26
    have h27 : vals 27 = _ := q27
    have h28 : vals 28 = _ := q28
    dsimp only [putsL]
    rw [h0, h1, h2, h3, h4, h5, h6, h7, h8, h9, h10, h11, h12, h13, h14, h15, h16, h17, h18, h19, h20, h21, h22, h23, h24, h25, h26, h27, h28]
    clear h0 q0 h1 q1 h2 q2 h3 q3 h4 q4 h5 q5 h6 q6 h7 q7 h8 q8 h9 q9 h10 q10 h11 q11 h12 q12 h13 q13 h14 q14 h15 q15 h16 q16 h17 q17 h18 q18 h19 q19 h20 q20 h21 q21 h22 q22 h23 q23 h24 q24 h25 q25 h26 q26 h27 q27 h28 q28
    simp only [List.length_cons, List.length_nil, Nat.reduceAdd, List.drop_succ_cons, List.drop_zero, List.setIfInBounds_toArray, List.set_cons_succ, List.set_cons_zero]
    go_wp2
    go_ret2
    exact ⟨rfl, bc_then HBl.out hB⟩
  · have e : reqR c = ([], 170) := by unfold reqR; rw [if_neg h]
    rw [e]
    rw [HOk.out] at h
    clear e hc HOk
    obtain ⟨op, a, b, i, n, m⟩ := c
    unfold Cm.v
    dsimp only at *
    by_cases h1 : op < 1
    · go_enter Try.func11, Try.ntmps11
      go_wp2
      go_ret2
      exact ⟨rfl, below_al (Below.refl _ _) _⟩
    · have h2 : op > 21 := by omega
      go_enter Try.func11, Try.ntmps11
      go_wp2
      go_ret2
      exact ⟨rfl, below_al (Below.refl _ _) _⟩

set_option maxRecDepth 20000 in
set_option maxHeartbeats 4000000 in
theorem refreply_any (c : Aw) (_hc : c.Ok) (w : World) : Calls Try.prog 16 #[c.v] w fun e w' => e = .returned (.tuple #[.string ⟨(repR c).1.toArray⟩, .int .i64 (repR c).2]) ∧ Below w.heap.size w w' := by
  have HOk : Veil _ := ⟨erOk_iff c.e⟩
  by_cases h : erOk c.e = true
  · have hop := (erOk_iff _).1 h
    have e : repR c = ((putB c.e.toNat 2 ++ putB (uns c.x) 8) ++ putB (uns c.y) 8, 0) := by unfold repR; rw [if_pos h]; simp [encA]
    rw [e]
    clear e h HOk
    obtain ⟨op, n, m⟩ := c
    unfold Aw.v
    dsimp only at *
    obtain ⟨O, rfl⟩ : ∃ O : Nat, op = O := ⟨op.toNat, by omega⟩
    rw [Int.toNat_natCast]
    have wop : IntKind.u64.wrap (O : Int) = O := by rw [IntKind.wrap_u64]; omega
    have wn := uns_wrap n
    generalize uns n = Un at *
    have wm := uns_wrap m
    generalize uns m = Um at *
    have P0 : Veil (∀ w, Calls Try.prog 27 #[.int .u64 O, .int .i64 2] w fun e w' => e = .returned (.string ⟨(putB O 2).toArray⟩) ∧ Below w.heap.size w w') := ⟨fun w => put_any O 2 (by decide) w⟩
    have P1 : Veil (∀ w, Calls Try.prog 27 #[.int .u64 Un, .int .i64 8] w fun e w' => e = .returned (.string ⟨(putB Un 8).toArray⟩) ∧ Below w.heap.size w w') := ⟨fun w => put_any Un 8 (by decide) w⟩
    have P2 : Veil (∀ w, Calls Try.prog 27 #[.int .u64 Um, .int .i64 8] w fun e w' => e = .returned (.string ⟨(putB Um 8).toArray⟩) ∧ Below w.heap.size w w') := ⟨fun w => put_any Um 8 (by decide) w⟩
    have HB : Veil _ := ⟨heap_alloc_new w (.cells #[.int .i64 O, .int .i64 n, .int .i64 m] 28)⟩
    have HBl : Veil _ := ⟨below_al (Below.refl _ w) (.cells #[.int .i64 O, .int .i64 n, .int .i64 m] 28)⟩
    have hO1 : ¬ ((O : Int) < 0) := by omega
    have hO2 : ¬ ((O : Int) > 999) := by omega
    go_enter Try.func16, Try.ntmps16
    go_wp2
    refine region_new [.is (.pointer (some ⟨w.heap.size, 0, none⟩)), .is (.int .i64 O), .is (.int .u64 O), .is (.string ⟨(putB O 2).toArray⟩), .is (.pointer (some ⟨w.heap.size, 1, none⟩)), .is (.int .i64 n), .is (.int .u64 Un), .is (.string ⟨(putB Un 8).toArray⟩), .is (.string ⟨(putB O 2 ++ putB Un 8).toArray⟩), .is (.pointer (some ⟨w.heap.size, 2, none⟩)), .is (.int .i64 m), .is (.int .u64 Um), .is (.string ⟨(putB Um 8).toArray⟩), .is (.string ⟨((putB O 2 ++ putB Un 8) ++ putB Um 8).toArray⟩)]
      [[], [(0, 12)], [(1, 13)], [(2, 14)], [], [(4, 16)], [(5, 17)], [(6, 18)], [(3, 15), (7, 19)], [], [(9, 21)], [(10, 22)], [(11, 23)], [(8, 20), (12, 24)]]
      [[], [0], [1], [2], [], [4], [5], [3, 6], [3, 7], [], [9], [10], [7, 11], [8, 12]]
      [(0, 12), (1, 13), (2, 14), (3, 15), (4, 16), (5, 17), (6, 18), (7, 19), (8, 20), (9, 21), (10, 22), (11, 23), (12, 24), (13, 25)] rfl (by kernel_rfl) ⟨?_, ?_, ?_, ?_, ?_, ?_, ?_, ?_, ?_, ?_, ?_, ?_, ?_, ?_, trivial⟩ ?_
    · intro vals W hB _
      dsimp only [putsL, slotOf]
      go_wp2
      exact ⟨rfl, Below.refl _ _, rfl⟩
    · intro vals W hB ⟨h0, _⟩
      have h0 : vals 0 = _ := h0
      obtain ⟨x0, x1, x2⟩ := pk3' ((hB.block _ (lt_of_heap HB.out)).trans HB.out)
      dsimp only [putsL, slotOf]
      rw [h0]
      go_wp2
      exact ⟨rfl, Below.refl _ _, rfl⟩
    · intro vals W hB ⟨h1, _⟩
      have h1 : vals 1 = _ := h1
      dsimp only [putsL, slotOf]
      rw [h1]
      go_wp2
      exact ⟨rfl, Below.refl _ _, rfl⟩
    · intro vals W hB ⟨h2, _⟩
      have h2 : vals 2 = _ := h2
      dsimp only [putsL, slotOf]
      rw [h2]
      go_wp2_with ((go_at_call 27; (with_reducible refine (P0.out _).mono ?_); rintro e w4 ⟨rfl, hb4⟩))
      exact ⟨rfl, hb4, rfl⟩
    · intro vals W hB _
      dsimp only [putsL, slotOf]
      go_wp2
      exact ⟨rfl, Below.refl _ _, rfl⟩
    · intro vals W hB ⟨h4, _⟩
      have h4 : vals 4 = _ := h4
      obtain ⟨x0, x1, x2⟩ := pk3' ((hB.block _ (lt_of_heap HB.out)).trans HB.out)
      dsimp only [putsL, slotOf]
      rw [h4]
      go_wp2
      exact ⟨rfl, Below.refl _ _, rfl⟩
    · intro vals W hB ⟨h5, _⟩
      have h5 : vals 5 = _ := h5
      dsimp only [putsL, slotOf]
      rw [h5]
      go_wp2
      exact ⟨rfl, Below.refl _ _, rfl⟩
    · intro vals W hB ⟨h3, h6, _⟩
      have h6 : vals 6 = _ := h6
      dsimp only [putsL, slotOf]
      rw [h6]
      go_wp2_with ((go_at_call 27; (with_reducible refine (P1.out _).mono ?_); rintro e w4 ⟨rfl, hb4⟩))
      exact ⟨rfl, hb4, rfl⟩
    · intro vals W hB ⟨h3, h7, _⟩
      have h3 : vals 3 = _ := h3
      have h7 : vals 7 = _ := h7
      dsimp only [putsL, slotOf]
      rw [h3, h7]
      go_wp2
      exact ⟨rfl, Below.refl _ _, congrArg Value.string (str_add _ _)⟩
    · intro vals W hB _
      dsimp only [putsL, slotOf]
      go_wp2
      exact ⟨rfl, Below.refl _ _, rfl⟩
    · intro vals W hB ⟨h9, _⟩
      have h9 : vals 9 = _ := h9
      obtain ⟨x0, x1, x2⟩ := pk3' ((hB.block _ (lt_of_heap HB.out)).trans HB.out)
      dsimp only [putsL, slotOf]
      rw [h9]
      go_wp2
      exact ⟨rfl, Below.refl _ _, rfl⟩
    · intro vals W hB ⟨h10, _⟩
      have h10 : vals 10 = _ := h10
      dsimp only [putsL, slotOf]
      rw [h10]
      go_wp2
      exact ⟨rfl, Below.refl _ _, rfl⟩
    · intro vals W hB ⟨h7, h11, _⟩
      have h11 : vals 11 = _ := h11
      dsimp only [putsL, slotOf]
      rw [h11]
      go_wp2_with ((go_at_call 27; (with_reducible refine (P2.out _).mono ?_); rintro e w4 ⟨rfl, hb4⟩))
      exact ⟨rfl, hb4, rfl⟩
    · intro vals W hB ⟨h8, h12, _⟩
      have h8 : vals 8 = _ := h8
      have h12 : vals 12 = _ := h12
      dsimp only [putsL, slotOf]
      rw [h8, h12]
      go_wp2
      exact ⟨rfl, Below.refl _ _, congrArg Value.string (str_add _ _)⟩
    rintro vals W hB ⟨q0, q1, q2, q3, q4, q5, q6, q7, q8, q9, q10, q11, q12, q13, -⟩
    have h0 : vals 0 = _ := q0
    have h1 : vals 1 = _ := q1
    have h2 : vals 2 = _ := q2
    have h3 : vals 3 = _ := q3
    have h4 : vals 4 = _ := q4
    have h5 : vals 5 = _ := q5
    have h6 : vals 6 = _ := q6
    have h7 : vals 7 = _ := q7
    have h8 : vals 8 = _ := q8
    have h9 : vals 9 = _ := q9
    have h10 : vals 10 = _ := q10
    have h11 : vals 11 = _ := q11
    have h12 : vals 12 = _ := q12
    have h13 : vals 13 = _ := q13
    dsimp only [putsL]
    rw [h0, h1, h2, h3, h4, h5, h6, h7, h8, h9, h10, h11, h12, h13]
    clear h0 q0 h1 q1 h2 q2 h3 q3 h4 q4 h5 q5 h6 q6 h7 q7 h8 q8 h9 q9 h10 q10 h11 q11 h12 q12 h13 q13
    simp only [List.length_cons, List.length_nil, Nat.reduceAdd, List.drop_succ_cons, List.drop_zero, List.setIfInBounds_toArray, List.set_cons_succ, List.set_cons_zero]
    go_wp2
    go_ret2
    exact ⟨rfl, bc_then HBl.out hB⟩
  · have e : repR c = ([], 170) := by unfold repR; rw [if_neg h]
    rw [e]
    rw [HOk.out] at h
    clear e HOk
    obtain ⟨op, n, m⟩ := c
    unfold Aw.v
    dsimp only at *
    by_cases h1 : op < 0
    · go_enter Try.func16, Try.ntmps16
      go_wp2
      go_ret2
      exact ⟨rfl, below_al (Below.refl _ _) _⟩
    · have h2 : op > 999 := by omega
      go_enter Try.func16, Try.ntmps16
      go_wp2
      go_ret2
      exact ⟨rfl, below_al (Below.refl _ _) _⟩
end Go.Proofs.Ytaolhhgfnhhgaaa
