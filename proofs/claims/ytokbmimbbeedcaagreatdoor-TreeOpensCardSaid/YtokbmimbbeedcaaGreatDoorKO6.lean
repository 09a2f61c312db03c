/- A node's bytes, part by part; the walk of Size. -/
import Derived.Test.YtokbmimbbeedcaaGreatDoorKO2
import Derived.Test.YtokbmimbbeedcaaGreatDoorKP1
import Derived.Test.YtokbmimbbeedcaaGreatDoorKF1
namespace Go.Proofs.YtokbmimbbeedcaaGreatDoor
open Go Go.RowKit Sm
attribute [local go_sem] Oper.semAt_some

def txB (T : List (List UInt8)) : List UInt8 := T.flatMap fun s => putB s.length 1 ++ s
theorem txB_len (T : List (List UInt8)) : (txB T).length = tsz T := by
  induction T with
  | nil => rfl
  | cons s r ih =>
    simp only [txB, tsz, List.flatMap_cons, List.length_append, putB_length, List.map_cons, List.sum_cons] at ih ⊢
    omega
theorem txB_take (T : List (List UInt8)) (k : Nat) (h : k < T.length) : txB (T.take (k + 1)) = txB (T.take k) ++ putB (T.getD k []).length 1 ++ T.getD k [] := by
  have e : T.take (k + 1) = T.take k ++ [T.getD k []] := by
    rw [List.take_add_one]; simp [List.getD, h]
  rw [e]; simp [txB]
def Nd.partB (n : Nd) (k : Nat) : List UInt8 := if k < n.ps.length then txB [(n.ps.getD k Pr.zero).k, (n.ps.getD k Pr.zero).v] else txB (n.ahead k) ++ putB (n.ds.getD k 0) 4
theorem partB_len (n : Nd) (k : Nat) : (n.partB k).length = n.part k := by
  unfold Nd.partB Nd.part
  split
  · rw [txB_len]
  · rw [List.length_append, txB_len, putB_length]
def encP (n : Nd) (k : Nat) : List UInt8 := putB (n.ps.length + n.ds.length) 1 ++ (List.range k).flatMap n.partB
theorem encP_zero (n : Nd) : encP n 0 = putB (n.ps.length + n.ds.length) 1 := by simp [encP]
theorem encP_succ (n : Nd) (k : Nat) : encP n (k + 1) = encP n k ++ n.partB k := by
  unfold encP
  rw [List.range_succ]
  simp
theorem enc_leaf {n : Nd} (h : n.ds.length = 0) : n.enc = encP n (n.ps.length + n.ds.length) := by
  have h' : ∀ k, k ≤ n.ps.length → psB n.ps k = encP n k := by
    intro k
    induction k with
    | zero => intro _; simp [psB, encP, h]
    | succ k ih =>
      intro hk
      rw [psB_succ n.ps k (by omega), encP_succ, ih (by omega), Nd.partB, if_pos (by omega)]
      simp [txB]
  rw [Nd.enc, if_pos h, h, Nat.add_zero, h' _ (Nat.le_refl _)]
theorem enc_branch {n : Nd} (h : n.ps.length = 0) (hkd : n.ks.length + 1 = n.ds.length) : n.enc = encP n (n.ps.length + n.ds.length) := by
  have h' : ∀ k, k ≤ n.ks.length → bsB n k = encP n (k + 1) := by
    intro k
    induction k with
    | zero =>
      intro _
      rw [encP_succ, encP_zero, Nd.partB, if_neg (by omega), Nd.ahead, if_pos (.inl rfl), h, Nat.zero_add]
      simp [bsB, txB]
    | succ k ih =>
      intro hk
      rw [bsB_succ, encP_succ, ih (by omega), Nd.partB, if_neg (by omega), Nd.ahead, if_neg (by omega)]
      simp [txB]
  rw [Nd.enc, if_neg (by omega), h, Nat.zero_add, ← hkd, h' _ (Nat.le_refl _)]
theorem Nd.right_xd {n : Nd} (h : n.right = true) : n.ps.length = 0 ∨ n.ds.length = 0 := by
  rcases Bool.or_eq_true_iff.1 h with h | h
  · exact Or.inr (n.leaf_iff.1 h).1.2.1
  · exact Or.inl (n.branch_iff.1 h).1.1
theorem enc_right {n : Nd} (h : n.right = true) : n.enc = encP n (n.ps.length + n.ds.length) := by
  rcases Bool.or_eq_true_iff.1 h with h | h
  · exact enc_leaf (n.leaf_iff.1 h).1.2.1
  · exact enc_branch (n.branch_iff.1 h).1.1 (n.branch_iff.1 h).1.2.2.2
theorem part_le {n : Nd} (hok : n.Ok) (hkd : n.ds.length = 0 ∨ n.ks.length + 1 = n.ds.length) {k : Nat} (hk : k < n.ps.length + n.ds.length) (hx : n.ps.length = 0 ∨ n.ds.length = 0) : n.part k ≤ 2000006 := by
  unfold Nd.part
  split
  · rename_i h
    obtain ⟨h1, h2⟩ := hok.pt _ (getD_mem h Pr.zero)
    simp only [tsz, List.map_cons, List.map_nil, List.sum_cons, List.sum_nil]
    omega
  · have h1 := tsz_le (n.ahead k) (Nd.ahead_mem (by omega) hok.kt)
    have h2 := n.ahead_len k
    have h3 : (n.ahead k).length * 1000001 ≤ 1 * 1000001 := Nat.mul_le_mul_right _ h2
    omega
theorem encP_len {n : Nd} (hok : n.Ok) (hkd : n.ds.length = 0 ∨ n.ks.length + 1 = n.ds.length) (hx : n.ps.length = 0 ∨ n.ds.length = 0) : ∀ k, k ≤ n.ps.length + n.ds.length → (encP n k).length ≤ 1 + k * 2000006
  | 0, _ => by simp [encP]
  | k + 1, hk => by
    have ih := encP_len hok hkd hx k (by omega)
    have := part_le hok hkd (show k < n.ps.length + n.ds.length by omega) hx
    rw [encP_succ, List.length_append, partB_len]
    omega

theorem results_int6 {fn : Func} {p : Tmp} {tmps : Array Value} {w : World} {x : Value} (h : fn.results = #[.tmp p]) (hp : tmps.getD p undef = x) : (results fn tmps).run Tryz.prog w = .ok x w := by
  rw [results_tmp h]
  simpa using hp
/-- Between two rounds: the sum's box, the iterator's. -/
structure SizI (w : World) (B Bx : Nat) (n : Nd) (a : NdP) (s : Nat) (A : World) : Prop where
  s : A.heap[B]? = some (.cells #[.int .i64 s] 3 (0, 0))
  x : ReadsN Bx n a A
  t : Turned (fun _ => False) w A
theorem SizI.booked {w : World} {B Bx : Nat} {n : Nd} {a : NdP} {s : Nat} {A A' : World} {C : Nat} (h : SizI w B Bx n a s A) (hb : Booked C A A') (hC : w.heap.size ≤ C) : SizI w B Bx n a s A' :=
  ⟨hb.heap h.s, h.x.booked hb, hb.turned h.t hC⟩
theorem ReadsN.apart {Bx : Nat} {n : Nd} {a : NdP} {w W W' : World} (h : ReadsN Bx n a W) (hn : NdAt w n a) {F : Nat → Prop} (ht : Turned F W W') (hF : ∀ k, F k → w.heap.size ≤ k) (hB : ¬ F Bx) : ReadsN Bx n a W' :=
  ⟨ht.heap h.b hB, h.s.turned ht hF hn⟩

set_option maxRecDepth 20000 in
set_option maxHeartbeats 2000000 in
theorem size_of {w : World} {n : Nd} {a : NdP} (h : NdAt w n a) (hf : SlOk a.pk n.ks.length a.ck) (hok : Veil n.Ok) :
    Calls Tryz.prog 78 #[n.v a] w fun e w' => e = .returned (.int .i64 n.size) ∧ Below w.heap.size w w' := by
  refine calls_of_wp_marks Tryz.func78 rfl ?_
  simp only [Tryz.ntmps78, List.size_toArray, List.length_cons, List.length_nil, Nat.reduceAdd, Nat.reduceSub, Array.replicate_succ, Array.replicate_zero, List.push_toArray, List.append_toArray, List.nil_append, List.cons_append]
  have HRt : Veil (∀ w, NdAt w n a → Calls Tryz.prog 64 #[n.v a] w fun e w' => e = .returned (.bool n.right) ∧ Below w.heap.size w w') := ⟨fun w h => nright_of h hok⟩
  have HPa : Veil (∀ w, NdAt w n a → Calls Tryz.prog 109 #[n.v a] w fun e w' => ∃ Bx, e = .returned (.func (.func 139) #[] #[.pointer (some ⟨Bx, 0, none⟩)]) ∧ ReadsN Bx n a w' ∧ Below w.heap.size w w') := ⟨fun w h => partsN_of h⟩
  have HS : Veil (n.right = true → (∀ Bx, Seq Tryz.prog 139 #[.pointer (some ⟨Bx, 0, none⟩)] (handsQ n) (n.ps.length + n.ds.length) (ReadsN Bx n a)) ∧ n.size = (encP n (n.ps.length + n.ds.length)).length ∧ (∀ k, k < n.ps.length + n.ds.length → n.part k ≤ 2000006) ∧ ∀ k, k ≤ n.ps.length + n.ds.length → (encP n k).length ≤ 1 + k * 2000006) := ⟨fun hr =>
    ⟨fun Bx => parts_seq Bx n a hok hf (Nd.right_xd hr) (Nd.right_kd hr), by rw [Nd.size, if_pos hr, enc_right hr], fun k hk => part_le hok.out (Nd.right_kd hr) hk (Nd.right_xd hr), encP_len hok.out (Nd.right_kd hr) (Nd.right_xd hr)⟩⟩
  have HZ0 : Veil (n.right = false → n.size = 0) := ⟨fun hr => by rw [Nd.size, if_neg (by simp [hr])]⟩
  have HL0 : Veil ((encP n 0).length = 1) := ⟨by simp [encP_zero]⟩
  have HLs : Veil (∀ k, (encP n (k + 1)).length = (encP n k).length + n.part k) := ⟨fun k => by rw [encP_succ, List.length_append, partB_len]⟩
  have hP : n.ps.length ≤ 100000 := hok.out.p
  have hD : n.ds.length ≤ 100000 := hok.out.d
  clear hok hf
  revert HRt HS HZ0
  generalize n.right = r
  generalize n.size = sz
  intro HRt HS HZ0
  have HH : Veil _ := ⟨h⟩
  have HB : Veil _ := ⟨NdBox.new h⟩
  obtain ⟨W1, hW1⟩ : ∃ W1, w.alloc (.cells #[.slice a.pp n.ps.length a.cp, .slice a.pk n.ks.length a.ck, .slice a.pd n.ds.length a.cd] 92) = W1 := ⟨_, rfl⟩
  rw [hW1] at HB
  obtain ⟨a0, a1, a2⟩ := HB.out.cells
  clear h
  have HV : Veil (n.v a = .agg #[.slice a.pp n.ps.length a.cp, .slice a.pk n.ks.length a.ck, .slice a.pd n.ds.length a.cd]) := ⟨rfl⟩
  unfold Nd.v at *
  cases r
  · obtain rfl : sz = 0 := HZ0.out rfl
    clear HS HZ0
    go_wp2_with (go_at_call 64; refine (HRt.out _ HB.out.s).mono ?_; rintro e w2 ⟨rfl, hb⟩; replace HB : Veil _ := ⟨HB.out.below hb⟩; clear hb a0 a1 a2; obtain ⟨a0, a1, a2⟩ := HB.out.cells)
    exact leaves_none (results_int6 rfl rfl) ⟨rfl, HB.out.x⟩
  · obtain ⟨hSeq, rfl, hpl, hel⟩ := HS.out rfl
    have HSq : Veil _ := ⟨hSeq⟩
    have HPL : Veil _ := ⟨hpl⟩
    have HEL : Veil _ := ⟨hel⟩
    clear HS HZ0 hSeq hpl hel
    unfold handsQ at HSq
    obtain ⟨N, hN⟩ : ∃ N, n.ps.length + n.ds.length = N := ⟨_, rfl⟩
    rw [hN] at HSq HPL HEL
    rw [hN]
    have HN : Veil (N ≤ 200000) := ⟨by omega⟩
    clear hN
    revert HEL; revert HPL; revert HSq; revert HLs; revert HL0
    generalize n.part = part
    generalize (fun k => (encP n k).length) = L0
    have HLE : Veil (∃ L : Nat → Nat, ∀ k, (encP n k).length = L k) := ⟨⟨_, fun _ => rfl⟩⟩
    obtain ⟨L, hL⟩ := HLE.out
    simp only [hL]
    clear HLE hL
    intro HL0 HLs HSq HPL HEL
    go_wp2_with (first
      | (go_at_call 109; refine (HPa.out _ (HB.out.s.below hb3)).mono ?_; rintro e w4 ⟨Bx, rfl, hrd, hb4⟩)
      | (go_at_call 64; refine (HRt.out _ HB.out.s).mono ?_; rintro e w2 ⟨rfl, hb⟩; replace HB : Veil _ := ⟨HB.out.below hb⟩; obtain ⟨w3, hw3⟩ : ∃ w3, w2.alloc (.cells #[.int .i64 1] 3) = w3 := ⟨_, rfl⟩; have hb3 : Below w2.heap.size w2 w3 := (by rw [← hw3]; exact below_al (Below.refl _ _) _); have hs3 : w3.heap[w2.heap.size]? = some (.cells #[.int .i64 1] 3 (0, 0)) := (by rw [← hw3]; exact heap_alloc_new _ _); clear hb a0 a1 a2; obtain ⟨a0, a1, a2⟩ := (HB.out.below hb3).cells))
    obtain ⟨B, hB⟩ : ∃ B, w2.heap.size = B := ⟨_, rfl⟩
    have hx4 : Turned (fun _ => False) w w4 := Turned.new (bn_then (bn_then HB.out.x hb3) hb4)
    have hs4 : w4.heap[B]? = some (.cells #[.int .i64 1] 3 (0, 0)) := by rw [← hB]; exact (hb4.block _ (lt_of_heap hs3)).trans hs3
    have HBz : Veil (w.heap.size < B ∧ B < w4.heap.size ∧ Bx ≠ B) := ⟨by
      have h1 := lt_of_heap HB.out.b
      have h2 := lt_of_heap hs4
      refine ⟨by omega, h2, fun e => ?_⟩
      have := hrd.b
      rw [e, hs4] at this
      simp at this⟩
    have hI : SizI w B Bx n a 1 w4 := ⟨hs4, hrd, hx4⟩
    rw [hB]
    clear a0 a1 a2 hs3 hs4 hb3 hb4 hx4 hrd hw3 hB HB hW1 HRt HPa
    refine wp_range_seq (gf := 139) (lb := #[.pointer (some ⟨Bx, 0, none⟩)]) rfl (enters_of Tryz.func139 (by kernel_rfl) rfl)
      (HSq.out Bx) (fun k => rfl)
      (fun k A => k ≤ N ∧ SizI w B Bx n a (L k) A)
      (fun cd k A => False) ?hI ?hIx ?hF ?h0 ?hround ?hdone ?hstop
    case hI => rintro k A A' ⟨h0, h1⟩ hb; exact ⟨h0, h1.booked hb (by have := HBz.out; omega)⟩
    case hIx => rintro cd k A A' h hb; exact h
    case hF => rintro k A ⟨_, h⟩; exact h.x
    case h0 => exact ⟨Nat.zero_le _, by rw [HL0.out]; exact hI⟩
    case hround =>
      rintro l m k A hl2 hlt ⟨hk0, hi1⟩
      simp only [List.zip_cons_cons, List.zip_nil_right, List.foldl_cons, List.foldl_nil, List.setIfInBounds_toArray, List.set_cons_succ, List.set_cons_zero]
      have HI1 : Veil _ := ⟨hi1⟩
      have hp := HPL.out k hlt
      have hl := HEL.out k (by omega)
      have hn := HN.out
      have HLk := HLs.out k
      clear hI hi1
      revert hp hl HLk HI1
      generalize part k = pk
      generalize hLk : L k = lk
      intro HI1 hp hl HLk
      gi_wp2
      refine ⟨KeepsFrom.refl _ _, fun A2 hbk hsz => ?_⟩
      have HI2 : Veil _ := ⟨HI1.out.booked hbk (by have := HBz.out; omega)⟩
      clear hbk hsz HI1
      have q1 := cell_row6 HI2.out.s
      have f1 : A2.frozen? ⟨B, 0, none⟩ = false := frozen_whole HI2.out.s _
      gi_wp2
      have hT := (Turned.refl (· = B) A2).setCell (p := ⟨B, 0, none⟩) rfl (.int .i64 ((lk + pk : Nat) : Int))
      have e : Value.int .i64 ((lk : Int) + pk) = .int .i64 ((lk + pk : Nat) : Int) := by go_num
      have hz := HBz.out
      first | rw [e] | skip
      refine ⟨keepsFrom_turned6 hT (fun j hj => .inl (by omega)), by omega, ⟨?_, HI2.out.x.apart HH.out hT (fun k hk => by omega) hz.2.2, HI2.out.t.then hT (fun k hk e => by omega)⟩⟩
      rw [HLk]
      exact heap_setCell_at HI2.out.s 0 _
    case hdone =>
      rintro Dd A hDd ⟨_, h1⟩ hdd
      have HI : Veil _ := ⟨h1⟩
      have HD : Veil _ := ⟨hdd⟩
      have q1 := cell_row6 h1.s
      clear h1 hdd hI
      go_wp2
      try rw [Exit.noGoto_ret]
      refine leaves_mark (D := Dd) (B := w.heap.size) HD.out (by have := HBz.out; omega) ?_
      intro w' hb _
      refine leaves_none (results_int6 rfl rfl) ⟨rfl, ?_⟩
      exact (hb.turned HI.out.t (Nat.le_refl _)).toBelow (Nat.le_refl _) (fun _ _ h => h.elim)
    case hstop => rintro Dd cd k A hDd hlt h hdd; exact h.elim
end Go.Proofs.YtokbmimbbeedcaaGreatDoor

/- Texts appended to bytes; the walk of withTexts. -/
namespace Go.Proofs.YtokbmimbbeedcaaGreatDoor
open Go Go.RowKit Sm
attribute [local go_sem] Oper.semAt_some

/-! ### append of a text to bytes -/
theorem run_append_room_text {P : Program} (w : World) (t u ty e : TypeId) (i : TypeInfo) (ht : P.underlying t = some (.slice e)) (hu : P.underlying u = some .string) (hi : P.info? e = some i) (hs1 : i.size = 1)
    (g sLen sCap : Nat) (cur : Array Value) (hg : w.heap[g]? = some (.cells cur e (0, 0))) (s : List UInt8)
    (hroom : sLen + s.length ≤ sCap) (hfit : sLen + s.length ≤ cur.size) :
    (Builtin.append_ #[t, u] ty #[.slice (some ⟨g, 0, none⟩) sLen sCap, .string ⟨s.toArray⟩]).run P w =
      .ok (.slice (some ⟨g, 0, none⟩) (sLen + s.length) sCap) (w.setRow g (cur.toList.take sLen ++ u8s s ++ cur.toList.drop (sLen + s.length)).toArray) := by
  have hl : (u8s s).length = s.length := by simp [u8s]
  have hst := run_storeCells_at P g sLen e (u8s s) 0 cur w hg (by rw [hl]; simpa using hfit) (fun v hv => by simp only [u8s, List.mem_map] at hv; obtain ⟨c, _, rfl⟩ := hv; rfl)
  simp only [Nat.add_zero, hl] at hst
  have hn : (⟨s.toArray⟩ : ByteArray).size = s.length := by simp [ByteArray.size]
  simp [Builtin.append_, run_underlying ht, run_underlying hu, sizeOf, typeInfo, hi, Builtin.lenOf, Builtin.firstCells, hn, hroom, Addr.add_lit, hs1]
  have hk : List.take s.length (List.map (fun b : UInt8 => Value.int IntKind.u8 (b.toNat : Int)) s) = u8s s := by
    rw [List.take_of_length_le (by simp)]; rfl
  rw [hk, hst]
  simp
theorem run_append_grow_text {P : Program} (w : World) (t u ty e : TypeId) (i : TypeInfo) (z : Value) (ht : P.underlying t = some (.slice e)) (hu : P.underlying u = some .string) (hi : P.info? e = some i) (hz : i.zero = some z) (hs1 : i.size = 1)
    (b : Addr) (sLen sCap : Nat) (olds : List Value) (hlo : olds.length = sLen) (holds : ∀ j v, olds[j]? = some v → w.cell? (b.add j) = some v) (s : List UInt8)
    (hg : sCap < sLen + s.length) (h63 : ((sLen + s.length : Nat) : Int) ≤ 9223372036854775807) (hfit : Builtin.nextslicecap (sLen + s.length) sCap * i.bytes ≤ 281474976710656) :
    (Builtin.append_ #[t, u] ty #[.slice (some b) sLen sCap, .string ⟨s.toArray⟩]).run P w =
      .ok (.slice (some ⟨w.heap.size, 0, none⟩) (sLen + s.length) (grownCap w (sLen + s.length) sCap e))
        (w.drew.alloc (.cells (olds.toArray ++ (u8s s).toArray ++ Builtin.zeroCells z.cells (grownCap w (sLen + s.length) sCap e - (sLen + s.length))) e)) := by
  have hn : ¬ (sLen + s.length ≤ sCap) := by omega
  have h63' : ¬ (9223372036854775807 < ((sLen : Int) + (s.length : Int))) := by omega
  have h48' : ¬ (281474976710656 < Builtin.nextslicecap (sLen + s.length) sCap * i.bytes) := by omega
  have hz' : (⟨s.toArray⟩ : ByteArray).size = s.length := by simp [ByteArray.size]
  have hfo := run_firstCells_some (P := P) w.drew 1 sLen b sLen sCap olds (by simpa using hlo) (by simpa using holds)
  simp [Builtin.append_, run_underlying ht, run_underlying hu, sizeOf, typeInfo, zeroValue, hi, hz, hs1, Builtin.lenOf, hz', hn, h63', h48', Question.forced, hfo, newRow, grownCap]
  simp [Builtin.firstCells]
  congr 2
  apply Array.ext'
  simp [u8s, u8v, List.append_assoc]
theorem run_append_own_text {P : Program} (w : World) (base : Nat) (t u ty e : TypeId) (i : TypeInfo) (z : Value) (bytes : Nat) (ht : P.underlying t = some (.slice e)) (hu : P.underlying u = some .string) (hi : P.info? e = some i) (hz : i.zero = some z)
    (hs1 : i.size = 1) (hby : i.bytes = bytes) (hzs : z.cells.size = 1)
    (v : Value) (n : Nat) (xs : List Value) (hown : w.ownsRow base e 1 v n xs) (s : List UInt8)
    (h63 : n + s.length ≤ maxLen) (hbytes : (n + s.length) * bytes ≤ 140737488355328) (hbase : base ≤ w.heap.size) :
    ∃ v' w', (Builtin.append_ #[t, u] ty #[v, .string ⟨s.toArray⟩]).run P w = .ok v' w' ∧ w'.ownsRow base e 1 v' (n + s.length) (xs ++ u8s s) ∧ w.grownBy w' v.ownBlock ∧
      (v'.ownBlock = v.ownBlock ∨ v'.ownBlock = some w.heap.size) := by
  subst hby
  have hl : (u8s s).length = s.length := by simp [u8s]
  have hxn : xs.length = n := by have := hown.1; omega
  have hsmall : n + s.length ≤ 9223372036854775807 := by simp only [maxLen] at h63; omega
  have hlen : (xs ++ u8s s).length = (n + s.length) * 1 := by rw [List.length_append, hxn, hl, Nat.mul_one]
  have grown : ∀ (old : Nat), old < n + s.length → ∀ (row : Option Nat),
      (w.drew.alloc (.cells (xs.toArray ++ (u8s s).toArray ++ Builtin.zeroCells z.cells (grownCap w (n + s.length) old e - (n + s.length))) e)).ownsRow base e 1
        (.slice (some ⟨w.heap.size, 0, none⟩) (n + s.length) (grownCap w (n + s.length) old e)) (n + s.length) (xs ++ u8s s) ∧
      w.grownBy (w.drew.alloc (.cells (xs.toArray ++ (u8s s).toArray ++ Builtin.zeroCells z.cells (grownCap w (n + s.length) old e - (n + s.length))) e)) row := by
    intro old ho row
    have hge := grownCap_ge w (n + s.length) old e
    have hcm : grownCap w (n + s.length) old e ≤ maxLen := grownCap_le_maxLen w (n + s.length) old e h63
    refine ⟨⟨hlen, .inr ⟨w.heap.size, _, _, rfl, hbase, heap_alloc_new w.drew _, hge, hcm, ?_, ?_⟩⟩, ⟨rfl, rfl, rfl, by simp, fun k hk _ => by first | exact heap_alloc_old w.drew _ hk | exact heap_alloc_old w.drew _ _ hk⟩⟩
    · simp only [Array.size_append, List.size_toArray, size_zeroCells, hzs, hxn, hl]
      omega
    · simp only [Array.toList_append, List.append_assoc]
      rw [← List.append_assoc, ← hlen]
      exact List.take_left
  rcases hown.2 with ⟨rfl, rfl⟩ | ⟨g, cap, cur, rfl, hbg, hg, hnc, hcm, hcs, htake⟩
  · obtain rfl : xs = [] := List.eq_nil_of_length_eq_zero hxn
    by_cases hm : s.length = 0
    · obtain rfl : s = [] := List.eq_nil_of_length_eq_zero hm
      refine ⟨.slice none 0 0, w, ?_, World.ownsRow_nil w base e 1, World.grownBy.refl _ _, Or.inl rfl⟩
      have he : (⟨([] : List UInt8).toArray⟩ : ByteArray) = ByteArray.empty := rfl
      rw [he]
      simp [Builtin.append_, run_underlying ht, run_underlying hu, sizeOf, typeInfo, hi, Builtin.lenOf, Builtin.firstCells]
    · have hsz : (⟨s.toArray⟩ : ByteArray).size = s.length := by simp [ByteArray.size]
      have hr := run_append_nil_string (P := P) (w := w) t u ty e i z ht hu hi hz ⟨s.toArray⟩ (by omega) (by omega) (by rw [hsz]; have hb := hbytes; simp only [Nat.zero_add] at hb; omega)
      have hgr := grown 0 (by omega) (Value.ownBlock (.slice none 0 0))
      simp only [Nat.zero_add, List.nil_append, Array.empty_append] at hgr ⊢
      rw [hsz] at hr
      have hx : Array.map (fun b : UInt8 => Value.int IntKind.u8 (b.toNat : Int)) s.toArray = (u8s s).toArray := by
        apply Array.ext'
        simp [u8s, u8v]
      simp only [hx] at hr
      exact ⟨_, _, hr, hgr.1, hgr.2, Or.inr rfl⟩
  · by_cases hroom : n + s.length ≤ cap
    · have hr := run_append_room_text (P := P) w t u ty e i ht hu hi hs1 g n cap cur hg s hroom (by rw [hcs]; omega)
      refine ⟨_, _, hr, ⟨hlen, .inr ⟨g, cap, _, rfl, hbg, setRow_heap w g cur _ e _ hg, hroom, hcm, ?_, ?_⟩⟩, ⟨rfl, rfl, rfl, by simp, fun k _ hk => setRow_other w g k _ (fun e => hk (by simp [Value.ownBlock, e]))⟩, Or.inl rfl⟩
      · simp only [List.size_toArray, List.length_append, List.length_take, List.length_drop, Array.length_toList, hl]
        omega
      · rw [Nat.mul_one] at htake
        rw [htake, ← hlen]
        exact List.take_left
    · have holds : ∀ j u, xs[j]? = some u → w.cell? ((⟨g, 0, none⟩ : Addr).add j) = some u := hown.cells (g := g) rfl
      have hr := run_append_grow_text (P := P) w t u ty e i z ht hu hi hz hs1 ⟨g, 0, none⟩ n cap xs hxn holds s (by omega) (by omega) (growslice_fits (by omega) hbytes)
      have hgr := grown cap (by omega) (Value.ownBlock (.slice (some ⟨g, 0, none⟩) n cap))
      exact ⟨_, _, hr, hgr.1, hgr.2, Or.inr rfl⟩

theorem wpList_append_text {w : World} {ops : Array Oper} {rest : List Oper} {o : Oper} {a : Act} {Q : Exit → Act → World → Prop} (hgd : o.guard = none) (s x : Operand)
    (ho : o.op = .call { callee := .builtin .append, args := #[s, x], argTypes := #[244, 9] })
    (base : Nat) (v : Value) (L T : List UInt8) (hs : a.eval s = v) (hown : OwnB w base v L) (hx : a.eval x = .string ⟨T.toArray⟩) (hL : L.length + T.length ≤ 100000000000) (hbase : base ≤ w.heap.size)
    (h : ∀ v' w', OwnB w' base v' (L ++ T) → w.grownBy w' v.ownBlock → (∀ k, v'.ownBlock = some k → v.ownBlock = some k ∨ w.heap.size ≤ k) → wpList Tryz.prog ops Q rest (a.put o.dst v') w') : wpList Tryz.prog ops Q (o :: rest) a w := by
  obtain ⟨i0, hi0, hz0, hz1, hz2⟩ := info_parts info_u8
  obtain ⟨v', w', hr, h1, h2, h3⟩ := run_append_own_text (P := Tryz.prog) w base 244 9 o.type 5 i0 _ 1 Tryz.underlying244 Tryz.underlying9 hi0 hz0 hz1 hz2 rfl v L.length (u8s L) hown T (by unfold maxLen; omega) (by omega) hbase
  refine wpList_plain hgd fun K hK => ?_
  unfold Oper.wp execOp
  simp only [ho, resolve, invoke, builtin, Sem.run_bind, Sem.run_pure, Result.andThen_ok, List.map_toArray, List.map_cons, List.map_nil, hs, hx, hr]
  refine hK _ _ (h v' w' ?_ h2 fun k hk => ?_)
  · unfold OwnB
    simpa [u8s] using h1
  · rcases h3 with h3 | h3
    · exact .inl (by rw [← h3]; exact hk)
    · right; rw [h3] at hk; cases hk; exact Nat.le_refl _
end Go.Proofs.YtokbmimbbeedcaaGreatDoor

/- The walk of withTexts. -/
namespace Go.Proofs.YtokbmimbbeedcaaGreatDoor
open Go Go.RowKit Sm
attribute [local go_sem] Oper.semAt_some

theorem nbyte0 (n : Nat) : (n : Int) % 256 = ((byteAt n 0).toNat : Int) := by
  simp only [byteAt, Nat.toUInt8, UInt8.toNat_ofNat', Nat.pow_zero, Nat.div_one]
  have : (2 : Nat) ^ 8 = 256 := rfl
  rw [this]; omega
theorem putB_one (n : Nat) : putB n 1 = [byteAt n 0] := rfl
/-- Bytes that a call goes on with: its own, grown. -/
structure OnB (w : World) (base : Nat) (v0 : Value) (v : Value) (L : List UInt8) (A : World) : Prop where
  o : OwnB A base v L
  t : Turned (fun j => v0.ownBlock = some j) w A
  b : ∀ j, v.ownBlock = some j → v0.ownBlock = some j ∨ w.heap.size ≤ j
theorem OnB.grow {w A A1 A' : World} {base : Nat} {v0 v v' : Value} {L L' : List UInt8} (h : OnB w base v0 v L A) (hb : Below A.heap.size A A1) (hg : A1.grownBy A' v.ownBlock) (ho : OwnB A' base v' L') (hv : ∀ j, v'.ownBlock = some j → v.ownBlock = some j ∨ A.heap.size ≤ j) : OnB w base v0 v' L' A' := by
  have ht : Turned (fun j => v.ownBlock = some j) A A' := (Turned.new hb : Turned (fun j => v.ownBlock = some j) A A1).trans (Turned.grown hg (fun j hj _ => hj))
  refine ⟨ho, h.t.then ht (fun k hk e => ?_), fun j hj => ?_⟩
  · rcases h.b k e with h1 | h1
    · exact h1
    · omega
  · rcases hv j hj with h1 | h1
    · exact h.b j h1
    · exact .inr (Nat.le_trans h.t.size h1)

set_option maxRecDepth 20000 in
set_option maxHeartbeats 2000000 in
theorem with_of {w : World} {base : Nat} {v0 : Value} {L : List UInt8} (hown : OwnB w base v0 L) (hbase : base ≤ w.heap.size) {p : Option Addr} {T : List (List UInt8)} (h : Els elK w p T) (hp : ∀ a, p = some a → v0.ownBlock ≠ some a.block) (cap : Nat) (hl : L.length + tsz T ≤ 1000000) (hT : T.length ≤ 10) :
    Calls Tryz.prog 127 #[v0, .slice p T.length cap] w fun e w' => ∃ v, e = .returned v ∧ OnB w base v0 v (L ++ txB T) w' := by
  have HH : Veil _ := ⟨h⟩
  have HP : Veil _ := ⟨hp⟩
  have HO : Veil _ := ⟨hown⟩
  have HTL : Veil (∀ k, k ≤ T.length → (txB (T.take k)).length ≤ tsz T) := ⟨fun k hk => by
    have e : txB T = txB (T.take k) ++ txB (T.drop k) := by
      unfold txB
      rw [← List.flatMap_append, List.take_append_drop]
    rw [← txB_len T, e, List.length_append]; omega⟩
  clear h hp hown
  go_enter Tryz.func127, Tryz.ntmps127
  go_wp2
  go_loopw [0, 9] (fun b i wr => ∃ (k : Nat) (v : Value), k ≤ T.length ∧ i = .int .i64 k ∧ v = b ∧ Veil (OnB w base v0 v (L ++ txB (T.take k)) wr)) (fun _ i _ => T.length - (intOf i).toNat)
  case atStart => exact ⟨0, v0, Nat.zero_le _, rfl, rfl, ⟨by simpa [txB] using HO.out, Turned.refl _ _, fun j hj => .inl hj⟩⟩
  case round =>
    obtain ⟨k, v, hk, rfl, rfl, HI⟩ := hrel
    by_cases hlt : k < T.length
    · obtain ⟨b, o, rfl, hc⟩ := (HH.out.turned HI.out.t HP.out).text (by rintro rfl; simp at hlt)
      have c1 := hc k hlt
      have HTK : Veil _ := ⟨txB_take T k hlt⟩
      have hb1 : (txB (T.take (k + 1))).length ≤ tsz T := HTL.out (k + 1) (by omega)
      rw [HTK.out, List.length_append, List.length_append, putB_length] at hb1
      have HB1 : Veil (L.length + (txB (T.take k)).length + 1 + (T.getD k []).length ≤ 1000000) := ⟨by omega⟩
      clear hc hb1
      revert c1 HTK HB1
      generalize T.getD k [] = s
      generalize hM : txB (T.take k) = M at HI ⊢
      intro c1 HTK HB1
      clear hM
      have hsl : s.length ≤ 1000000 := by have := HB1.out; omega
      have hbyte := nbyte0 s.length
      obtain ⟨W4, hW4⟩ : ∃ W4, wr.alloc (.cells #[.int .u8 ((byteAt s.length 0).toNat : Int)] 5) = W4 := ⟨_, rfl⟩
      have HB4 : Veil (Below wr.heap.size wr W4) := ⟨by rw [← hW4]; exact below_al (Below.refl _ _) _⟩
      have HC4 : Veil (W4.cell? ⟨wr.heap.size, 0, none⟩ = some (.int .u8 ((byteAt s.length 0).toNat : Int))) := ⟨by rw [← hW4]; exact cell_alloc_one _ _ _⟩
      have HO4 : Veil (OwnB W4 base v (L ++ M)) := ⟨(Turned.new HB4.out : Turned (fun _ => False) _ _).ownsRow HI.out.o (fun _ _ h => h)⟩
      have HZ4 : Veil (base ≤ W4.heap.size) := ⟨Nat.le_trans hbase (Nat.le_trans HI.out.t.size HB4.out.size)⟩
      have HS4 : Veil (W4.heap.size = wr.heap.size + 1) := ⟨by rw [← hW4]; simp⟩
      generalize hcb : byteAt s.length 0 = cb at *
      have HCB : Veil _ := ⟨hcb⟩
      clear hcb
      go_wp2_with (first
        | (at_builtin; refine wpList_append_text rfl (.tmp 19) (.tmp 20) rfl base _ _ s rfl HO5.out rfl HL5.out HZ5.out ?_; intro v6 w6 hown6 hgrow6 hv6)
        | (at_builtin; refine wpList_append_u8 rfl (.tmp 13) (.tmp 17) rfl base v (L ++ M) cb rfl HO4.out ⟨wr.heap.size, 0, none⟩ rfl HC4.out (by have := HB1.out; simp only [List.length_append]; omega) HZ4.out ?_; intro g5 c5 w5 hown5 hgrow5 hv5 hlt5; rw [List.length_append] at hown5; have HO5 : Veil _ := ⟨hown5⟩; have HG5 : Veil _ := ⟨hgrow5⟩; have HV5 : Veil _ := ⟨hv5⟩; have HZ5 : Veil (base ≤ w5.heap.size) := ⟨Nat.le_trans HZ4.out hgrow5.size⟩; have HL5 : Veil ((L ++ M ++ [cb]).length + s.length ≤ 100000000000) := (by refine ⟨?_⟩; have := HB1.out; simp only [List.length_append, List.length_cons, List.length_nil]; omega); clear hown5 hgrow5 hv5 hlt5))
      refine ⟨⟨k + 1, v6, by omega, by go_num, rfl, ?_⟩, ?_⟩
      · refine ⟨?_⟩
        have h5 := HI.out.grow HB4.out HG5.out HO5.out (fun j hj => by
          have e : g5 = j := Option.some.inj hj
          subst e
          rcases HV5.out with h | h
          · exact .inl h
          · right; have := HS4.out; omega)
        have h6 := h5.grow (Below.refl _ _) hgrow6 hown6 hv6
        rw [HTK.out, putB_one, HCB.out]
        simpa [List.append_assoc] using h6
      · simp only [intOf]; omega
    · obtain rfl : k = T.length := by omega
      have HI2 : Veil (OnB w base v0 v (L ++ txB T) wr) := ⟨by have := HI.out; rwa [List.take_length] at this⟩
      clear HI
      go_wp2
      go_ret
      exact ⟨v, rfl, HI2.out⟩
end Go.Proofs.YtokbmimbbeedcaaGreatDoor

/- The walk of Encode. -/
namespace Go.Proofs.YtokbmimbbeedcaaGreatDoor
open Go Go.RowKit Sm
attribute [local go_sem] Oper.semAt_some

theorem make6 (m : Nat) (hm : m ≤ 1000) (W : World) : (Instr.makeSlice 244 (.int .i64 0) (.int .i64 (m : Int))).run Tryz.prog W = .ok (.slice (some ⟨W.heap.size, 0, none⟩) 0 m) (W.alloc (.cells (madeCells #[Value.int .u8 0] m) 5)) := by
  obtain ⟨i0, hi, hz0, hz1, hz2⟩ := info_parts info_u8
  have h := run_make (P := Tryz.prog) W 244 5 i0 (.int .u8 0) Tryz.underlying244 hi hz0 .i64 .i64 0 (m : Int) (by omega) (by omega) (by rw [hz2]; omega) (by omega)
  rw [hz1, Nat.mul_one, show ((m : Int).toNat) = m by omega] at h
  exact h
theorem made_own (W : World) (m : Nat) (hm : m ≤ 1000) : OwnB (W.alloc (.cells (madeCells #[Value.int .u8 0] m) 5)) W.heap.size (.slice (some ⟨W.heap.size, 0, none⟩) 0 m) [] :=
  ⟨rfl, .inr ⟨W.heap.size, m, _, rfl, Nat.le_refl _, heap_alloc_new _ _, Nat.zero_le _, by unfold maxLen; omega, by simp [madeCells], rfl⟩⟩
theorem putB_four (d : Nat) : putB d 4 = [byteAt d 3, byteAt d 2, byteAt d 1, byteAt d 0] := rfl
theorem byteN (d i q : Nat) (h : 256 ^ i = q) : (d : Int) / (q : Int) % 256 = ((byteAt d i).toNat : Int) := by
  simp only [byteAt, Nat.toUInt8, UInt8.toNat_ofNat', h]
  have : (2 : Nat) ^ 8 = 256 := rfl
  rw [this]; omega

theorem wpList_append_bytes {w : World} {ops : Array Oper} {rest : List Oper} {o : Oper} {a : Act} {Q : Exit → Act → World → Prop} (hgd : o.guard = none) (s x : Operand)
    (ho : o.op = .call { callee := .builtin .append, args := #[s, x], argTypes := #[244, 244] })
    (base : Nat) (v : Value) (L M : List UInt8) (hs : a.eval s = v) (hown : OwnB w base v L) (g : Nat) (hx : a.eval x = .slice (some ⟨g, 0, none⟩) M.length M.length) (hc : w.heap[g]? = some (.cells (u8s M).toArray 5 (0, 0))) (hM : 0 < M.length) (hL : L.length + M.length ≤ 1000000) (hbase : base ≤ w.heap.size)
    (h : ∀ v' w', OwnB w' base v' (L ++ M) → w.grownBy w' v.ownBlock → (∀ k, v'.ownBlock = some k → v.ownBlock = some k ∨ w.heap.size ≤ k) → wpList Tryz.prog ops Q rest (a.put o.dst v') w') : wpList Tryz.prog ops Q (o :: rest) a w := by
  obtain ⟨i0, hi0, hz0, hz1, hz2⟩ := info_parts info_u8
  refine wpList_append_lies _ hgd s x 244 ho base 5 i0 _ 1 1 Tryz.underlying244 hi0 hz0 hz1 hz2 rfl (Nat.le_refl _) v L.length (u8s L) hs hown ⟨g, 0, none⟩ M.length M.length (u8s M) hx (by simp [u8s]) (news_whole hc) (fun u hu => by simp only [u8s, List.mem_map] at hu; obtain ⟨c, _, rfl⟩ := hu; rfl) hM (by unfold maxLen; omega) (by omega) hbase _ rfl ?_
  intro g' cap w' h1 h2 h3 h4
  refine h _ w' ?_ h2 (own_here h3)
  unfold OwnB
  simpa [u8s] using h1

/-- Between two rounds: the node's box, the bytes made so far. -/
structure EncI (w : World) (n : Nd) (a : NdP) (H : Nat) (v : Value) (L : List UInt8) (A : World) : Prop where
  b : NdBox w n a A
  o : OwnB A H v L
  z : w.heap.size < H ∧ H ≤ A.heap.size
section
variable {w A A1 A' : World} {n : Nd} {a : NdP} {H : Nat} {v v' : Value} {L L' : List UInt8}
theorem EncI.below (h : EncI w n a H v L A) (hb : Below A.heap.size A A') : EncI w n a H v L A' :=
  ⟨h.b.below hb, (Turned.new hb : Turned (fun _ => False) _ _).ownsRow h.o (fun _ _ h => h), h.z.1, Nat.le_trans h.z.2 hb.size⟩
theorem EncI.go (h : EncI w n a H v L A) (h0 : NdAt w n a) (hg : OnB A H v v' L' A') : EncI w n a H v' L' A' :=
  have hF : ∀ k, v.ownBlock = some k → w.heap.size < k := fun k hk => Nat.lt_of_lt_of_le h.z.1 (own_lt h.o hk).1
  ⟨⟨hg.t.heap h.b.b (fun e => by have := hF _ e; omega), h.b.x.trans (hg.t.toBelow h.b.x.size (fun k _ e => by have := hF _ e; omega)), h.b.s.turned hg.t (fun k e => by have := hF _ e; omega) h0⟩,
    hg.o, h.z.1, Nat.le_trans h.z.2 hg.t.size⟩
theorem EncI.grow (h : EncI w n a H v L A) (h0 : NdAt w n a) (hb : Below A.heap.size A A1) (hg : A1.grownBy A' v.ownBlock) (ho : OwnB A' H v' L') (hv : ∀ j, v'.ownBlock = some j → v.ownBlock = some j ∨ A.heap.size ≤ j) : EncI w n a H v' L' A' :=
  h.go h0 ((⟨h.o, Turned.refl _ _, fun _ h => .inl h⟩ : OnB A H v v L A).grow hb hg ho hv)
end

set_option maxRecDepth 20000 in
set_option maxHeartbeats 4000000 in
theorem encode_of {w : World} {n : Nd} {a : NdP} (h : NdAt w n a) (hf : SlOk a.pk n.ks.length a.ck) (hok : Veil n.Ok) :
    Calls Tryz.prog 90 #[n.v a] w fun e w' => e = .returned n.encR ∧ Below w.heap.size w w' := by
  have HSz : Veil (∀ w, NdAt w n a → Calls Tryz.prog 78 #[n.v a] w fun e w' => e = .returned (.int .i64 n.size) ∧ Below w.heap.size w w') := ⟨fun w h => size_of h hf hok⟩
  have HKd : Veil (∀ w, NdAt w n a → Calls Tryz.prog 61 #[n.v a] w fun e w' => e = .returned (.int .i64 ((if n.right then n.kind else 0 : Nat) : Int)) ∧ Below w.heap.size w w') := ⟨fun w h => kindOf_of h hok⟩
  have HB : Veil _ := ⟨NdBox.new h⟩
  have HH : Veil _ := ⟨h⟩
  obtain ⟨W1, hW1⟩ : ∃ W1, w.alloc (.cells #[.slice a.pp n.ps.length a.cp, .slice a.pk n.ks.length a.ck, .slice a.pd n.ds.length a.cd] 92) = W1 := ⟨_, rfl⟩
  rw [hW1] at HB
  obtain ⟨a0, a1, a2⟩ := HB.out.cells
  clear h
  unfold Nd.encR
  cases hft : n.fits
  · have hsz : n.size = 0 ∨ 237 < n.size := by
      unfold Nd.fits at hft
      unfold Nd.size
      cases hr : n.right
      · left; simp
      · rw [hr] at hft
        simp at hft
        right; simpa using hft
    have hsl : n.size ≤ 9000000000000 := by
      unfold Nd.size
      split
      · exact Nd.enc_le hok.out
      · omega
    clear hft hok hf HKd
    simp only [Bool.false_eq_true, if_false]
    unfold Nd.v at *
    revert hsz hsl HSz
    generalize n.size = sz
    intro HSz hsz hsl
    rcases hsz with rfl | hsz
    · go_enter Tryz.func90, Tryz.ntmps90
      go_wp2_with (go_at_call 78; refine (HSz.out _ HB.out.s).mono ?_; rintro e w2 ⟨rfl, hb⟩; replace HB : Veil _ := ⟨HB.out.below hb⟩; clear hb a0 a1 a2)
      refine bodyPost_ret (results_three rfl rfl rfl rfl) rfl ?_
      exact ⟨rfl, HB.out.x⟩
    · have hg : ((sz : Int) == 0) = false := by rw [beq_eq_false_iff_ne]; omega
      go_enter Tryz.func90, Tryz.ntmps90
      go_wp2_with (go_at_call 78; refine (HSz.out _ HB.out.s).mono ?_; rintro e w2 ⟨rfl, hb⟩; replace HB : Veil _ := ⟨HB.out.below hb⟩; clear hb a0 a1 a2)
      refine bodyPost_ret (results_three rfl rfl rfl rfl) rfl ?_
      exact ⟨rfl, HB.out.x⟩
  · have hr : n.right = true := by unfold Nd.fits at hft; simp at hft; exact hft.1
    have hel : n.enc.length ≤ 237 := by unfold Nd.fits at hft; simp at hft; exact hft.2
    have hep := n.enc_pos
    have hsz : n.size = n.enc.length := by rw [Nd.size, if_pos hr]
    rw [hsz] at HSz
    rw [hr] at HKd
    have HEQ : Veil (n.enc = encP n (n.ps.length + n.ds.length)) := ⟨enc_right hr⟩
    have HLE : Veil (∀ k, k ≤ n.ps.length + n.ds.length → (encP n k).length ≤ n.enc.length) := ⟨fun k hk => by
      rw [HEQ.out, encP, encP, List.length_append, List.length_append]
      have : (List.range (n.ps.length + n.ds.length)).flatMap n.partB = (List.range k).flatMap n.partB ++ ((List.range (n.ps.length + n.ds.length)).drop k).flatMap n.partB := by
        rw [← List.flatMap_append]
        congr 1
        conv => lhs; rw [← List.take_append_drop k (List.range (n.ps.length + n.ds.length))]
        rw [List.take_range, Nat.min_eq_left hk]
      rw [this, List.length_append]; omega⟩
    have HXD : Veil _ := ⟨Nd.right_xd hr⟩
    have HRK : Veil _ := ⟨Nd.right_kd hr⟩
    have HAh : Veil (∀ k, k < n.ds.length → ∀ W, NdAt W n a → Calls Tryz.prog 128 #[n.v a, .int .i64 k] W fun e w' => ∃ p c, e = .returned (.slice p (n.ahead k).length c) ∧ Els elK w' p (n.ahead k) ∧ (∀ x, p = some x → n.ks ≠ [] ∧ ∃ y, a.pk = some y ∧ y.block = x.block) ∧ Below W.heap.size W w') := ⟨fun k hk W h => ahead_of h hf hok.out.k k (by have := Nd.right_kd hr; omega) (by have := hok.out.d; omega)⟩
    have hP : n.ps.length ≤ 255 ∧ n.ds.length ≤ 255 := by
      rcases Bool.or_eq_true_iff.1 hr with h | h
      · have := (n.leaf_iff.1 h).1; omega
      · have := (n.branch_iff.1 h).1; omega
    have hdt := hok.out.dt
    clear hft hf hsz
    simp only [if_true] at HKd ⊢
    unfold Nd.v at *
    obtain ⟨sz, hsz⟩ : ∃ sz, n.enc.length = sz := ⟨_, rfl⟩
    rw [hsz] at HSz HLE hel hep
    have hg : ((sz : Int) == 0) = false := by rw [beq_eq_false_iff_ne]; omega
    have hg2 : decide ((237 : Int) < sz) = false := by rw [decide_eq_false_iff_not]; omega
    have hmk : ∀ W : World, (Instr.makeSlice 244 (.int .i64 0) (.int .i64 (sz : Int))).run Tryz.prog W = .ok (.slice (some ⟨W.heap.size, 0, none⟩) 0 sz) (W.alloc (.cells (madeCells #[Value.int .u8 0] sz) 5)) := make6 sz (by omega)
    clear hsz
    have HSL : Veil (sz ≤ 237) := ⟨hel⟩
    have hnn : (((n.ps.length : Int) + n.ds.length) % 256) = ((byteAt (n.ps.length + n.ds.length) 0).toNat : Int) := by rw [← nbyte0]; omega
    obtain ⟨cb, hcb⟩ : ∃ cb, byteAt (n.ps.length + n.ds.length) 0 = cb := ⟨_, rfl⟩
    rw [hcb] at hnn
    have HCB : Veil _ := ⟨hcb⟩
    clear hcb
    go_enter Tryz.func90, Tryz.ntmps90
    go_wp2_with (first
      | (at_builtin; refine wpList_append_u8 rfl (.tmp 21) (.tmp 30) rfl w2.heap.size _ [] cb rfl HO4.out ⟨W3.heap.size, 0, none⟩ rfl HC4.out (by simp) HZ4.out ?_; intro g5 c5 w5 hown5 hgrow5 hv5 hlt5; have HI5 : Veil (EncI w n a w2.heap.size (.slice (some ⟨g5, 0, none⟩) 1 c5) (encP n 0) w5) := (by refine ⟨?_⟩; have hi := HI3.out.grow HH.out HB4.out hgrow5 hown5 (fun j hj => (by have e : g5 = j := Option.some.inj hj; subst e; rcases hv5 with h | h; exact Or.inl h; exact Or.inr (by have := HS4.out; omega))); rw [encP_zero, putB_one, HCB.out]; exact hi); clear hown5 hgrow5 hv5 hlt5 a0 a1 a2; obtain ⟨a0, a1, a2⟩ := HI5.out.b.cells)
      | (go_at_call 78; refine (HSz.out _ HB.out.s).mono ?_; rintro e w2 ⟨rfl, hb⟩; replace HB : Veil _ := ⟨HB.out.below hb⟩; clear hb a0 a1 a2; obtain ⟨W3, hW3⟩ : ∃ W3, w2.alloc (.cells (madeCells #[Value.int .u8 0] sz) 5) = W3 := ⟨_, rfl⟩; obtain ⟨W4, hW4⟩ : ∃ W4, W3.alloc (.cells #[.int .u8 (cb.toNat : Int)] 5) = W4 := ⟨_, rfl⟩; have HB3 : Veil (Below w2.heap.size w2 W3) := ⟨(by rw [← hW3]; exact below_al (Below.refl _ _) _)⟩; have HB4 : Veil (Below W3.heap.size W3 W4) := ⟨(by rw [← hW4]; exact below_al (Below.refl _ _) _)⟩; have HO3 : Veil (OwnB W3 w2.heap.size (.slice (some ⟨w2.heap.size, 0, none⟩) 0 sz) []) := ⟨(by rw [← hW3]; exact made_own w2 sz (by have := HSL.out; omega))⟩; have HO4 : Veil (OwnB W4 w2.heap.size (.slice (some ⟨w2.heap.size, 0, none⟩) 0 sz) []) := ⟨(Turned.new HB4.out : Turned (fun _ => False) _ _).ownsRow HO3.out (fun _ _ h => h)⟩; have HC4 : Veil (W4.cell? ⟨W3.heap.size, 0, none⟩ = some (.int .u8 (cb.toNat : Int))) := ⟨(by rw [← hW4]; exact cell_alloc_one _ _ _)⟩; have HS4 : Veil (W4.heap.size = W3.heap.size + 1) := ⟨(by rw [← hW4]; simp)⟩; have HZ3 : Veil (w2.heap.size ≤ W3.heap.size) := ⟨HB3.out.size⟩; have HZ4 : Veil (w2.heap.size ≤ W4.heap.size) := ⟨Nat.le_trans HB3.out.size HB4.out.size⟩; have HI3 : Veil (EncI w n a w2.heap.size (.slice (some ⟨w2.heap.size, 0, none⟩) 0 sz) [] W3) := ⟨⟨HB.out.below HB3.out, HO3.out, lt_of_heap HB.out.b, HZ3.out⟩⟩; obtain ⟨a0, a1, a2⟩ := (HB.out.below HB3.out).cells))
    clear a0 a1 a2 hW3 hW4 HB3 HB4 HO3 HO4 HC4 HS4 HZ3 HZ4 HI3 HB hnn HCB hmk hg hg2 HSz hW1
    obtain ⟨G, hG⟩ : ∃ G, w2.heap.size = G := ⟨_, rfl⟩
    rw [hG] at HI5
    clear hG
    go_loopw [6, 35] (fun b i wr => ∃ (k : Nat) (v : Value), k ≤ n.ps.length ∧ i = .int .i64 k ∧ v = b ∧ Veil (EncI w n a G v (encP n k) wr)) (fun _ i _ => n.ps.length - (intOf i).toNat)
    case atStart => exact ⟨0, _, Nat.zero_le _, rfl, rfl, HI5⟩
    case round =>
      obtain ⟨k, v, hk, rfl, rfl, HI⟩ := hrel
      by_cases hlt : k < n.ps.length
      · obtain ⟨b, o, hpe, hc⟩ := HI.out.b.s.pair (by rintro he; simp [he] at hlt)
        rw [hpe]
        clear hpe
        obtain ⟨c1, c2⟩ := hc k hlt
        have HSC : Veil _ := ⟨encP_succ n k⟩
        have hle := HLE.out (k + 1) (by omega)
        rw [encP_succ, List.length_append] at hle
        have hpb : n.partB k = txB [(n.ps.getD k Pr.zero).k, (n.ps.getD k Pr.zero).v] := by rw [Nd.partB, if_pos hlt]
        rw [hpb] at HSC hle
        rw [txB_len] at hle
        clear hc hpb
        revert c1 c2 HSC hle
        generalize n.ps.getD k Pr.zero = s
        obtain ⟨sk, sv⟩ := s
        dsimp only
        intro c1 c2 HSC hle
        obtain ⟨W6, hW6⟩ : ∃ W6, wr.alloc (.cells #[.string ⟨sk.toArray⟩, .string ⟨sv.toArray⟩] 37) = W6 := ⟨_, rfl⟩
        obtain ⟨W7, hW7⟩ : ∃ W7, W6.alloc (.cells #[.string ⟨sk.toArray⟩, .string ⟨sv.toArray⟩] 9) = W7 := ⟨_, rfl⟩
        have HB6 : Veil (Below wr.heap.size wr W6) := ⟨by rw [← hW6]; exact below_al (Below.refl _ _) _⟩
        have HB7 : Veil (Below W6.heap.size W6 W7) := ⟨by rw [← hW7]; exact below_al (Below.refl _ _) _⟩
        have HI7 : Veil _ := ⟨HI.out.below (bn_then HB6.out HB7.out)⟩
        have HWT : Veil (Calls Tryz.prog 127 #[v, .slice (some ⟨W6.heap.size, 0, none⟩) (2 : Nat) (2 : Nat)] W7 fun e w' => ∃ v', e = .returned v' ∧ OnB W7 G v v' (encP n k ++ txB [sk, sv]) w') := ⟨by
          refine with_of HI7.out.o HI7.out.z.2 (p := some ⟨W6.heap.size, 0, none⟩) (T := [sk, sv]) (els_of_block (cur := #[.string ⟨sk.toArray⟩, .string ⟨sv.toArray⟩]) (t := 9) (fr := (0, 0)) (by rw [← hW7]; exact heap_alloc_new _ _) (by rfl)) (fun x hx e => ?_) 2 (by have := HSL.out; omega) (by simp)
          cases hx
          have h1 := (own_lt HI.out.o e).2
          have h2 := HB6.out.size
          dsimp only at h1
          omega⟩
        have h6 : W6.heap[wr.heap.size]? = some (.cells [.string ⟨sk.toArray⟩, .string ⟨sv.toArray⟩].toArray 37 (0, 0)) := by rw [← hW6]; exact heap_alloc_new _ _
        have d1 : W6.cell? ⟨wr.heap.size, 0, none⟩ = some (.string ⟨sk.toArray⟩) := cell_whole h6 0
        have d2 : W6.cell? ⟨wr.heap.size, 1, none⟩ = some (.string ⟨sv.toArray⟩) := cell_whole h6 1
        clear h6 hle
        go_wp2_with (go_at_call 127; refine HWT.out.mono ?_; rintro e w8 ⟨v8, rfl, hon⟩; have HON : Veil _ := ⟨hon⟩; clear hon)
        refine ⟨⟨k + 1, v8, by omega, by go_num, rfl, ⟨by rw [HSC.out]; exact HI7.out.go HH.out HON.out⟩⟩, ?_⟩
        simp only [intOf]; omega
      · obtain rfl : k = n.ps.length := by omega
        obtain ⟨a0, a1, a2⟩ := HI.out.b.cells
        have HI6 : Veil (EncI w n a G v (encP n (n.ps.length + 0)) wr) := ⟨HI.out⟩
        clear HI5 HI hk hlt
        go_wp2
        clear a0 a1 a2
        generalize hW9 : wr = W9 at *
        clear hW9
        go_loopw [6, 50] (fun b i wr => ∃ (k : Nat) (v : Value), k ≤ n.ds.length ∧ i = .int .i64 k ∧ v = b ∧ Veil (EncI w n a G v (encP n (n.ps.length + k)) wr)) (fun _ i _ => n.ds.length - (intOf i).toNat)
        case atStart => exact ⟨0, _, Nat.zero_le _, rfl, rfl, HI6⟩
        case round =>
          obtain ⟨k, v, hk, rfl, rfl, HI⟩ := hrel
          by_cases hlt : k < n.ds.length
          · have hps : n.ps.length + k = k := by have := HXD.out; omega
            have HPS : Veil (n.ps.length + (k + 1) = k + 1) := ⟨by omega⟩
            rw [hps] at HI
            obtain ⟨b, o, hpe, hc⟩ := HI.out.b.s.kid (by rintro he; simp [he] at hlt)
            obtain ⟨a0, a1, a2⟩ := HI.out.b.cells
            rw [hpe] at a2
            have c1 := hc k hlt
            have HSC : Veil _ := ⟨encP_succ n k⟩
            have hle := HLE.out (k + 1) (by omega)
            rw [encP_succ, List.length_append] at hle
            have hpb : n.partB k = txB (n.ahead k) ++ putB (n.ds.getD k 0) 4 := by rw [Nd.partB, if_neg (by omega)]
            rw [hpb] at HSC hle
            rw [List.length_append, txB_len, putB_length] at hle
            have hdk := hdt _ (getD_mem hlt 0)
            clear hc hpb hps
            revert c1 HSC hle hdk
            generalize n.ds.getD k 0 = d
            intro c1 HSC hle hdk
            have HA : Veil (∀ W, NdAt W n a → Calls Tryz.prog 128 #[.agg #[.slice a.pp n.ps.length a.cp, .slice a.pk n.ks.length a.ck, .slice a.pd n.ds.length a.cd], .int .i64 k] W fun e w' => ∃ p c, e = .returned (.slice p (n.ahead k).length c) ∧ Els elK w' p (n.ahead k) ∧ (∀ x, p = some x → n.ks ≠ [] ∧ ∃ y, a.pk = some y ∧ y.block = x.block) ∧ Below W.heap.size W w') := ⟨HAh.out k hlt⟩
            rw [hpe]
            rw [hpe] at HA
            clear hpe
            have HAL : Veil ((n.ahead k).length ≤ 1) := ⟨n.ahead_len k⟩
            have HLL : Veil ((encP n k).length + (tsz (n.ahead k) + 4) ≤ 237) := ⟨by have := HSL.out; omega⟩
            clear hle
            have e3 : (d : Int) / 16777216 = ((byteAt d 3).toNat : Int) := by have := byteN d 3 16777216 (by decide); omega
            have e2 : (d : Int) / 65536 % 256 = ((byteAt d 2).toNat : Int) := byteN d 2 65536 (by decide)
            have e1 : (d : Int) / 256 % 256 = ((byteAt d 1).toNat : Int) := byteN d 1 256 (by decide)
            have e0 : (d : Int) % 256 = ((byteAt d 0).toNat : Int) := nbyte0 d
            have HB4 : Veil (putB d 4 = [byteAt d 3, byteAt d 2, byteAt d 1, byteAt d 0]) := ⟨putB_four d⟩
            revert e3 e2 e1 e0 HB4
            generalize byteAt d 3 = b3
            generalize byteAt d 2 = b2
            generalize byteAt d 1 = b1
            generalize byteAt d 0 = b0
            intro e3 e2 e1 e0 HB4
            revert HSC HA HAL HLL
            generalize n.ahead k = T
            generalize hLk : encP n k = Lk at HI ⊢
            intro HSC HA HAL HLL
            clear hLk
            go_wp2_with (first
              | (at_builtin; refine wpList_append_bytes rfl (.tmp 60) (.tmp 72) rfl G v8 (Lk ++ txB T) [b3, b2, b1, b0] rfl HO9.out w8.heap.size rfl HC9.out (by simp) HL9.out HZ9.out ?_; intro v10 w10 hown10 hgrow10 hv10)
              | (go_at_call 127; refine HWT.out.mono ?_; rintro e w8 ⟨v8, rfl, hon⟩; have HI8 : Veil _ := ⟨HI7.out.go HH.out hon⟩; clear hon; obtain ⟨W9, hW9⟩ : ∃ W9, w8.alloc (.cells #[.int .u8 (b3.toNat : Int), .int .u8 (b2.toNat : Int), .int .u8 (b1.toNat : Int), .int .u8 (b0.toNat : Int)] 5) = W9 := ⟨_, rfl⟩; have HX9 : Veil (Below w8.heap.size w8 W9) := ⟨(by rw [← hW9]; exact below_al (Below.refl _ _) _)⟩; have HC9 : Veil (W9.heap[w8.heap.size]? = some (.cells (u8s [b3, b2, b1, b0]).toArray 5 (0, 0))) := ⟨(by rw [← hW9]; exact heap_alloc_new _ _)⟩; have HO9 : Veil (OwnB W9 G v8 (Lk ++ txB T)) := ⟨(HI8.out.below HX9.out).o⟩; have HZ9 : Veil (G ≤ W9.heap.size) := ⟨(HI8.out.below HX9.out).z.2⟩; have HL9 : Veil ((Lk ++ txB T).length + [b3, b2, b1, b0].length ≤ 1000000) := (by refine ⟨?_⟩; have := HLL.out; simp only [List.length_append, txB_len, List.length_cons, List.length_nil]; omega))
              | (go_at_call 128; refine (HA.out _ HI.out.b.s).mono ?_; rintro e w7 ⟨pq, cq, rfl, hel, hpq, hb7⟩; have HI7 : Veil _ := ⟨HI.out.below hb7⟩; have HWT : Veil (Calls Tryz.prog 127 #[v, .slice pq T.length cq] w7 fun e w' => ∃ v', e = .returned v' ∧ OnB w7 G v v' (Lk ++ txB T) w') := ⟨with_of HI7.out.o HI7.out.z.2 hel (fun x hx e => (by obtain ⟨h1, y, hy, hyx⟩ := hpq x hx; have h2 := (own_lt HI.out.o e).1; have h3 := HH.out.pkLt h1 y hy; have h4 := HI.out.z.1; omega)) cq (by have := HLL.out; omega) (by have := HAL.out; omega)⟩; clear hel hpq hb7 a0 a1 a2))
            refine ⟨⟨k + 1, v10, by omega, by go_num, rfl, ⟨?_⟩⟩, ?_⟩
            · have := HI8.out.grow HH.out HX9.out hgrow10 hown10 (fun j hj => (hv10 j hj).imp_right (fun h => Nat.le_trans HX9.out.size h))
              rw [HPS.out, HSC.out, HB4.out, ← List.append_assoc]
              exact this
            · simp only [intOf]; omega
          · obtain rfl : k = n.ds.length := by omega
            have HI9 : Veil (EncI w n a G v n.enc wr) := ⟨by rw [HEQ.out]; exact HI.out⟩
            clear HI6 HI HEQ hk hlt
            go_wp2
            refine region_new [.is (.agg #[.slice a.pp n.ps.length a.cp, .slice a.pk n.ks.length a.ck, .slice a.pd n.ds.length a.cd]), .is (.int .i64 n.kind), .is v, .is (.string ⟨n.enc.toArray⟩), .is (.int .i64 n.kind), .is (.string ⟨n.enc.toArray⟩)]
              [[], [(0, 75)], [], [(2, 77)], [(1, 76)], [(3, 78)]]
              [[], [0], [], [2], [0, 1], [0, 1, 2, 3, 4]]
              [(0, 75), (1, 76), (2, 77), (3, 78), (4, 2), (5, 3)] rfl (by kernel_rfl) ⟨?_, ?_, ?_, ?_, ?_, ?_, trivial⟩ ?_
            · intro vals W hB _
              obtain ⟨a0, a1, a2⟩ := (HI9.out.b.below hB).cells
              dsimp only [putsL, slotOf]
              go_wp2
              exact ⟨rfl, Below.refl _ _, rfl⟩
            · intro vals W hB ⟨h0, _⟩
              have h0 : vals 0 = _ := h0
              dsimp only [putsL, slotOf]
              rw [h0]
              go_wp2_with ((go_at_call 61; refine (HKd.out _ (HI9.out.b.below hB).s).mono ?_; rintro e w4 ⟨rfl, hb4⟩))
              exact ⟨rfl, hb4, rfl⟩
            · intro vals W hB _
              dsimp only [putsL, slotOf]
              go_wp2
              exact ⟨rfl, Below.refl _ _, rfl⟩
            · intro vals W hB ⟨h2, _⟩
              have h2 : vals 2 = _ := h2
              have hcv := conv_own (HI9.out.below hB).o
              dsimp only [putsL, slotOf]
              rw [h2]
              go_wp2
              exact ⟨rfl, Below.refl _ _, rfl⟩
            · intro vals W hB ⟨h0, h1, _⟩
              have h1 : vals 1 = _ := h1
              dsimp only [putsL, slotOf]
              rw [h1]
              go_wp2
              exact ⟨rfl, Below.refl _ _, rfl⟩
            · intro vals W hB ⟨h0, h1, h2, h3, h4, _⟩
              have h3 : vals 3 = _ := h3
              dsimp only [putsL, slotOf]
              rw [h3]
              go_wp2
              exact ⟨rfl, Below.refl _ _, rfl⟩
            rintro vals W hB ⟨q0, q1, q2, q3, q4, q5, -⟩
            have h0 : vals 0 = _ := q0
            have h1 : vals 1 = _ := q1
            have h2 : vals 2 = _ := q2
            have h3 : vals 3 = _ := q3
            have h4 : vals 4 = _ := q4
            have h5 : vals 5 = _ := q5
            dsimp only [putsL]
            rw [h0, h1, h2, h3, h4, h5]
            clear h0 q0 h1 q1 h2 q2 h3 q3 h4 q4 h5 q5
            simp only [List.length_cons, List.length_nil, Nat.reduceAdd, List.drop_succ_cons, List.drop_zero, List.setIfInBounds_toArray, List.set_cons_succ, List.set_cons_zero]
            go_wp2
            refine bodyPost_ret (results_three rfl rfl rfl rfl) rfl ?_
            exact ⟨rfl, bn_then HI9.out.b.x hB⟩
end Go.Proofs.YtokbmimbbeedcaaGreatDoor

/- The walk of cutPlace. -/
namespace Go.Proofs.YtokbmimbbeedcaaGreatDoor
open Go Go.RowKit Sm
attribute [local go_sem] Oper.semAt_some

theorem Nd.right_lk {n : Nd} (h : n.right = true) : (n.ds.length = 0 ∧ n.ks.length = 0) ∨ (n.ps.length = 0 ∧ n.ks.length + 1 = n.ds.length) := by
  rcases Bool.or_eq_true_iff.1 h with h | h
  · exact .inl ⟨(n.leaf_iff.1 h).1.2.1, (n.leaf_iff.1 h).1.1⟩
  · exact .inr ⟨(n.branch_iff.1 h).1.1, (n.branch_iff.1 h).1.2.2.2⟩
/-- The best cut among the first ones: its place (0: none) and its greater half. -/
def cutSt (ls : Nat) (g : Nat → Nat) : Nat → Nat × Nat
  | 0 => (0, 0)
  | k + 1 => if ls ≤ k ∧ ((cutSt ls g k).1 = 0 ∨ g k < (cutSt ls g k).2) then (k, g k) else cutSt ls g k
def Nd.least (n : Nd) : Nat := if n.ds.length = 0 then 1 else 2
def Nd.lft (n : Nd) (k : Nat) : Nat := (encP n k).length
def Nd.rgt (n : Nd) (k : Nat) : Nat := 1 + n.size - n.lft k - tsz (n.ahead k)
def Nd.lgr (n : Nd) (k : Nat) : Nat := max (n.lft k) (n.rgt k)
def Nd.cutAt (n : Nd) : Nat := if n.right then (cutSt n.least n.lgr (n.ps.length + n.ds.length + 1 - n.least)).1 else 0
theorem lft_mono (n : Nd) (j k : Nat) : n.lft j ≤ n.lft (j + k) := by
  induction k with
  | zero => exact Nat.le_refl _
  | succ k ih =>
    have : n.lft (j + (k + 1)) = n.lft (j + k) + (n.partB (j + k)).length := by
      unfold Nd.lft
      rw [← Nat.add_assoc, encP_succ, List.length_append]
    omega
/-- Ahead of the last part: what stands before it and the Key ahead of it are part of the whole. -/
theorem cut_in {n : Nd} (hr : n.right = true) {k : Nat} (hk : k < n.ps.length + n.ds.length) : n.lft k + tsz (n.ahead k) ≤ n.size := by
  have e : n.size = n.lft (n.ps.length + n.ds.length) := by rw [Nd.size, if_pos hr, enc_right hr]; rfl
  have h1 := lft_mono n (k + 1) (n.ps.length + n.ds.length - (k + 1))
  rw [show k + 1 + (n.ps.length + n.ds.length - (k + 1)) = n.ps.length + n.ds.length by omega, ← e] at h1
  have h2 : n.lft (k + 1) = n.lft k + n.part k := by
    unfold Nd.lft
    rw [encP_succ, List.length_append, partB_len]
  have h3 : tsz (n.ahead k) ≤ n.part k := by
    unfold Nd.part
    split
    · rename_i hlt
      have : n.ks.length = 0 := by
        rcases n.right_lk hr with h | h <;> omega
      simp [Nd.ahead, this, tsz]
    · omega
  omega

def IntAt (W : World) (B : Nat) (v : Int) : Prop := W.heap[B]? = some (.cells #[.int .i64 v] 3 (0, 0))
theorem IntAt.cell {W : World} {B : Nat} {v : Int} (h : IntAt W B v) : W.cell? ⟨B, 0, none⟩ = some (.int .i64 v) := cell_row6 h
theorem IntAt.fro {W : World} {B : Nat} {v : Int} (h : IntAt W B v) : W.frozen? ⟨B, 0, none⟩ = false := frozen_whole h _
theorem IntAt.below {W W' : World} {B : Nat} {v : Int} (h : IntAt W B v) (hb : Below W.heap.size W W') : IntAt W' B v := (hb.block _ (lt_of_heap h)).trans h
/-- Three boxes of numbers, made one behind the other, then filled. -/
theorem three_int (w3 : World) (x y z : Int) : ∃ w4 w5 w6 w7 w8 w9, w3.alloc (.cells #[.int .i64 0] 3) = w4 ∧ w4.alloc (.cells #[.int .i64 0] 3) = w5 ∧ w5.alloc (.cells #[.int .i64 0] 3) = w6 ∧ w6.setCell ⟨w3.heap.size, 0, none⟩ (.int .i64 x) = w7 ∧ w7.setCell ⟨w4.heap.size, 0, none⟩ (.int .i64 y) = w8 ∧ w8.setCell ⟨w5.heap.size, 0, none⟩ (.int .i64 z) = w9 ∧
    (w6.cell? ⟨w3.heap.size, 0, none⟩ = some (.int .i64 0) ∧ w6.frozen? ⟨w3.heap.size, 0, none⟩ = false) ∧ (w7.cell? ⟨w4.heap.size, 0, none⟩ = some (.int .i64 0) ∧ w7.frozen? ⟨w4.heap.size, 0, none⟩ = false) ∧ (w8.cell? ⟨w5.heap.size, 0, none⟩ = some (.int .i64 0) ∧ w8.frozen? ⟨w5.heap.size, 0, none⟩ = false) ∧
    Veil (IntAt w9 w3.heap.size x ∧ IntAt w9 w4.heap.size y ∧ IntAt w9 w5.heap.size z ∧ Below w3.heap.size w3 w9 ∧ w4.heap.size = w3.heap.size + 1 ∧ w5.heap.size = w3.heap.size + 2) := by
  refine ⟨_, _, _, _, _, _, rfl, rfl, rfl, rfl, rfl, rfl, ?_⟩
  obtain ⟨w4, h4⟩ : ∃ w4, w3.alloc (.cells #[.int .i64 0] 3) = w4 := ⟨_, rfl⟩
  rw [h4]
  obtain ⟨w5, h5⟩ : ∃ w5, w4.alloc (.cells #[.int .i64 0] 3) = w5 := ⟨_, rfl⟩
  rw [h5]
  obtain ⟨w6, h6⟩ : ∃ w6, w5.alloc (.cells #[.int .i64 0] 3) = w6 := ⟨_, rfl⟩
  rw [h6]
  have b4 : IntAt w4 w3.heap.size 0 := by rw [← h4]; exact heap_alloc_new _ _
  have b5 : IntAt w5 w4.heap.size 0 := by rw [← h5]; exact heap_alloc_new _ _
  have b6 : IntAt w6 w5.heap.size 0 := by rw [← h6]; exact heap_alloc_new _ _
  have k4 : Below w3.heap.size w3 w4 := by rw [← h4]; exact below_al (Below.refl _ _) _
  have k5 : Below w4.heap.size w4 w5 := by rw [← h5]; exact below_al (Below.refl _ _) _
  have k6 : Below w5.heap.size w5 w6 := by rw [← h6]; exact below_al (Below.refl _ _) _
  have z4 : w4.heap.size = w3.heap.size + 1 := by rw [← h4]; simp
  have z5 : w5.heap.size = w4.heap.size + 1 := by rw [← h5]; simp
  have c4 := (b4.below k5).below k6
  have c5 := b5.below k6
  have t7 := (Turned.refl (· = w3.heap.size) w6).setCell (p := ⟨w3.heap.size, 0, none⟩) rfl (.int .i64 x)
  have d4 : IntAt (w6.setCell ⟨w3.heap.size, 0, none⟩ (.int .i64 x)) w3.heap.size x := heap_setCell_at c4 0 _
  generalize w6.setCell ⟨w3.heap.size, 0, none⟩ (.int .i64 x) = w7 at *
  have d5 : IntAt w7 w4.heap.size 0 := t7.heap c5 (by omega)
  have d6 : IntAt w7 w5.heap.size 0 := t7.heap b6 (by omega)
  have t8 := (Turned.refl (· = w4.heap.size) w7).setCell (p := ⟨w4.heap.size, 0, none⟩) rfl (.int .i64 y)
  have e5 : IntAt (w7.setCell ⟨w4.heap.size, 0, none⟩ (.int .i64 y)) w4.heap.size y := heap_setCell_at d5 0 _
  generalize w7.setCell ⟨w4.heap.size, 0, none⟩ (.int .i64 y) = w8 at *
  have e4 : IntAt w8 w3.heap.size x := t8.heap d4 (by omega)
  have e6 : IntAt w8 w5.heap.size 0 := t8.heap d6 (by omega)
  have t9 := (Turned.refl (· = w5.heap.size) w8).setCell (p := ⟨w5.heap.size, 0, none⟩) rfl (.int .i64 z)
  have f6 : IntAt (w8.setCell ⟨w5.heap.size, 0, none⟩ (.int .i64 z)) w5.heap.size z := heap_setCell_at e6 0 _
  generalize w8.setCell ⟨w5.heap.size, 0, none⟩ (.int .i64 z) = w9 at *
  have k36 := (k4.trans (k5.mono (by omega))).trans (k6.mono (by omega))
  have k37 := k36.trans (t7.toBelow k36.size (fun k _ e => by omega))
  have k38 := k37.trans (t8.toBelow k37.size (fun k _ e => by omega))
  have k39 := k38.trans (t9.toBelow k38.size (fun k _ e => by omega))
  exact ⟨⟨c4.cell, c4.fro⟩, ⟨d5.cell, d5.fro⟩, ⟨e6.cell, e6.fro⟩, ⟨t9.heap e4 (by omega), t9.heap e5 (by omega), f6, k39, z4, by omega⟩⟩
/-- Three more boxes of numbers. -/
theorem more_int (w9 : World) (x y z : Int) : ∃ w10 w12 w13, w9.alloc (.cells #[.int .i64 x] 3) = w10 ∧ w10.alloc (.cells #[.int .i64 y] 3) = w12 ∧ w12.alloc (.cells #[.int .i64 z] 3) = w13 ∧ w10.cell? ⟨w9.heap.size, 0, none⟩ = some (.int .i64 x) ∧
    Veil (IntAt w13 w9.heap.size x ∧ IntAt w13 w10.heap.size y ∧ IntAt w13 w12.heap.size z ∧ Below w9.heap.size w9 w13 ∧ Below w9.heap.size w9 w10 ∧ w10.heap.size = w9.heap.size + 1 ∧ w12.heap.size = w9.heap.size + 2) := by
  refine ⟨_, _, _, rfl, rfl, rfl, ?_⟩
  obtain ⟨w4, h4⟩ : ∃ w4, w9.alloc (.cells #[.int .i64 x] 3) = w4 := ⟨_, rfl⟩
  rw [h4]
  obtain ⟨w5, h5⟩ : ∃ w5, w4.alloc (.cells #[.int .i64 y] 3) = w5 := ⟨_, rfl⟩
  rw [h5]
  obtain ⟨w6, h6⟩ : ∃ w6, w5.alloc (.cells #[.int .i64 z] 3) = w6 := ⟨_, rfl⟩
  rw [h6]
  have b4 : IntAt w4 w9.heap.size x := by rw [← h4]; exact heap_alloc_new _ _
  have b5 : IntAt w5 w4.heap.size y := by rw [← h5]; exact heap_alloc_new _ _
  have b6 : IntAt w6 w5.heap.size z := by rw [← h6]; exact heap_alloc_new _ _
  have k4 : Below w9.heap.size w9 w4 := by rw [← h4]; exact below_al (Below.refl _ _) _
  have k5 : Below w4.heap.size w4 w5 := by rw [← h5]; exact below_al (Below.refl _ _) _
  have k6 : Below w5.heap.size w5 w6 := by rw [← h6]; exact below_al (Below.refl _ _) _
  have z4 : w4.heap.size = w9.heap.size + 1 := by rw [← h4]; simp
  have z5 : w5.heap.size = w4.heap.size + 1 := by rw [← h5]; simp
  exact ⟨b4.cell, ⟨(b4.below k5).below k6, b5.below k6, b6, (k4.trans (k5.mono (by omega))).trans (k6.mono (by omega)), k4, z4, by omega⟩⟩
/-- As above, the first one filled anew. -/
theorem more_int2 (w9 : World) (u x y z : Int) : ∃ w10 w11 w12 w13, w9.alloc (.cells #[.int .i64 u] 3) = w10 ∧ w10.setCell ⟨w9.heap.size, 0, none⟩ (.int .i64 x) = w11 ∧ w11.alloc (.cells #[.int .i64 y] 3) = w12 ∧ w12.alloc (.cells #[.int .i64 z] 3) = w13 ∧ (w10.cell? ⟨w9.heap.size, 0, none⟩ = some (.int .i64 u) ∧ w10.frozen? ⟨w9.heap.size, 0, none⟩ = false) ∧ w11.cell? ⟨w9.heap.size, 0, none⟩ = some (.int .i64 x) ∧
    Veil (IntAt w13 w9.heap.size x ∧ IntAt w13 w11.heap.size y ∧ IntAt w13 w12.heap.size z ∧ Below w9.heap.size w9 w13 ∧ (Below w9.heap.size w9 w10 ∧ Below w9.heap.size w9 w11) ∧ w11.heap.size = w9.heap.size + 1 ∧ w12.heap.size = w9.heap.size + 2) := by
  refine ⟨_, _, _, _, rfl, rfl, rfl, rfl, ?_⟩
  obtain ⟨w4, h4⟩ : ∃ w4, w9.alloc (.cells #[.int .i64 u] 3) = w4 := ⟨_, rfl⟩
  rw [h4]
  have a4 : IntAt w4 w9.heap.size u := by rw [← h4]; exact heap_alloc_new _ _
  have k4 : Below w9.heap.size w9 w4 := by rw [← h4]; exact below_al (Below.refl _ _) _
  have z4 : w4.heap.size = w9.heap.size + 1 := by rw [← h4]; simp
  have t7 := (Turned.refl (· = w9.heap.size) w4).setCell (p := ⟨w9.heap.size, 0, none⟩) rfl (.int .i64 x)
  have b4 : IntAt (w4.setCell ⟨w9.heap.size, 0, none⟩ (.int .i64 x)) w9.heap.size x := heap_setCell_at a4 0 _
  have z11 : (w4.setCell ⟨w9.heap.size, 0, none⟩ (.int .i64 x)).heap.size = w4.heap.size := by simp
  generalize w4.setCell ⟨w9.heap.size, 0, none⟩ (.int .i64 x) = w11 at *
  obtain ⟨w5, h5⟩ : ∃ w5, w11.alloc (.cells #[.int .i64 y] 3) = w5 := ⟨_, rfl⟩
  rw [h5]
  obtain ⟨w6, h6⟩ : ∃ w6, w5.alloc (.cells #[.int .i64 z] 3) = w6 := ⟨_, rfl⟩
  rw [h6]
  have b5 : IntAt w5 w11.heap.size y := by rw [← h5]; exact heap_alloc_new _ _
  have b6 : IntAt w6 w5.heap.size z := by rw [← h6]; exact heap_alloc_new _ _
  have k5 : Below w11.heap.size w11 w5 := by rw [← h5]; exact below_al (Below.refl _ _) _
  have k6 : Below w5.heap.size w5 w6 := by rw [← h6]; exact below_al (Below.refl _ _) _
  have z5 : w5.heap.size = w11.heap.size + 1 := by rw [← h5]; simp
  have k411 := k4.trans (t7.toBelow k4.size (fun k _ e => by omega))
  exact ⟨⟨a4.cell, a4.fro⟩, b4.cell, ⟨(b4.below k5).below k6, b5.below k6, b6, (k411.trans (k5.mono (by omega))).trans (k6.mono (by omega)), ⟨k4, k411⟩, by omega, by omega⟩⟩
/-- Between two rounds: the six boxes, the node's, the iterator's. -/
structure SpI (w : World) (B3 B4 B5 B6 B7 B8 Bx : Nat) (n : Nd) (a : NdP) (sz ls lst pl fw lf : Int) (A : World) : Prop where
  y : ReadsN w.heap.size n a A
  c3 : IntAt A B3 pl
  c4 : IntAt A B4 fw
  c5 : IntAt A B5 sz
  c6 : IntAt A B6 ls
  c7 : IntAt A B7 lst
  c8 : IntAt A B8 lf
  x : ReadsN Bx n a A
  t : Turned (fun _ => False) w A
  o : w.heap.size < B3 ∧ B3 < B4 ∧ B4 < B5 ∧ B5 < B6 ∧ B6 < B7 ∧ B7 < B8
section
variable {w : World} {B3 B4 B5 B6 B7 B8 Bx : Nat} {n : Nd} {a : NdP} {sz ls lst pl fw lf : Int} {A A' : World}
theorem SpI.booked {C : Nat} (h : SpI w B3 B4 B5 B6 B7 B8 Bx n a sz ls lst pl fw lf A) (hb : Booked C A A') (hC : w.heap.size ≤ C) : SpI w B3 B4 B5 B6 B7 B8 Bx n a sz ls lst pl fw lf A' :=
  ⟨h.y.booked hb, hb.heap h.c3, hb.heap h.c4, hb.heap h.c5, hb.heap h.c6, hb.heap h.c7, hb.heap h.c8, h.x.booked hb, hb.turned h.t hC, h.o⟩
theorem SpI.below (h : SpI w B3 B4 B5 B6 B7 B8 Bx n a sz ls lst pl fw lf A) (hb : Below A.heap.size A A') : SpI w B3 B4 B5 B6 B7 B8 Bx n a sz ls lst pl fw lf A' :=
  ⟨h.y.below hb, h.c3.below hb, h.c4.below hb, h.c5.below hb, h.c6.below hb, h.c7.below hb, h.c8.below hb, h.x.below hb, h.t.then (Turned.new (F := fun _ => False) hb) (fun _ _ h => h), h.o⟩
theorem ReadsN.noInt {B : Nat} {v : Int} (h : ReadsN Bx n a A) (hi : IntAt A B v) : Bx ≠ B := fun e => by
  have h1 := h.b
  rw [e, hi] at h1
  simp at h1
theorem SpI.put {pl' fw' lf' : Int} (h : SpI w B3 B4 B5 B6 B7 B8 Bx n a sz ls lst pl fw lf A) (hn : NdAt w n a) (hT : Turned (fun k => k = B3 ∨ k = B4 ∨ k = B8) A A') (h3 : IntAt A' B3 pl') (h4 : IntAt A' B4 fw') (h8 : IntAt A' B8 lf') : SpI w B3 B4 B5 B6 B7 B8 Bx n a sz ls lst pl' fw' lf' A' := by
  have ho := h.o
  have n3 := h.x.noInt h.c3
  have n4 := h.x.noInt h.c4
  have n8 := h.x.noInt h.c8
  exact ⟨h.y.aside hn hT (fun k hk => by omega) (by omega), h3, h4, hT.heap h.c5 (by omega), hT.heap h.c6 (by omega), hT.heap h.c7 (by omega), h8, h.x.aside hn hT (fun k hk => by omega) (by omega), h.t.then hT (fun k hk e => by omega), h.o⟩
theorem SpI.more (h : SpI w B3 B4 B5 B6 B7 B8 Bx n a sz ls lst pl fw lf A) (hn : NdAt w n a) (v : Int) : SpI w B3 B4 B5 B6 B7 B8 Bx n a sz ls lst pl fw v (A.setCell ⟨B8, 0, none⟩ (.int .i64 v)) ∧ Turned (fun k => k = B3 ∨ k = B4 ∨ k = B8) A (A.setCell ⟨B8, 0, none⟩ (.int .i64 v)) := by
  have ho := h.o
  have hT := (Turned.refl (fun k => k = B3 ∨ k = B4 ∨ k = B8) A).setCell (p := ⟨B8, 0, none⟩) (.inr (.inr rfl)) (.int .i64 v)
  have hU := (Turned.refl (· = B8) A).setCell (p := ⟨B8, 0, none⟩) rfl (.int .i64 v)
  exact ⟨h.put hn hT (hU.heap h.c3 (by omega)) (hU.heap h.c4 (by omega)) (heap_setCell_at h.c8 0 _), hT⟩
theorem SpI.best (h : SpI w B3 B4 B5 B6 B7 B8 Bx n a sz ls lst pl fw lf A) (hn : NdAt w n a) (x y v : Int) : SpI w B3 B4 B5 B6 B7 B8 Bx n a sz ls lst x y v (((A.setCell ⟨B3, 0, none⟩ (.int .i64 x)).setCell ⟨B4, 0, none⟩ (.int .i64 y)).setCell ⟨B8, 0, none⟩ (.int .i64 v)) ∧ Turned (fun k => k = B3 ∨ k = B4 ∨ k = B8) A (((A.setCell ⟨B3, 0, none⟩ (.int .i64 x)).setCell ⟨B4, 0, none⟩ (.int .i64 y)).setCell ⟨B8, 0, none⟩ (.int .i64 v)) ∧
    (IntAt (A.setCell ⟨B3, 0, none⟩ (.int .i64 x)) B4 fw ∧ IntAt ((A.setCell ⟨B3, 0, none⟩ (.int .i64 x)).setCell ⟨B4, 0, none⟩ (.int .i64 y)) B8 lf) := by
  have ho := h.o
  have hT := (((Turned.refl (fun k => k = B3 ∨ k = B4 ∨ k = B8) A).setCell (p := ⟨B3, 0, none⟩) (.inl rfl) (.int .i64 x)).setCell (p := ⟨B4, 0, none⟩) (.inr (.inl rfl)) (.int .i64 y)).setCell (p := ⟨B8, 0, none⟩) (.inr (.inr rfl)) (.int .i64 v)
  have t3 := (Turned.refl (· = B3) A).setCell (p := ⟨B3, 0, none⟩) rfl (.int .i64 x)
  have t4 := (Turned.refl (· = B4) (A.setCell ⟨B3, 0, none⟩ (.int .i64 x))).setCell (p := ⟨B4, 0, none⟩) rfl (.int .i64 y)
  have t8 := (Turned.refl (· = B8) ((A.setCell ⟨B3, 0, none⟩ (.int .i64 x)).setCell ⟨B4, 0, none⟩ (.int .i64 y))).setCell (p := ⟨B8, 0, none⟩) rfl (.int .i64 v)
  have d3 : IntAt (A.setCell ⟨B3, 0, none⟩ (.int .i64 x)) B3 x := heap_setCell_at h.c3 0 _
  have d4 : IntAt (A.setCell ⟨B3, 0, none⟩ (.int .i64 x)) B4 fw := t3.heap h.c4 (by omega)
  have e3 := t4.heap d3 (by omega)
  have e4 : IntAt ((A.setCell ⟨B3, 0, none⟩ (.int .i64 x)).setCell ⟨B4, 0, none⟩ (.int .i64 y)) B4 y := heap_setCell_at d4 0 _
  have e8 : IntAt ((A.setCell ⟨B3, 0, none⟩ (.int .i64 x)).setCell ⟨B4, 0, none⟩ (.int .i64 y)) B8 lf := t4.heap (t3.heap h.c8 (by omega)) (by omega)
  exact ⟨h.put hn hT (t8.heap e3 (by omega)) (t8.heap e4 (by omega)) (heap_setCell_at e8 0 _), hT, d4, e8⟩
end
end Go.Proofs.YtokbmimbbeedcaaGreatDoor
