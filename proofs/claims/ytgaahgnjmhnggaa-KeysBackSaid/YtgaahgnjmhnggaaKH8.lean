/- Keys: the marks of kinds, as a map; the kind of a mark. -/
import Derived.Maps.RangeRun
import Derived.Test.YtgaahgnjmhnggaaKH7
import Derived.Test.YtgaahgnjmhnggaaKP2
namespace Go.Proofs.Ytgaahgnjmhnggaa
open Go Go.RowKit Sm
attribute [local go_sem] Oper.semAt_some

/-- What is laid into a map that was just made, at a key that is not there. -/
theorem run_put_fresh {P : Program} (w : World) (t kt et : TypeId) (d : TypeDesc) (es : Array MapEntry) (clock : Nat) (key val : Value) (ht : P.underlying t = some (.map kt et)) (hd : P.underlying kt = some d) (hk : MapKept.IsKey d key) (h1 : Instr.findNow d key es.toList 0 = some none) :
    (Instr.mapUpdate t (.map (some w.heap.size)) key val).run P (w.alloc (.map es clock)) = .ok () (w.alloc (.map (es.push ⟨key, val, clock⟩) (clock + 1))) := by
  have hb : (w.alloc (.map es clock)).heap[w.heap.size]? = some (.map es clock) := heap_alloc_new _ _
  have hp : ∀ (h : Array Obj) (x y : Obj), (h.push x).setIfInBounds h.size y = h.push y := by
    intro h x y
    apply Array.toList_inj.1
    simp
  simp only [Instr.mapUpdate, Sem.run_bind, run_underlying ht, Result.andThen, MapKept.run_getObj_map hb, MapKept.run_checkKey hd hk, MapKept.run_findKey hd h1, MapKept.run_setObj_map _ hb]
  show Result.ok () ({ w.alloc (.map es clock) with heap := (w.heap.push (.map es clock)).setIfInBounds w.heap.size _ } : World) = _
  rw [hp]
  rfl
/-- Reading a map at a key. -/
theorem run_get_some {P : Program} (w : World) (t kt et : TypeId) (d : TypeDesc) (b : Nat) (es : Array MapEntry) (clock : Nat) (key : Value) (i : Nat) (v : Value) (ht : P.underlying t = some (.map kt et)) (hd : P.underlying kt = some d) (hk : MapKept.IsKey d key) (hb : w.heap[b]? = some (.map es clock)) (h1 : Instr.findNow d key es.toList 0 = some (some (i, v))) :
    (Instr.lookup t (.map (some b)) key false).run P w = .ok v w := by
  simp [Instr.lookup, run_underlying ht, MapKept.run_getObj_map hb, MapKept.run_checkKey hd hk, MapKept.run_findKey hd h1, Result.andThen]
theorem run_get_none {P : Program} (w : World) (t kt et : TypeId) (d : TypeDesc) (b : Nat) (es : Array MapEntry) (clock : Nat) (key z : Value) (ht : P.underlying t = some (.map kt et)) (hd : P.underlying kt = some d) (hk : MapKept.IsKey d key) (hb : w.heap[b]? = some (.map es clock)) (hz : (zeroValue et).run P w = .ok z w) (h1 : Instr.findNow d key es.toList 0 = some none) :
    (Instr.lookup t (.map (some b)) key false).run P w = .ok z w := by
  simp [Instr.lookup, run_underlying ht, MapKept.run_getObj_map hb, MapKept.run_checkKey hd hk, MapKept.run_findKey hd h1, hz, Result.andThen]

def markMap : Array MapEntry := #[⟨.int .i64 1, .int .u8 97, 0⟩, ⟨.int .i64 2, .int .u8 105, 1⟩, ⟨.int .i64 3, .int .u8 109, 2⟩, ⟨.int .i64 4, .int .u8 115, 3⟩, ⟨.int .i64 5, .int .u8 110, 4⟩, ⟨.int .i64 6, .int .u8 116, 5⟩]
theorem marks_put (w : World) (es : Array MapEntry) (clock : Nat) (k c : Int) (h1 : Instr.findNow (.int .i64) (.int .i64 k) es.toList 0 = some none) :
    (Instr.mapUpdate 52 (.map (some w.heap.size)) (.int .i64 k) (.int .u8 c)).run Try.prog (w.alloc (.map es clock)) = .ok () (w.alloc (.map (es.push ⟨.int .i64 k, .int .u8 c, clock⟩) (clock + 1))) :=
  run_put_fresh w _ _ _ _ es clock _ _ Try.underlying52 Try.underlying3 rfl h1
set_option maxRecDepth 20000 in
theorem marks_any (w : World) : Calls Try.prog 24 #[] w fun e w' => e = .returned (.map (some w.heap.size)) ∧ w.alloc (.map markMap 6) = w' := by
  have h0 : (Instr.makeMap 52 none).run Try.prog w = .ok (.map (some w.heap.size)) (w.alloc (.map #[] 0)) := rfl
  have h1 := marks_put w #[] 0 1 97 rfl
  have h2 := marks_put w (#[⟨.int .i64 1, .int .u8 97, 0⟩]) 1 2 105 rfl
  have h3 := marks_put w (#[⟨.int .i64 1, .int .u8 97, 0⟩, ⟨.int .i64 2, .int .u8 105, 1⟩]) 2 3 109 rfl
  have h4 := marks_put w (#[⟨.int .i64 1, .int .u8 97, 0⟩, ⟨.int .i64 2, .int .u8 105, 1⟩, ⟨.int .i64 3, .int .u8 109, 2⟩]) 3 4 115 rfl
  have h5 := marks_put w (#[⟨.int .i64 1, .int .u8 97, 0⟩, ⟨.int .i64 2, .int .u8 105, 1⟩, ⟨.int .i64 3, .int .u8 109, 2⟩, ⟨.int .i64 4, .int .u8 115, 3⟩]) 4 5 110 rfl
  have h6 := marks_put w (#[⟨.int .i64 1, .int .u8 97, 0⟩, ⟨.int .i64 2, .int .u8 105, 1⟩, ⟨.int .i64 3, .int .u8 109, 2⟩, ⟨.int .i64 4, .int .u8 115, 3⟩, ⟨.int .i64 5, .int .u8 110, 4⟩]) 5 6 116 rfl
  go_enter Try.func24, Try.ntmps24
  go_wp2
  go_ret
  exact ⟨rfl, rfl⟩

/-- Whatever of these has been seen, the bytes' first is not its mark. -/
def NoMark (c : UInt8) (seen : Array Nat) : Prop := ∀ x ∈ markMap.toList, seen.contains x.born = true → x.val ≠ .int .u8 c.toNat
theorem mark_of {x : MapEntry} (h : x ∈ markMap.toList) : ∃ k : Int, 1 ≤ k ∧ k ≤ 6 ∧ x.key = .int .i64 k ∧ x.val = .int .u8 (markB k).toNat := by
  simp only [markMap, List.mem_cons, List.not_mem_nil, or_false] at h
  rcases h with rfl | rfl | rfl | rfl | rfl | rfl
  · exact ⟨1, by decide, by decide, rfl, rfl⟩
  · exact ⟨2, by decide, by decide, rfl, rfl⟩
  · exact ⟨3, by decide, by decide, rfl, rfl⟩
  · exact ⟨4, by decide, by decide, rfl, rfl⟩
  · exact ⟨5, by decide, by decide, rfl, rfl⟩
  · exact ⟨6, by decide, by decide, rfl, rfl⟩
theorem kindB_mark (s : List UInt8) (hs : s ≠ []) (k : Int) (h1 : 1 ≤ k) (h6 : k ≤ 6) (h : s.getD 0 0 = markB k) : kindB s = k := by
  unfold kindB
  rw [if_neg hs, h]
  have : k = 1 ∨ k = 2 ∨ k = 3 ∨ k = 4 ∨ k = 5 ∨ k = 6 := by omega
  rcases this with rfl | rfl | rfl | rfl | rfl | rfl <;> decide
theorem kindB_none (s : List UInt8) (seen : Array Nat) (h : NoMark (s.getD 0 0) seen) (h0 : (leftOf markMap seen).size = 0) : kindB s = 0 := by
  have hall := all_seen markMap seen h0
  have hn : ∀ k : Int, 1 ≤ k → k ≤ 6 → s.getD 0 0 ≠ markB k := by
    intro k h1 h6 e
    have hm : ∃ x ∈ markMap.toList, x.val = .int .u8 (markB k).toNat := by
      have : k = 1 ∨ k = 2 ∨ k = 3 ∨ k = 4 ∨ k = 5 ∨ k = 6 := by omega
      rcases this with rfl | rfl | rfl | rfl | rfl | rfl
      · exact ⟨⟨.int .i64 1, .int .u8 97, 0⟩, by simp [markMap], rfl⟩
      · exact ⟨⟨.int .i64 2, .int .u8 105, 1⟩, by simp [markMap], rfl⟩
      · exact ⟨⟨.int .i64 3, .int .u8 109, 2⟩, by simp [markMap], rfl⟩
      · exact ⟨⟨.int .i64 4, .int .u8 115, 3⟩, by simp [markMap], rfl⟩
      · exact ⟨⟨.int .i64 5, .int .u8 110, 4⟩, by simp [markMap], rfl⟩
      · exact ⟨⟨.int .i64 6, .int .u8 116, 5⟩, by simp [markMap], rfl⟩
    obtain ⟨x, hx, hv⟩ := hm
    exact h x hx (hall x hx) (by rw [hv, e])
  unfold kindB
  split
  · rfl
  · have n1 : s.getD 0 0 ≠ 97 := hn 1 (by decide) (by decide)
    have n2 : s.getD 0 0 ≠ 105 := hn 2 (by decide) (by decide)
    have n3 : s.getD 0 0 ≠ 109 := hn 3 (by decide) (by decide)
    have n4 : s.getD 0 0 ≠ 115 := hn 4 (by decide) (by decide)
    have n5 : s.getD 0 0 ≠ 110 := hn 5 (by decide) (by decide)
    have n6 : s.getD 0 0 ≠ 116 := hn 6 (by decide) (by decide)
    rw [if_neg n1, if_neg n2, if_neg n3, if_neg n4, if_neg n5, if_neg n6]

open Go.ChangeMaps (setBlock)
/-- The iterator's block and the map's, while a range goes on. -/
structure Ranging (w W : World) (bm r : Nat) (es : Array MapEntry) (clock : Nat) (seen : Array Nat) : Prop where
  below : Below w.heap.size w W
  map : W.heap[bm]? = some (.map es clock)
  iter : W.heap[r]? = some (.mapIter (some bm) clock seen clock)
  ne : bm ≠ r
  new : w.heap.size ≤ r
theorem Ranging.step {w W W1 : World} {bm r clock : Nat} {es : Array MapEntry} {seen : Array Nat} (h : Ranging w W bm r es clock seen) (hw : W1 = W ∨ W1 = W.drew) (seen' : Array Nat) :
    Ranging w (setBlock W1 r (.mapIter (some bm) clock seen' clock)) bm r es clock seen' := by
  have h1 : Ranging w W1 bm r es clock seen := by
    rcases hw with rfl | rfl
    · exact h
    · exact ⟨h.below.drew, h.map, h.iter, h.ne, h.new⟩
  have hr : r < W1.heap.size := (Array.getElem?_eq_some_iff.1 h1.iter).1
  refine ⟨⟨h1.below.os, h1.below.tape, h1.below.output, ?_, fun k hk => ?_⟩, ?_, ?_, h1.ne, h1.new⟩
  · show w.heap.size ≤ (W1.heap.setIfInBounds r _).size
    rw [Array.size_setIfInBounds]; exact h1.below.size
  · show (W1.heap.setIfInBounds r _)[k]? = _
    rw [Array.getElem?_setIfInBounds_ne (by have := h1.new; omega)]
    exact h1.below.block k hk
  · show (W1.heap.setIfInBounds r _)[bm]? = _
    rw [Array.getElem?_setIfInBounds_ne h1.ne.symm]
    exact h1.map
  · show (W1.heap.setIfInBounds r _)[r]? = _
    rw [Array.getElem?_setIfInBounds_self_of_lt hr]
theorem iterSeen_of {W : World} {r : Nat} {bm : Option Nat} {a c : Nat} {seen : Array Nat} (h : W.heap[r]? = some (.mapIter bm a seen c)) : W.iterSeen r = seen := by
  unfold World.iterSeen; rw [h]

set_option maxRecDepth 20000 in
set_option maxHeartbeats 1000000 in
theorem kindOf_any (s : List UInt8) (hs : s.length ≤ 1000) (w : World) : Calls Try.prog 28 #[.string ⟨s.toArray⟩] w fun e w' => e = .returned (.int .i64 (kindB s)) ∧ Below w.heap.size w w' := by
  have HM : Veil _ := ⟨fun w => marks_any w⟩
  have hrg := run_range_map (P := Try.prog) (w.alloc (.map markMap 6)) 52 3 5 w.heap.size markMap 6 Try.underlying52 (heap_alloc_new _ _)
  have HR0 : Veil (Ranging w ((w.alloc (.map markMap 6)).alloc (.mapIter (some w.heap.size) 6 #[] 6)) w.heap.size (w.heap.size + 1) markMap 6 #[]) := ⟨⟨below_al (below_al (Below.refl _ _) _) _, heap_alloc2_old _ _ _, heap_alloc2_new _ _ _, by omega, by omega⟩⟩
  rw [World.size_alloc] at hrg
  obtain ⟨R, hR⟩ : ∃ R, kindB s = R := ⟨_, rfl⟩
  have HK : Veil _ := ⟨hR⟩
  rw [hR]
  clear hR
  go_enter Try.func28, Try.ntmps28
  go_wp2_with (go_at_call 24; refine (HM.out _).mono ?_; rintro e w1 ⟨rfl, rfl⟩)
  go_loopw [] (fun wr => ∃ seen, Ranging w wr w.heap.size (w.heap.size + 1) markMap 6 seen ∧ (s = [] ∨ NoMark (s.getD 0 0) seen)) (fun wr => (leftOf markMap (wr.iterSeen (w.heap.size + 1))).size)
  case atStart => exact ⟨#[], HR0.out, .inr (fun x _ h => by simp at h)⟩
  case round =>
    obtain ⟨seen, hRg, hno⟩ := hrel
    have HRg : Veil _ := ⟨hRg⟩
    have law := run_next_at (P := Try.prog) wr 0 (w.heap.size + 1) w.heap.size 6 6 seen markMap 6 hRg.iter hRg.map (by decide) (Nat.le_refl _)
    clear hRg hrg
    rcases law with ⟨h0, hrun⟩ | ⟨e, he, w2, hal2, hrun⟩
    · have hnx : ∀ ty, (Instr.next (.pointer (some ⟨w.heap.size + 1, 0, none⟩)) false ty).run Try.prog wr = _ := fun _ => hrun
      have hz : Veil (R = 0) := ⟨by
        rw [← HK.out]
        rcases hno with rfl | hno
        · rfl
        · exact kindB_none s seen hno h0⟩
      clear hrun hno h0
      go_wp2
      go_ret
      rw [hz.out]
      exact ⟨rfl, HRg.out.below⟩
    · obtain ⟨k, k1, k6, hkey, hval⟩ := mark_of (mem_left he).1
      have HE : Veil _ := ⟨he⟩
      have HNO : Veil _ := ⟨hno⟩
      have HV : Veil _ := ⟨hval⟩
      rw [hval, hkey] at hrun
      have hnx : ∀ ty, (Instr.next (.pointer (some ⟨w.heap.size + 1, 0, none⟩)) false ty).run Try.prog wr = _ := fun _ => hrun
      have HR2 : Veil _ := ⟨HRg.out.step hal2 (seen.push e.born)⟩
      obtain ⟨w3, hw3⟩ : ∃ w3, setBlock w2 (w.heap.size + 1) (.mapIter (some w.heap.size) 6 (seen.push e.born) 6) = w3 := ⟨_, rfl⟩
      rw [hw3] at hnx HR2
      have hen := run_entry_at (P := Try.prog) w3 (w.heap.size + 1) w.heap.size 6 seen markMap 6 e HR2.out.iter HR2.out.map (mem_left he).1 (by decide)
      rw [hval, hkey] at hen
      clear hrun hw3 hno hal2 hval hkey he HM
      obtain ⟨M, hM⟩ : ∃ M : UInt8, markB k = M := ⟨_, rfl⟩
      rw [hM] at hnx hen HV
      have HMk : Veil _ := ⟨hM⟩
      clear hM
      have HM1 : Veil (1 ≤ k ∧ k ≤ 6) := ⟨k1, k6⟩
      clear k1 k6
      have hmeas : Veil ((leftOf markMap (w3.iterSeen (w.heap.size + 1))).size < (leftOf markMap (wr.iterSeen (w.heap.size + 1))).size) := ⟨by
        rw [iterSeen_of HR2.out.iter, iterSeen_of HRg.out.iter]
        exact left_shrinks markMap seen e HE.out⟩
      by_cases hs0 : s = []
      · subst hs0
        go_wp2
        go_roundw
        case rel => exact ⟨_, HR2.out, .inl trivial⟩
        case measure => exact hmeas.out
      · have hl : 0 < s.length := List.length_pos_iff.2 hs0
        have hci : (⟨s.toArray⟩ : ByteArray)[0]'(by simpa [ByteArray.size] using hl) = s.getD 0 0 := head_of s _ hl rfl
        have HS0 : Veil _ := ⟨hs0⟩
        clear hs0
        obtain ⟨c, hc⟩ : ∃ c, s.getD 0 0 = c := ⟨_, rfl⟩
        rw [hc] at hci
        have HC : Veil _ := ⟨hc⟩
        clear hc
        go_wp2
        · rename_i heq
          go_ret
          have hcM : c = M := UInt8.toNat_inj.1 (by have := beq_iff_eq.1 heq; omega)
          rw [show R = k by rw [← HK.out]; exact kindB_mark s HS0.out k HM1.out.1 HM1.out.2 (by rw [HC.out, hcM, HMk.out])]
          exact ⟨rfl, HR2.out.below⟩
        · rename_i hne
          go_roundw
          case rel =>
            refine ⟨_, HR2.out, .inr fun x hx hsn => ?_⟩
            rw [contains_push] at hsn
            rcases Bool.or_eq_true _ _ ▸ hsn with h1 | h1
            · rcases HNO.out with h2 | h2
              · exact absurd h2 HS0.out
              · exact h2 x hx h1
            · have : x = e := born_inj (by decide) hx (mem_left HE.out).1 (beq_iff_eq.1 h1)
              subst this
              rw [HV.out, HC.out]
              intro h3
              simp only [Value.int.injEq, true_and] at h3
              rw [h3] at hne
              simp at hne
          case measure => exact hmeas.out
end Go.Proofs.Ytgaahgnjmhnggaa

/- Keys: written: a kind's mark and numbers as bytes. -/
namespace Go.Proofs.Ytgaahgnjmhnggaa
open Go Go.RowKit Sm
attribute [local go_sem] Oper.semAt_some

theorem marks_get (k : Int) (w : World) : (Instr.lookup 52 (.map (some w.heap.size)) (.int .i64 k) false).run Try.prog (w.alloc (.map markMap 6)) = .ok (.int .u8 (markB k).toNat) (w.alloc (.map markMap 6)) := by
  have hb : (w.alloc (.map markMap 6)).heap[w.heap.size]? = some (.map markMap 6) := heap_alloc_new _ _
  by_cases h : 1 ≤ k ∧ k ≤ 6
  · have hk : k = 1 ∨ k = 2 ∨ k = 3 ∨ k = 4 ∨ k = 5 ∨ k = 6 := by omega
    rcases hk with rfl | rfl | rfl | rfl | rfl | rfl
    · exact run_get_some _ _ _ _ _ _ markMap 6 _ 0 _ Try.underlying52 Try.underlying3 rfl hb rfl
    · exact run_get_some _ _ _ _ _ _ markMap 6 _ 1 _ Try.underlying52 Try.underlying3 rfl hb rfl
    · exact run_get_some _ _ _ _ _ _ markMap 6 _ 2 _ Try.underlying52 Try.underlying3 rfl hb rfl
    · exact run_get_some _ _ _ _ _ _ markMap 6 _ 3 _ Try.underlying52 Try.underlying3 rfl hb rfl
    · exact run_get_some _ _ _ _ _ _ markMap 6 _ 4 _ Try.underlying52 Try.underlying3 rfl hb rfl
    · exact run_get_some _ _ _ _ _ _ markMap 6 _ 5 _ Try.underlying52 Try.underlying3 rfl hb rfl
  · have n1 : k ≠ 1 := by omega
    have n2 : k ≠ 2 := by omega
    have n3 : k ≠ 3 := by omega
    have n4 : k ≠ 4 := by omega
    have n5 : k ≠ 5 := by omega
    have n6 : k ≠ 6 := by omega
    have e : markB k = 0 := by unfold markB; rw [if_neg n1, if_neg n2, if_neg n3, if_neg n4, if_neg n5, if_neg n6]
    rw [e]
    refine run_get_none _ _ _ _ _ _ markMap 6 _ _ Try.underlying52 Try.underlying3 rfl hb (by kernel_rfl) ?_
    have b1 : (k == 1) = false := by simpa using n1
    have b2 : (k == 2) = false := by simpa using n2
    have b3 : (k == 3) = false := by simpa using n3
    have b4 : (k == 4) = false := by simpa using n4
    have b5 : (k == 5) = false := by simpa using n5
    have b6 : (k == 6) = false := by simpa using n6
    simp [markMap, Instr.findNow, Instr.sameNow, b1, b2, b3, b4, b5, b6]

def Fd.zero : Fd := ⟨0, 0, 0, 0⟩
/-- The fields that lie in a block. -/
def Fds (w : World) (b : Nat) (fs : List Fd) : Prop := ∀ i, i < fs.length →
  w.cell? ⟨b, i * 4, none⟩ = some (.int .i64 (fs.getD i Fd.zero).size) ∧ w.cell? ⟨b, i * 4 + 1, none⟩ = some (.int .u32 (fs.getD i Fd.zero).n) ∧
  w.cell? ⟨b, i * 4 + 2, none⟩ = some (.int .u32 (fs.getD i Fd.zero).least) ∧ w.cell? ⟨b, i * 4 + 3, none⟩ = some (.int .u32 (fs.getD i Fd.zero).most)
theorem wroteB_take (fs : List Fd) (k : Nat) (h : k < fs.length) : wroteB (fs.take (k + 1)) = wroteB (fs.take k) ++ putB (fs.getD k Fd.zero).n (fs.getD k Fd.zero).size := by
  unfold wroteB
  rw [List.take_succ_eq_append_getElem h, List.flatMap_append]
  simp [List.getD, h, Fd.bytes]
theorem wroteB_le : ∀ (fs : List Fd), (∀ f ∈ fs, f.size ≤ 4) → (wroteB fs).length ≤ 4 * fs.length := by
  intro fs
  induction fs with
  | nil => intro _; simp [wroteB]
  | cons a fs ih =>
    intro h
    have h1 := ih fun x hx => h x (List.mem_cons_of_mem _ hx)
    have h2 := h a (List.mem_cons_self ..)
    rw [wroteB_cons]
    simp only [List.length_append, Fd.bytes, putB_length, List.length_cons]
    omega

set_option maxRecDepth 20000 in
set_option maxHeartbeats 1000000 in
theorem wrote_any (k : Int) (b cap : Nat) (fs : List Fd) (w : World) (hc : Fds w b fs) (hb : b < w.heap.size) (hn : Veil (∀ f ∈ fs, f.size ≤ 4)) (hl : fs.length ≤ 10) :
    Calls Try.prog 17 #[.int .i64 k, .slice (some ⟨b, 0, none⟩) fs.length cap] w fun e w' => e = .returned (.string ⟨(markB k :: wroteB fs).toArray⟩) ∧ Below w.heap.size w w' := by
  have HM : Veil _ := ⟨fun w => marks_any w⟩
  have hlk := marks_get k w
  obtain ⟨M, hM⟩ : ∃ M, markB k = M := ⟨_, rfl⟩
  rw [hM] at hlk ⊢
  clear hM
  have hown0 : Veil (OwnB ((w.alloc (.map markMap 6)).alloc (.cells #[.int .u8 M.toNat] 5)) w.heap.size (.slice (some ⟨w.heap.size + 1, 0, none⟩) 1 1) [M] ∧ Below w.heap.size w ((w.alloc (.map markMap 6)).alloc (.cells #[.int .u8 M.toNat] 5))) := ⟨by
    have h := World.ownsRow_lit (w := w.alloc (.map markMap 6)) (base := w.heap.size) (e := 5) (size := 1) #[.int .u8 M.toNat] 1 (by rw [World.size_alloc]; omega) (by decide) rfl
    rw [World.size_alloc] at h
    exact h, below_al (below_al (Below.refl _ _) _) _⟩
  go_enter Try.func17, Try.ntmps17
  have HC := Lib.hid hc
  clear hc
  go_wp2_with (go_at_call 24; refine (HM.out _).mono ?_; rintro e w1 ⟨rfl, rfl⟩)
  clear hlk
  go_loopw [5, 15] (fun s i wr => ∃ k : Nat, k ≤ fs.length ∧ i = .int .i64 k ∧ Below w.heap.size w wr ∧ Veil (OwnB wr w.heap.size s (M :: wroteB (fs.take k)))) (fun _ i _ => fs.length - (intOf i).toNat)
  case atStart => exact ⟨0, Nat.zero_le _, rfl, hown0.out.2, ⟨hown0.out.1⟩⟩
  case round =>
    obtain ⟨k, hk, rfl, hB, hA⟩ := hrel
    by_cases hlt : k < fs.length
    · obtain ⟨h1, h2, h3, h4⟩ := HC.out k hlt
      have hck : wr.cell? ⟨b, k * 4, none⟩ = _ := (hB.cell hb).trans h1
      have hck2 : wr.cell? ⟨b, k * 4 + 1, none⟩ = _ := (hB.cell hb).trans h2
      have hck3 : wr.cell? ⟨b, k * 4 + 2, none⟩ = _ := (hB.cell hb).trans h3
      have hck4 : wr.cell? ⟨b, k * 4 + 3, none⟩ = _ := (hB.cell hb).trans h4
      clear h1 h2 h3 h4
      have HB := Lib.hid hB
      have hkn : Veil ((fs.getD k Fd.zero).size ≤ 4) := ⟨hn.out _ (by simp [List.getD, hlt])⟩
      have ht : Veil (wroteB (fs.take (k + 1)) = wroteB (fs.take k) ++ putB (fs.getD k Fd.zero).n (fs.getD k Fd.zero).size) := ⟨wroteB_take fs k hlt⟩
      clear hB
      revert hck hck2 hck3 hck4 hkn ht
      generalize fs.getD k Fd.zero = x
      obtain ⟨sz, vl, le, mo⟩ := x
      intro hck hck2 hck3 hck4 hkn ht
      dsimp only at *
      have hsz : sz ≤ 4 := hkn.out
      have HL : Veil ((wroteB (fs.take k)).length ≤ 40) := ⟨by have := wroteB_le (fs.take k) (fun x hx => (hn.out x (List.mem_of_mem_take hx))); rw [List.length_take] at this; omega⟩
      obtain ⟨L, hL⟩ : ∃ L, wroteB (fs.take k) = L := ⟨_, rfl⟩
      rw [hL] at hA ht HL
      clear hL
      go_wp2
      generalize hBn : wr.heap.size = Bn
      have HBn := Lib.hid hBn
      clear hBn
      go_loopw [5, 8] (fun s j wi => ∃ (m : Nat) (z : Int), m ≤ sz ∧ z = (sz : Int) - 1 - m ∧ j = .int .i64 z ∧ Below w.heap.size w wi ∧ Veil (OwnB wi w.heap.size s ((M :: L) ++ (putB vl sz).take m) ∧ s.ownBlock ≠ some Bn ∧ wi.heap[Bn]? = some (.cells #[.int .i64 sz, .int .u32 vl, .int .u32 le, .int .u32 mo] 43 (0, 0)))) (fun _ j _ => (intOf j + 1).toNat)
      case atStart => exact ⟨0, _, Nat.zero_le _, by simp, rfl, below_al HB.out _, ⟨by rw [List.take_zero, List.append_nil]; exact hA.out.alloc _, fun e => by have := (own_lt hA.out e).2; have := HBn.out; omega, by rw [← HBn.out]; exact heap_alloc_new _ _⟩⟩
      case round =>
        obtain ⟨m, z, hm, hz, rfl, hB2, hA2⟩ := hrel
        by_cases hz0 : 0 ≤ z
        · have hc1 : wr.cell? ⟨Bn, 1, none⟩ = some (.int .u32 vl) := by simp [World.cell?, hA2.out.2.2]
          have hzz := Lib.hid hz
          have hz9 : z ≤ 4 := by omega
          have HB2 := Lib.hid hB2
          clear hB2 hz
          have HV : Veil _ := ⟨byte_shr vl z hz0⟩
          have HP : Veil _ := ⟨putB_take vl sz m (by have := hzz.out; omega)⟩
          have HE : Veil (sz - 1 - m = z.toNat) := ⟨by have := hzz.out; omega⟩
          go_wp2_with (refine wpList_append_u8 rfl (.tmp 26) (.tmp 33) rfl w.heap.size _ ((M :: L) ++ (putB vl sz).take m) (byteAt vl z.toNat) rfl (hA2.out.1.alloc _) ⟨wr.heap.size, 0, none⟩ rfl (by rw [← HV.out]; exact cell_alloc_one _ _ _) (by have := HL.out; simp; omega) (by have := HB2.out.size; simp; omega) ?_; intro g cap w9 hown hgrow hlies hglt)
          have hnn := own_next (n := L.length + m + 1 + 1) hown (show (putB vl sz).take (m + 1) = _ by rw [HP.out, HE.out]) (by simp; omega)
          have hbn : Bn < wr.heap.size := lt_of_heap hA2.out.2.2
          refine ⟨⟨m + 1, z - 1, by have := hzz.out; omega, by have := hzz.out; omega, rfl, below_grown HB2.out hA2.out.1 hgrow, ⟨hnn, ?_, ?_⟩⟩, ?_⟩
          · simp only [Value.ownBlock, ne_eq, Option.some.injEq]
            intro e
            subst e
            rcases hlies with h | h
            · exact hA2.out.2.1 h
            · simp at h; omega
          · have ht : Turned (fun j => _ = some j) (wr.alloc _) w9 := Turned.grown hgrow (fun j hj _ => hj)
            exact ht.heap (by rw [Below.heap_alloc _ _ _ hbn]; exact hA2.out.2.2) hA2.out.2.1
          · simp only [intOf]; omega
        · obtain rfl : m = sz := by omega
          have hfull : (putB vl m).take m = putB vl m := by rw [List.take_of_length_le (by simp)]
          have HF : Veil _ := ⟨hfull⟩
          have HB2 := Lib.hid hB2
          clear hB2 hz hfull
          go_wp2
          refine ⟨⟨k + 1, by omega, by go_num, HB2.out, ⟨by rw [ht.out, ← HF.out]; exact hA2.out.1⟩⟩, ?_⟩
          simp only [intOf]; omega
    · obtain rfl : k = fs.length := by omega
      rw [List.take_length] at hA
      have hconv := conv_own hA.out
      have HB := Lib.hid hB
      clear hB
      go_wp2
      go_ret
      exact ⟨rfl, HB.out⟩
end Go.Proofs.Ytgaahgnjmhnggaa
