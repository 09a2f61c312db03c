/- The walk of Take. -/
import Derived.BigQuiet
import Derived.Test.YtapmppiiphbcpaaKA4
namespace Go.Proofs.Ytapmppiiphbcpaa
open Go Go.RowKit Sm
attribute [local go_sem] Oper.semAt_some

/-- An alloc as it is handed over. -/
structure AlAt (w : World) (a : Al) (p : Option Addr) (c : Nat) : Prop where
  s : Sps w p a.l
  old : ∀ b, p = some b → b.block < w.heap.size ∧ b.spot = none
  len : a.l.length ≤ c
  few : c ≤ 1000000
  none : p = none → c = 0
  ok : a.Ok
theorem alb_then {w w1 w2 : World} (h : Below w.heap.size w w1) (k : Below w1.heap.size w1 w2) : Below w.heap.size w w2 := h.trans (k.mono h.size)
theorem AlAt.below {w w' : World} {a : Al} {p : Option Addr} {c : Nat} (h : AlAt w a p c) (hb : Below w.heap.size w w') : AlAt w' a p c :=
  ⟨h.s.below hb, fun b hp => ⟨Nat.lt_of_lt_of_le (h.old b hp).1 hb.size, (h.old b hp).2⟩, h.len, h.few, h.none, h.ok⟩
/-- What is answered: in new memory, or no list. -/
structure AlNew (w : World) (B : Nat) (a : Al) (p : Option Addr) (c : Nat) : Prop where
  f : Fresh w B p a.l
  c : c = a.l.length
  ok : a.Ok
theorem AlNew.at' {w : World} {B : Nat} {a : Al} {p : Option Addr} {c : Nat} (h : AlNew w B a p c) : AlAt w a p c := by
  refine ⟨h.f.sps, ?_, by rw [h.c]; exact Nat.le_refl _, by rw [h.c]; have := h.ok.few; omega, ?_, h.ok⟩
  · intro b hb
    rcases h.f with ⟨-, h⟩ | ⟨g, -, h, hg⟩
    · rw [h] at hb; cases hb
    · rw [h] at hb; cases hb; exact ⟨lt_of_heap hg, rfl⟩
  · intro e
    rcases h.f with ⟨h0, -⟩ | ⟨g, -, h0, hg⟩
    · rw [h.c, h0]; rfl
    · rw [h0] at e; cases e
theorem AlNew.below {w w' : World} {B : Nat} {a : Al} {p : Option Addr} {c : Nat} (h : AlNew w B a p c) (hb : Below w.heap.size w w') : AlNew w' B a p c := ⟨h.f.below hb, h.c, h.ok⟩
theorem AlNew.zero (w : World) (B : Nat) : AlNew w B Al.zero none 0 := ⟨.inl ⟨rfl, rfl⟩, rfl, Al.zero_ok⟩

def Ls.v (x : Ls) : Value := .slice x.p x.l.length x.c
/-- joined of lists that were just listed. -/
theorem joined_new {w : World} (ls : List Ls) (hs : ∀ x ∈ ls, Sps w x.p x.l) (h10 : ls.length ≤ 10) (hl : (flat ls ls.length).length ≤ 1000000) (W : World) (hW : Below w.heap.size w W) (g n : Nat) (cs : Array Value) (hg : g = W.heap.size) (hn : n = ls.length) (hcs : cs = (ls.map Ls.v).toArray) :
    Calls Try.prog 63 #[.slice (some ⟨g, 0, none⟩) n n] (W.alloc (.cells cs 57)) fun e w' => ∃ G, e = .returned (.slice (some ⟨G, 0, none⟩) (flat ls ls.length).length (flat ls ls.length).length) ∧ Veil (w.heap.size ≤ G ∧ w'.heap[G]? = some (.cells (spCells (flat ls ls.length)).toArray 80 (0, 0))) ∧ Below W.heap.size W w' := by
  subst hg hn hcs
  have hb1 : Below W.heap.size W (W.alloc (.cells (ls.map Ls.v).toArray 57)) := below_al (Below.refl _ _) _
  refine (joined_any W.heap.size ls.length ls _ (fun i hi => ?_) (by simp) h10 hl).mono ?_
  · have hb : (W.alloc (.cells (ls.map Ls.v).toArray 57)).heap[W.heap.size]? = some (.cells (ls.map Ls.v).toArray 57 (0, 0)) := heap_alloc_new _ _
    have hm : ls.getD i Ls.zero ∈ ls := by rw [List.getD, List.getElem?_eq_getElem hi]; exact List.getElem_mem ..
    refine ⟨?_, ((hs _ hm).below hW).below hb1⟩
    rw [cell_whole hb]
    simp [List.getD, hi, Ls.v]
  · rintro e w' ⟨G, he, ⟨h1, h2⟩, h3⟩
    refine ⟨G, he, ⟨?_, h2⟩, hb1.trans (h3.mono hb1.size)⟩
    have := hW.size
    have := hb1.size
    omega

theorem set3 {w : World} {g : Nat} {a0 a1 a2 : Value} {t : TypeId} (h : w.heap[g]? = some (.cells #[a0, a1, a2] t (0, 0))) (v0 v1 v2 : Value) :
    (((w.setCell ⟨g, 0, none⟩ v0).setCell ⟨g, 1, none⟩ v1).setCell ⟨g, 2, none⟩ v2).heap[g]? = some (.cells #[v0, v1, v2] t (0, 0)) :=
  heap_setCell_at (heap_setCell_at (heap_setCell_at h 0 v0) 1 v1) 2 v2
theorem size_alloc : (Try.prog.info? 59).map (·.size) = some 3 := by kernel_rfl
theorem results_alloc3 {fn : Func} {p q r : Tmp} {tmps : Array Value} {w : World} {g : Nat} {x0 x1 x2 y z : Value} (h : fn.results = #[.cell p 59, .tmp q, .tmp r]) (hp : tmps.getD p undef = .pointer (some ⟨g, 0, none⟩)) (hq : tmps.getD q undef = y) (hr : tmps.getD r undef = z) (hg : w.heap[g]? = some (.cells #[x0, x1, x2] 59 (0, 0))) :
    (results fn tmps).run Try.prog w = .ok (.tuple #[.agg #[x0, x1, x2], y, z]) w := by
  have hp' : tmps[p]?.getD undef = .pointer (some ⟨g, 0, none⟩) := by simpa using hp
  have hq' : tmps[q]?.getD undef = y := by simpa using hq
  have hr' : tmps[r]?.getD undef = z := by simpa using hr
  obtain ⟨⟨c0, c1, c2⟩, -⟩ := pack3 hg
  simp [results, h, go_sem, hp', hq', hr', c0, c1, c2]

/-- What Take leaves. -/
def TakePost (w : World) (t : Tk) (e : Ending) (w' : World) : Prop := ∃ p' c', e = .returned (.tuple #[t.a.v p' c', .int .u32 t.page, .int .i64 t.err]) ∧ AlNew w' w.heap.size t.a p' c' ∧ Below w.heap.size w w'

set_option maxRecDepth 20000 in
set_option maxHeartbeats 2000000 in
theorem take_bad {w : World} {a : Al} {p : Option Addr} {c : Nat} (h : AlAt w a p c) (oldest : Nat) (hr : a.right = false) :
    Calls Try.prog 31 #[a.v p c, .int .u64 oldest] w (TakePost w (a.take oldest)) := by
  have e : a.take oldest = ⟨Al.zero, 0, 50⟩ := by simp [Al.take, hr]
  rw [e]
  have HR : Veil (∀ W, Below w.heap.size w W → Calls Try.prog 35 #[a.v p c] W fun e w' => e = .returned (.bool false) ∧ Below W.heap.size W w') := ⟨fun W hW => by
    have := aright_of (h.below hW).s (fun b hb => ((h.below hW).old b hb).1) c ⟨h.ok⟩
    rwa [hr] at this⟩
  clear e hr h
  obtain ⟨hi, mo, L⟩ := a
  unfold Al.v at *
  dsimp only at *
  go_enter Try.func31, Try.ntmps31
  go_wp2_with (go_at_call 35; refine (HR.out _ (below_al (below_al (Below.refl _ _) _) _)).mono ?_; rintro e w2 ⟨rfl, hb2⟩; obtain ⟨⟨z0, z1, z2⟩, g0, g1, g2⟩ := pack3 ((hb2.block (w.heap.size + 1) (by simp)).trans (heap_alloc2_new _ _ _)))
  have hT : Turned (fun _ => False) w (((w2.setCell ⟨w.heap.size + 1, 0, none⟩ (.int .u32 0)).setCell ⟨w.heap.size + 1, 1, none⟩ (.int .u32 0)).setCell ⟨w.heap.size + 1, 2, none⟩ (.slice none 0 0)) :=
    (((((Turned.refl (fun _ => False) w).alloc _).alloc _).trans (Turned.new hb2)).setNew (p := ⟨w.heap.size + 1, 0, none⟩) (by simp) _ |>.setNew (p := ⟨w.heap.size + 1, 1, none⟩) (by simp) _ |>.setNew (p := ⟨w.heap.size + 1, 2, none⟩) (by simp) _)
  refine bodyPost_ret (results_alloc3 (g := w.heap.size + 1) (y := .int .u32 0) (z := .int .i64 50) rfl rfl rfl rfl (set3 ((hb2.block (w.heap.size + 1) (by simp)).trans (heap_alloc2_new _ _ _)) _ _ _)) rfl ⟨none, 0, rfl, AlNew.zero _ _, hT.toBelow (Nat.le_refl _) (fun _ _ h => h.elim)⟩

theorem take_right_of {w : World} {a : Al} {p : Option Addr} {c : Nat} (h : AlAt w a p c) (hr : a.right = true) : Veil (∀ W, Below w.heap.size w W → Calls Try.prog 35 #[a.v p c] W fun e w' => e = .returned (.bool true) ∧ Below W.heap.size W w') := ⟨fun W hW => by
    have := aright_of (h.below hW).s (fun b hb => ((h.below hW).old b hb).1) c ⟨h.ok⟩
    rwa [hr] at this⟩
theorem take_unread_of {w : World} {a : Al} {p : Option Addr} {c : Nat} (h : AlAt w a p c) (oldest : Nat) : Veil (∀ W, Below w.heap.size w W → Calls Try.prog 62 #[.slice p a.l.length c, .int .u64 oldest] W fun e w' => e = .returned (.tuple #[.int .i64 (unAt oldest a.l), (unSp oldest a.l).v]) ∧ Below W.heap.size W w') :=
  ⟨fun _ hW => unread_of (h.below hW).s (fun b hb => ((h.below hW).old b hb).1) c oldest h.ok.few⟩
theorem take_join_of {w : World} {a : Al} {p : Option Addr} {c : Nat} (h : AlAt w a p c) : Veil (∀ W g, g = W.heap.size → Below w.heap.size w W → Calls Try.prog 63 #[.slice (some ⟨g, 0, none⟩) 1 1] (W.alloc (.cells #[.slice p a.l.length c] 57)) fun e w' => ∃ G, e = .returned (.slice (some ⟨G, 0, none⟩) a.l.length a.l.length) ∧ Veil (w.heap.size ≤ G ∧ w'.heap[G]? = some (.cells (spCells a.l).toArray 80 (0, 0))) ∧ Below W.heap.size W w') :=
  ⟨fun W g hg hW => by
    have e : flat [⟨p, c, a.l⟩] 1 = a.l := by simp [flat]
    have := joined_new [⟨p, c, a.l⟩] (fun x hx => by rw [List.mem_singleton.1 hx]; exact h.s) (by simp) (by simp only [List.length_cons, List.length_nil, Nat.zero_add]; rw [e]; have := h.ok.few; omega) W hW g 1 #[.slice p a.l.length c] hg rfl rfl
    simp only [List.length_cons, List.length_nil, Nat.zero_add] at this
    rwa [e] at this⟩

theorem take_end {w w4 w5 : World} {a : Al} {G : Nat} {c0 c1 : Array Value} (hX : Below w.heap.size w w4) (hT : Turned (fun j => j = w.heap.size ∨ j = w.heap.size + 1) w4 w5) (hG : w.heap.size ≤ G ∧ w4.heap[G]? = some (.cells (spCells a.l).toArray 80 (0, 0)))
    (h0 : w4.heap[w.heap.size]? = some (.cells c0 59 (0, 0))) (h1 : w4.heap[w.heap.size + 1]? = some (.cells c1 59 (0, 0))) (hok : a.Ok) : AlNew w5 w.heap.size a (some ⟨G, 0, none⟩) a.l.length ∧ Below w.heap.size w w5 := by
  refine ⟨⟨.inr ⟨G, hG.1, rfl, hT.heap hG.2 ?_⟩, rfl, hok⟩, hX.trans (hT.toBelow hX.size (fun j _ h => by omega))⟩
  rintro (rfl | rfl)
  · rw [h0] at hG; simp at hG
  · rw [h1] at hG; simp at hG
theorem turn_two {w4 : World} {B : Nat} (v0 v1 v2 v3 v4 : Value) : Turned (fun j => j = B ∨ j = B + 1) w4 (((((w4.setCell ⟨B, 2, none⟩ v0).setCell ⟨B, 0, none⟩ v1).setCell ⟨B + 1, 0, none⟩ v2).setCell ⟨B + 1, 1, none⟩ v3).setCell ⟨B + 1, 2, none⟩ v4) :=
  (((((Turned.refl _ w4).setCell (p := ⟨B, 2, none⟩) (.inl rfl) v0).setCell (p := ⟨B, 0, none⟩) (.inl rfl) v1).setCell (p := ⟨B + 1, 0, none⟩) (.inr rfl) v2).setCell (p := ⟨B + 1, 1, none⟩) (.inr rfl) v3).setCell (p := ⟨B + 1, 2, none⟩) (.inr rfl) v4
theorem turn_one {w4 : World} {B : Nat} (v0 v2 v3 v4 : Value) : Turned (fun j => j = B ∨ j = B + 1) w4 ((((w4.setCell ⟨B, 2, none⟩ v0).setCell ⟨B + 1, 0, none⟩ v2).setCell ⟨B + 1, 1, none⟩ v3).setCell ⟨B + 1, 2, none⟩ v4) :=
  ((((Turned.refl _ w4).setCell (p := ⟨B, 2, none⟩) (.inl rfl) v0).setCell (p := ⟨B + 1, 0, none⟩) (.inr rfl) v2).setCell (p := ⟨B + 1, 1, none⟩) (.inr rfl) v3).setCell (p := ⟨B + 1, 2, none⟩) (.inr rfl) v4
theorem set_ne {w : World} {b g : Nat} {o : Obj} (h : w.heap[g]? = some o) (hn : g ≠ b) (k : Nat) (v : Value) : (w.setCell ⟨b, k, none⟩ v).heap[g]? = some o := by
  rw [Below.heap_setCell _ _ _ _ hn]; exact h

set_option maxRecDepth 20000 in
set_option maxHeartbeats 2000000 in
theorem take_none {w : World} {a : Al} {p : Option Addr} {c : Nat} (h : AlAt w a p c) (oldest : Nat) (hr : a.right = true) (hf : ¬ firstAt (old oldest) a.l < a.l.length) :
    Calls Try.prog 31 #[a.v p c, .int .u64 oldest] w (TakePost w (a.take oldest)) := by
  have HT : Veil (a.take oldest = if a.high = a.most then ⟨a, 0, 51⟩ else ⟨⟨a.high + 1, a.most, a.l⟩, a.high, 0⟩) := ⟨by simp [Al.take, hr, hf]⟩
  have HOK : Veil _ := ⟨h.ok⟩
  have hm : a.most ≤ 16384 := ((Al.right_iff a).1 hr).1.2.2.1
  have hm2 : a.high ≤ a.most := ((Al.right_iff a).1 hr).1.2.1
  have HR := take_right_of h hr
  have HU := take_unread_of h oldest
  have HJ := take_join_of h
  rw [show unAt oldest a.l = 0 by simp [unAt, hf], show unSp oldest a.l = Sp.zero by simp [unSp, hf]] at HU
  have HTO : Veil (Tk.a (a.take oldest) = ⟨(a.take oldest).a.high, a.most, a.l⟩ ∧ (a.take oldest).a.Ok) := ⟨by rw [HT.out]; split <;> rfl, (Al.take_ok HOK.out oldest).1⟩
  revert HT HTO
  generalize a.take oldest = T
  intro HT HTO
  clear h hr hf HOK
  obtain ⟨hi, mo, L⟩ := a
  unfold Al.v Sp.v at *
  dsimp only [Sp.zero] at *
  by_cases hfull : hi = mo
  · subst hfull
    have HTT : Veil (T = ⟨⟨hi, hi, L⟩, 0, 51⟩) := ⟨by have h2 := HT.out; rwa [if_pos rfl] at h2⟩
    clear HT
    clear hm hm2
    go_enter Try.func31, Try.ntmps31
    go_wp2_with (first
      | (go_at_call 62; refine (HU.out _ HX2.out).mono ?_; rintro e w3 ⟨rfl, hb3⟩; have HX3 : Veil (Below w.heap.size w w3) := ⟨alb_then HX2.out hb3⟩; have HB3 : Veil _ := ⟨(hb3.block w.heap.size (lt_of_heap HB2.out)).trans HB2.out⟩; have HC3 : Veil _ := ⟨(hb3.block (w.heap.size + 1) (lt_of_heap HC2.out)).trans HC2.out⟩; obtain ⟨⟨r0, r1, r2⟩, f0, f1, f2⟩ := pack3 HB3.out; have hz3 : w.heap.size < w3.heap.size := lt_of_heap HB3.out; clear hb3)
      | (go_at_call 35; refine (HR.out _ (below_al (below_al (Below.refl _ _) _) _)).mono ?_; rintro e w2 ⟨rfl, hb2⟩; have HX2 : Veil (Below w.heap.size w w2) := ⟨alb_then (below_al (below_al (Below.refl _ _) _) _) hb2⟩; have HB2 : Veil _ := ⟨(hb2.block w.heap.size (by simp only [World.size_alloc]; omega)).trans (heap_alloc2_old _ _ _)⟩; have HC2 : Veil _ := ⟨(hb2.block (w.heap.size + 1) (by simp)).trans (heap_alloc2_new _ _ _)⟩; obtain ⟨⟨q0, q1, q2⟩, -⟩ := pack3 HB2.out; clear hb2))
    go_at_call 63
    refine (HJ.out (w3.alloc (.cells #[.int .u32 0, .int .u64 0] 80)) _ (by simp) (below_al HX3.out _)).mono ?_
    rintro e w4 ⟨G, rfl, HG, hb4⟩
    have HX4 : Veil (Below w.heap.size w w4) := ⟨alb_then (below_al HX3.out _) hb4⟩
    have HB4 : Veil _ := ⟨(hb4.block w.heap.size (by have := lt_of_heap HB3.out; simp only [World.size_alloc]; omega)).trans ((Below.heap_alloc _ _ _ (lt_of_heap HB3.out)).trans HB3.out)⟩
    have HC4 : Veil _ := ⟨(hb4.block (w.heap.size + 1) (by have := lt_of_heap HC3.out; simp only [World.size_alloc]; omega)).trans ((Below.heap_alloc _ _ _ (lt_of_heap HC3.out)).trans HC3.out)⟩
    obtain ⟨⟨s0, s1, s2⟩, k0, k1, k2⟩ := pack3 HB4.out
    obtain ⟨⟨z0, z1, z2⟩, g0, g1, g2⟩ := pack3 HC4.out
    clear hb4
    go_wp2
    have e := take_end (a := ⟨hi, hi, L⟩) HX4.out (turn_one (.slice (some ⟨G, 0, none⟩) L.length L.length) (.int .u32 hi) (.int .u32 hi) (.slice (some ⟨G, 0, none⟩) L.length L.length)) HG.out HB4.out HC4.out (by have h1 := HTO.out.2; rw [HTT.out] at h1; exact h1)
    refine bodyPost_ret (results_alloc3 (g := w.heap.size + 1) (y := .int .u32 0) (z := .int .i64 51) rfl rfl rfl rfl (set3 (set_ne HC4.out (by omega) _ _) _ _ _)) rfl ⟨some ⟨G, 0, none⟩, L.length, ?_, ?_, e.2⟩
    · rw [HTT.out]; rfl
    · rw [HTT.out]; exact e.1
  · have hne : ((hi : Int) == (mo : Int)) = false := by simpa using fun e => hfull (by omega)
    have HTT : Veil (T = ⟨⟨hi + 1, mo, L⟩, hi, 0⟩) := ⟨by have h2 := HT.out; rwa [if_neg hfull] at h2⟩
    clear hfull HT
    have HM : Veil (mo ≤ 16384 ∧ hi ≤ mo) := ⟨hm, hm2⟩
    have hw1 : IntKind.u32.wrap ((hi : Int) + 1) = (hi : Int) + 1 := by rw [IntKind.wrap_u32']; omega
    clear hm hm2
    go_enter Try.func31, Try.ntmps31
    go_wp2_with (first
      | (go_at_call 62; refine (HU.out _ HX2.out).mono ?_; rintro e w3 ⟨rfl, hb3⟩; have HX3 : Veil (Below w.heap.size w w3) := ⟨alb_then HX2.out hb3⟩; have HB3 : Veil _ := ⟨(hb3.block w.heap.size (lt_of_heap HB2.out)).trans HB2.out⟩; have HC3 : Veil _ := ⟨(hb3.block (w.heap.size + 1) (lt_of_heap HC2.out)).trans HC2.out⟩; obtain ⟨⟨r0, r1, r2⟩, f0, f1, f2⟩ := pack3 HB3.out; have hz3 : w.heap.size < w3.heap.size := lt_of_heap HB3.out; clear hb3)
      | (go_at_call 35; refine (HR.out _ (below_al (below_al (Below.refl _ _) _) _)).mono ?_; rintro e w2 ⟨rfl, hb2⟩; have HX2 : Veil (Below w.heap.size w w2) := ⟨alb_then (below_al (below_al (Below.refl _ _) _) _) hb2⟩; have HB2 : Veil _ := ⟨(hb2.block w.heap.size (by simp only [World.size_alloc]; omega)).trans (heap_alloc2_old _ _ _)⟩; have HC2 : Veil _ := ⟨(hb2.block (w.heap.size + 1) (by simp)).trans (heap_alloc2_new _ _ _)⟩; obtain ⟨⟨q0, q1, q2⟩, -⟩ := pack3 HB2.out; clear hb2))
    go_at_call 63
    refine (HJ.out (w3.alloc (.cells #[.int .u32 0, .int .u64 0] 80)) _ (by simp) (below_al HX3.out _)).mono ?_
    rintro e w4 ⟨G, rfl, HG, hb4⟩
    have HX4 : Veil (Below w.heap.size w w4) := ⟨alb_then (below_al HX3.out _) hb4⟩
    have HB4 : Veil _ := ⟨(hb4.block w.heap.size (by have := lt_of_heap HB3.out; simp only [World.size_alloc]; omega)).trans ((Below.heap_alloc _ _ _ (lt_of_heap HB3.out)).trans HB3.out)⟩
    have HC4 : Veil _ := ⟨(hb4.block (w.heap.size + 1) (by have := lt_of_heap HC3.out; simp only [World.size_alloc]; omega)).trans ((Below.heap_alloc _ _ _ (lt_of_heap HC3.out)).trans HC3.out)⟩
    obtain ⟨⟨s0, s1, s2⟩, k0, k1, k2⟩ := pack3 HB4.out
    obtain ⟨⟨z0, z1, z2⟩, g0, g1, g2⟩ := pack3 HC4.out
    clear hb4
    go_wp2
    have e := take_end (a := ⟨hi + 1, mo, L⟩) HX4.out (turn_two (.slice (some ⟨G, 0, none⟩) L.length L.length) (.int .u32 ((hi : Int) + 1)) (.int .u32 ((hi : Int) + 1)) (.int .u32 mo) (.slice (some ⟨G, 0, none⟩) L.length L.length)) HG.out HB4.out HC4.out (by have h1 := HTO.out.2; rw [HTT.out] at h1; exact h1)
    have hn1 : w.heap.size + 1 ≠ w.heap.size := by omega
    have hres := set3 (set_ne (set_ne HC4.out hn1 2 (.slice (some ⟨G, 0, none⟩) L.length L.length)) hn1 0 (.int .u32 ((hi : Int) + 1))) (.int .u32 ((hi : Int) + 1)) (.int .u32 mo) (.slice (some ⟨G, 0, none⟩) L.length L.length)
    refine bodyPost_ret (results_alloc3 (g := w.heap.size + 1) (y := .int .u32 hi) (z := .int .i64 0) rfl rfl rfl rfl hres) rfl ⟨some ⟨G, 0, none⟩, L.length, ?_, ?_, e.2⟩
    · rw [HTT.out]; rfl
    · rw [HTT.out]; exact e.1
end Go.Proofs.Ytapmppiiphbcpaa

/- The walk of Take where a spare is taken. -/
namespace Go.Proofs.Ytapmppiiphbcpaa
open Go Go.RowKit Sm
attribute [local go_sem] Oper.semAt_some

theorem erase_flat (L : List Sp) (p q : Option Addr) (k c1 c2 : Nat) (_hk : k < L.length) : flat [⟨p, c1, (L.drop 0).take k⟩, ⟨q, c2, (L.drop (k + 1)).take (L.length - (k + 1))⟩] 2 = L.eraseIdx k := by
  simp only [flat, List.take_succ_cons, List.take_zero, List.flatMap_cons, List.flatMap_nil, List.append_nil, List.drop_zero]
  rw [List.take_of_length_le (l := L.drop (k + 1)) (by simp), List.eraseIdx_eq_take_drop_succ]

theorem take_join2_of {w : World} {a : Al} {p : Option Addr} {c : Nat} (h : AlAt w a p c) (k : Nat) (hk : k < a.l.length) : Veil (∀ W g, g = W.heap.size → Below w.heap.size w W → Calls Try.prog 63 #[.slice (some ⟨g, 0, none⟩) 2 2] (W.alloc (.cells #[.slice (cutP p 0 k) k k, .slice (cutP p (k + 1) (a.l.length - (k + 1))) ((a.l.length - (k + 1) : Nat) : Nat) (a.l.length - (k + 1))] 57)) fun e w' => ∃ G, e = .returned (.slice (some ⟨G, 0, none⟩) (a.l.eraseIdx k).length (a.l.eraseIdx k).length) ∧ Veil (w.heap.size ≤ G ∧ w'.heap[G]? = some (.cells (spCells (a.l.eraseIdx k)).toArray 80 (0, 0))) ∧ Below W.heap.size W w') :=
  ⟨fun W g hg hW => by
    have e := erase_flat a.l (cutP p 0 k) (cutP p (k + 1) (a.l.length - (k + 1))) k k (a.l.length - (k + 1)) hk
    have l1 : ((a.l.drop 0).take k).length = k := by simp; omega
    have l2 : ((a.l.drop (k + 1)).take (a.l.length - (k + 1))).length = a.l.length - (k + 1) := by simp
    have := joined_new [⟨cutP p 0 k, k, (a.l.drop 0).take k⟩, ⟨cutP p (k + 1) (a.l.length - (k + 1)), a.l.length - (k + 1), (a.l.drop (k + 1)).take (a.l.length - (k + 1))⟩] (fun x hx => by
      rcases List.mem_cons.1 hx with rfl | hx
      · exact cutP_sps h.s 0 k (by omega)
      · rw [List.mem_singleton.1 hx]
        exact cutP_sps h.s (k + 1) (a.l.length - (k + 1)) (by omega)) (by simp) (by
        simp only [List.length_cons, List.length_nil, Nat.zero_add, Nat.reduceAdd]; rw [e]; have := h.ok.few; rw [List.length_eraseIdx]; split <;> omega) W hW g 2 #[.slice (cutP p 0 k) k k, .slice (cutP p (k + 1) (a.l.length - (k + 1))) ((a.l.length - (k + 1) : Nat) : Nat) (a.l.length - (k + 1))] hg rfl (by simp only [List.map_cons, List.map_nil, Ls.v, l1, l2])
    simp only [List.length_cons, List.length_nil, Nat.zero_add, Nat.reduceAdd] at this
    rwa [e] at this⟩

set_option maxRecDepth 20000 in
set_option maxHeartbeats 2000000 in
theorem take_found {w : World} {a : Al} {p : Option Addr} {c : Nat} (h : AlAt w a p c) (oldest : Nat) (hr : a.right = true) (hf : firstAt (old oldest) a.l < a.l.length) :
    Calls Try.prog 31 #[a.v p c, .int .u64 oldest] w (TakePost w (a.take oldest)) := by
  have HT : Veil (a.take oldest = ⟨⟨a.high, a.most, a.l.eraseIdx (firstAt (old oldest) a.l)⟩, (a.l.getD (firstAt (old oldest) a.l) Sp.zero).page, 0⟩) := ⟨by simp [Al.take, hr, hf]⟩
  have HTO : Veil ((a.take oldest).a.Ok) := ⟨(Al.take_ok h.ok oldest).1⟩
  have hs1 : 1 ≤ (a.l.getD (firstAt (old oldest) a.l) Sp.zero).tx := by
    have hm : a.l.getD (firstAt (old oldest) a.l) Sp.zero ∈ a.l := by rw [List.getD, List.getElem?_eq_getElem hf]; exact List.getElem_mem ..
    exact (rising_ge ((Al.right_iff a).1 hr).2 _ hm).2.2
  have HR := take_right_of h hr
  have HU := take_unread_of h oldest
  have HJ := take_join2_of h _ hf
  have HC1 : Veil (∀ W, Calls Try.prog 64 #[.slice p a.l.length c, .int .i64 0, .int .i64 ((firstAt (old oldest) a.l : Nat) : Int)] W fun e w' => e = .returned (.slice (cutP p 0 (firstAt (old oldest) a.l)) (firstAt (old oldest) a.l) (firstAt (old oldest) a.l)) ∧ W = w') := ⟨fun W => by
    have := acut_any (p := p) a.l.length c 0 (firstAt (old oldest) a.l) (by omega) h.len h.few h.none (fun a ha => (h.old a ha).2) W
    rwa [Nat.zero_add] at this⟩
  have HC2 : Veil (∀ W, Calls Try.prog 64 #[.slice p a.l.length c, .int .i64 ((firstAt (old oldest) a.l : Nat) + 1 : Int), .int .i64 a.l.length] W fun e w' => e = .returned (.slice (cutP p (firstAt (old oldest) a.l + 1) (a.l.length - (firstAt (old oldest) a.l + 1))) ((a.l.length - (firstAt (old oldest) a.l + 1) : Nat) : Nat) (a.l.length - (firstAt (old oldest) a.l + 1))) ∧ W = w') := ⟨fun W => by
    have := acut_any (p := p) a.l.length c (firstAt (old oldest) a.l + 1) (a.l.length - (firstAt (old oldest) a.l + 1)) (by omega) h.len h.few h.none (fun a ha => (h.old a ha).2) W
    rwa [show firstAt (old oldest) a.l + 1 + (a.l.length - (firstAt (old oldest) a.l + 1)) = a.l.length by omega] at this⟩
  rw [show unAt oldest a.l = firstAt (old oldest) a.l by simp [unAt, hf], show unSp oldest a.l = a.l.getD (firstAt (old oldest) a.l) Sp.zero by simp [unSp, hf]] at HU
  have hk6 : firstAt (old oldest) a.l ≤ 1000000 := by have := h.ok.few; omega
  clear h hr hf
  revert HT HTO hs1 HU HJ HC1 HC2 hk6
  generalize a.take oldest = T
  generalize a.l.getD (firstAt (old oldest) a.l) Sp.zero = s
  generalize firstAt (old oldest) a.l = k
  generalize a.l.eraseIdx k = M
  intro HT HTO hs1 HU HJ HC1 HC2 hk6
  obtain ⟨hi, mo, L⟩ := a
  obtain ⟨pg, tx⟩ := s
  unfold Al.v Sp.v at *
  dsimp only at *
  revert HJ HC1 HC2
  generalize L.length - (k + 1) = n2
  generalize cutP p 0 k = p1
  generalize cutP p (k + 1) n2 = p2
  intro HJ HC1 HC2
  have hne : ((tx : Int) == 0) = false := by simp; omega
  clear hs1
  go_enter Try.func31, Try.ntmps31
  go_wp2_with (first
      | (go_at_call 62; refine (HU.out _ HX2.out).mono ?_; rintro e w3 ⟨rfl, hb3⟩; have HX3 : Veil (Below w.heap.size w w3) := ⟨alb_then HX2.out hb3⟩; have HB3 : Veil _ := ⟨(hb3.block w.heap.size (lt_of_heap HB2.out)).trans HB2.out⟩; have HC3 : Veil _ := ⟨(hb3.block (w.heap.size + 1) (lt_of_heap HCC2.out)).trans HCC2.out⟩; obtain ⟨⟨r0, r1, r2⟩, f0, f1, f2⟩ := pack3 HB3.out; have hz3 : w.heap.size < w3.heap.size := lt_of_heap HB3.out; clear hb3)
      | (go_at_call 35; refine (HR.out _ (below_al (below_al (Below.refl _ _) _) _)).mono ?_; rintro e w2 ⟨rfl, hb2⟩; have HX2 : Veil (Below w.heap.size w w2) := ⟨alb_then (below_al (below_al (Below.refl _ _) _) _) hb2⟩; have HB2 : Veil _ := ⟨(hb2.block w.heap.size (by simp only [World.size_alloc]; omega)).trans (heap_alloc2_old _ _ _)⟩; have HCC2 : Veil _ := ⟨(hb2.block (w.heap.size + 1) (by simp)).trans (heap_alloc2_new _ _ _)⟩; obtain ⟨⟨q0, q1, q2⟩, -⟩ := pack3 HB2.out; clear hb2))
  obtain ⟨S3, hS3⟩ : ∃ S3, w3.heap.size = S3 := ⟨_, rfl⟩
  obtain ⟨W5, hW5⟩ : ∃ W5, (w3.alloc (.cells #[.int .u32 pg, .int .u64 tx] 80)).drew = W5 := ⟨_, rfl⟩
  have HX5 : Veil (Below w.heap.size w W5) := ⟨by rw [← hW5]; exact (below_al HX3.out _).drew⟩
  have HB5 : Veil (W5.heap[w.heap.size]? = some (.cells #[.int .u32 hi, .int .u32 mo, .slice p L.length c] 59 (0, 0))) := ⟨by rw [← hW5]; exact (Below.heap_alloc _ _ _ (lt_of_heap HB3.out)).trans HB3.out⟩
  have HC5 : Veil (W5.heap[w.heap.size + 1]? = some (.cells #[.int .u32 0, .int .u32 0, .slice none 0 0] 59 (0, 0))) := ⟨by rw [← hW5]; exact (Below.heap_alloc _ _ _ (lt_of_heap HC3.out)).trans HC3.out⟩
  have HS5 : Veil (W5.heap[S3]? = some (.cells #[.int .u32 pg, .int .u64 tx] 80 (0, 0))) := ⟨by rw [← hW5, ← hS3]; exact heap_alloc_new _ _⟩
  have HN : Veil (S3 ≠ w.heap.size ∧ S3 ≠ w.heap.size + 1) := ⟨by have h1 := lt_of_heap HB3.out; have h2 := lt_of_heap HC3.out; omega⟩
  rw [hS3]
  refine region_tail 12 (by kernel_rfl) (by kernel_rfl) W5 hW5 ?_
  clear hS3 hW5 HX2 HX3 HB2 HB3 HCC2 HC3 HU HR hz3 r0 r1 r2 f0 f1 f2 q0 q1 q2
  obtain ⟨⟨r0, r1, r2⟩, f0, f1, f2⟩ := pack3 HB5.out
  simp only [List.take_succ_cons, List.take_zero, List.drop_succ_cons, List.drop_zero]
  iterate 3 still_step
  still_call ((HC1.out _).mono fun _ _ h => ⟨h.1, h.2.symm⟩)
  have hwk : IntKind.i64.wrap ((k : Int) + 1) = (k : Int) + 1 := by rw [IntKind.wrap_i64]; omega
  iterate 7 still_step
  clear hwk
  still_call ((HC2.out _).mono fun _ _ h => ⟨h.1, h.2.symm⟩)
  refine wpStill_nil ?_
  go_wp2_with fail
  go_at_call 63
  refine (HJ.out _ _ rfl HX5.out).mono ?_
  rintro e w4 ⟨G, rfl, HG, hb4⟩
  have HX4 : Veil (Below w.heap.size w w4) := ⟨alb_then HX5.out hb4⟩
  have HB4 : Veil _ := ⟨(hb4.block w.heap.size (lt_of_heap HB5.out)).trans HB5.out⟩
  have HC4 : Veil _ := ⟨(hb4.block (w.heap.size + 1) (lt_of_heap HC5.out)).trans HC5.out⟩
  have HS4 : Veil _ := ⟨(hb4.block S3 (lt_of_heap HS5.out)).trans HS5.out⟩
  obtain ⟨⟨s0, s1, s2⟩, k0, k1, k2⟩ := pack3 HB4.out
  clear hb4 r0 r1 r2 f0 f1 f2 HJ HC1 HC2 HX5
  go_wp2
  refine only_normal ?_
  obtain ⟨W6, hW6⟩ : ∃ W6, w4.setCell ⟨w.heap.size, 2, none⟩ (.slice (some ⟨G, 0, none⟩) M.length M.length) = W6 := ⟨_, rfl⟩
  have HT6 : Veil (Turned (· = w.heap.size) w4 W6) := ⟨by rw [← hW6]; exact (Turned.refl (· = w.heap.size) w4).setCell (p := ⟨w.heap.size, 2, none⟩) rfl _⟩
  have HB6 : Veil (W6.heap[w.heap.size]? = some (.cells #[.int .u32 hi, .int .u32 mo, .slice (some ⟨G, 0, none⟩) M.length M.length] 59 (0, 0))) := ⟨by rw [← hW6]; exact heap_setCell_at HB4.out 2 _⟩
  rw [hW6]
  clear hW6 s0 s1 s2 k0 k1 k2
  go_wp2
  obtain ⟨W7, hW7⟩ : ∃ W7, W6.drew = W7 := ⟨_, rfl⟩
  have HT7 : Veil (Turned (fun j => j = w.heap.size ∨ j = w.heap.size + 1) w4 W7) := ⟨by rw [← hW7]; exact (HT6.out.wider (fun _ _ h => .inl h)).drew⟩
  have HB7 : Veil _ := ⟨(show W7.heap[w.heap.size]? = W6.heap[w.heap.size]? by rw [← hW7]; rfl).trans HB6.out⟩
  have HC7 : Veil _ := ⟨(show W7.heap[w.heap.size + 1]? = W6.heap[w.heap.size + 1]? by rw [← hW7]; rfl).trans (HT6.out.heap HC4.out (by omega))⟩
  have HS7 : Veil _ := ⟨(show W7.heap[S3]? = W6.heap[S3]? by rw [← hW7]; rfl).trans (HT6.out.heap HS4.out HN.out.1)⟩
  obtain ⟨⟨d0, d1⟩, -⟩ := pack2 HS7.out
  obtain ⟨⟨z0, z1, z2⟩, g0, g1, g2⟩ := pack3 HC7.out
  have HSS : Veil (W7.cell? ⟨w.heap.size, 0, none⟩ = some (.int .u32 hi) ∧ W7.cell? ⟨w.heap.size, 1, none⟩ = some (.int .u32 mo) ∧ W7.cell? ⟨w.heap.size, 2, none⟩ = some (.slice (some ⟨G, 0, none⟩) M.length M.length) ∧ W7.cell? ⟨S3, 0, none⟩ = some (.int .u32 pg)) := ⟨(pack3 HB7.out).1.1, (pack3 HB7.out).1.2.1, (pack3 HB7.out).1.2.2, d0⟩
  have hn3 : S3 ≠ w.heap.size + 1 := HN.out.2
  clear d0 d1
  refine region_plan 4 [(true, 0), (true, 1), (true, 2), (false, 3)] (by kernel_rfl) (by kernel_rfl) (fun w' => w'.cell? ⟨w.heap.size, 0, none⟩ = some (.int .u32 hi) ∧ w'.cell? ⟨w.heap.size, 1, none⟩ = some (.int .u32 mo) ∧ w'.cell? ⟨w.heap.size, 2, none⟩ = some (.slice (some ⟨G, 0, none⟩) M.length M.length) ∧ w'.cell? ⟨S3, 0, none⟩ = some (.int .u32 pg)) W7 hW7 HSS.out ?_
  clear hW7
  simp only [planOps, List.filterMap_cons, List.filterMap_nil, List.getElem?_toArray, List.getElem?_cons_zero, List.getElem?_cons_succ, Option.map_some]
  iterate 3 (refine plan_quiet rfl ?_ ?_ (fun K hK => ?_); rotate_left; (rintro w' ⟨s0, s1, s2, s3⟩; go_simp; rfl); (go_simp; refine hK _ ?_; clear hK K))
  refine plan_change (fun K hK => ?_)
  go_wp2
  refine hK _ _ ⟨?_, ?_, ?_, ?_⟩ ?_
  · go_simp; exact HSS.out.1
  · go_simp; exact HSS.out.2.1
  · go_simp; exact HSS.out.2.2.1
  · go_simp; exact HSS.out.2.2.2
  clear hK K
  refine wpPlan_nil ?_
  simp only [List.drop_succ_cons, List.drop_zero]
  go_wp2
  refine only_normal ?_
  go_wp2
  have hT : Turned (fun j => j = w.heap.size ∨ j = w.heap.size + 1) w4 (((W7.setCell ⟨w.heap.size + 1, 0, none⟩ (.int .u32 hi)).setCell ⟨w.heap.size + 1, 1, none⟩ (.int .u32 mo)).setCell ⟨w.heap.size + 1, 2, none⟩ (.slice (some ⟨G, 0, none⟩) M.length M.length)) :=
    ((HT7.out.setCell (p := ⟨w.heap.size + 1, 0, none⟩) (.inr rfl) _).setCell (p := ⟨w.heap.size + 1, 1, none⟩) (.inr rfl) _).setCell (p := ⟨w.heap.size + 1, 2, none⟩) (.inr rfl) _
  have e := take_end (a := ⟨hi, mo, M⟩) HX4.out hT HG.out HB4.out HC4.out (by have h1 := HTO.out; rw [HT.out] at h1; exact h1)
  have hres := set3 HC7.out (.int .u32 hi) (.int .u32 mo) (.slice (some ⟨G, 0, none⟩) M.length M.length)
  refine bodyPost_ret (results_alloc3 (g := w.heap.size + 1) (y := .int .u32 pg) (z := .int .i64 0) rfl rfl rfl rfl hres) rfl ⟨some ⟨G, 0, none⟩, M.length, ?_, ?_, e.2⟩
  · rw [HT.out]; rfl
  · rw [HT.out]; exact e.1

/-- Take, whatever the alloc. -/
theorem take_any {w : World} {a : Al} {p : Option Addr} {c : Nat} (h : AlAt w a p c) (oldest : Nat) :
    Calls Try.prog 31 #[a.v p c, .int .u64 oldest] w (TakePost w (a.take oldest)) := by
  cases hr : a.right
  · exact take_bad h oldest hr
  · by_cases hf : firstAt (old oldest) a.l < a.l.length
    · exact take_found h oldest hr hf
    · exact take_none h oldest hr hf
end Go.Proofs.Ytapmppiiphbcpaa
