/- The walk of add. -/
import Derived.RegionTactic
import Derived.ChangeAlike
import Derived.BigRegion
import Derived.RangeFuncCalls
import Derived.Shelf.Abstract
import Derived.BigFrameIn
import Derived.Test.YtapmppiiphbcpaaKS2
namespace Go.Proofs.Ytapmppiiphbcpaa.Sm
open Go.RowKit
attribute [local go_sem] Oper.semAt_some

def stepS (h : Nat × Nat) (c : UInt8) : Nat × Nat := ((h.1 + c.toNat) % 65521, (h.2 + (h.1 + c.toNat) % 65521) % 65521)
def addS (h : Nat × Nat) (s : List UInt8) : Nat × Nat := s.foldl stepS h
theorem addS_take (h : Nat × Nat) (s : List UInt8) (k : Nat) (hk : k < s.length) : addS h (s.take (k + 1)) = stepS (addS h (s.take k)) (s.getD k 0) := by
  unfold addS
  rw [List.take_succ_eq_append_getElem hk, List.foldl_append]
  simp [List.getD, hk]
theorem stepS_lt (h : Nat × Nat) (c : UInt8) : (stepS h c).1 < 65521 ∧ (stepS h c).2 < 65521 := ⟨Nat.mod_lt _ (by decide), Nat.mod_lt _ (by decide)⟩
theorem addS_lt (s : List UInt8) : ∀ (h : Nat × Nat), h.1 < 65521 ∧ h.2 < 65521 → (addS h s).1 < 65521 ∧ (addS h s).2 < 65521 := by
  induction s with
  | nil => exact fun h hh => hh
  | cons c s ih => exact fun h _ => ih _ (stepS_lt h c)

theorem keepsFrom_turned {F : Nat → Prop} {B : Nat} {A A' : World} (h : Turned F A A') (hF : ∀ k, F k → k < B ∨ ∃ c t fr, A.heap[k]? = some (.cells c t fr)) : KeepsFrom B A A' :=
  ⟨h.size, fun k o hB hk ho => h.heap hk fun hf => by
    rcases hF k hf with hlt | ⟨c, t, fr, hc⟩
    · omega
    · rw [hc] at hk; cases hk; cases ho⟩
theorem keepsFrom_new {B : Nat} {A A' : World} (h : Turned (fun _ => False) A A') : KeepsFrom B A A' := keepsFrom_turned h fun _ h => h.elim

structure Veil (p : Prop) : Prop where
  out : p

/-- Behind the first statements. -/
structure AddI (w : World) (n Ba Bb : Nat) (h : Nat × Nat) (A : World) : Prop where
  a : A.heap[Ba]? = some (.cells #[.int .u32 h.1] 46 (0, 0))
  b : A.heap[Bb]? = some (.cells #[.int .u32 h.2] 46 (0, 0))
  c : A.heap[w.heap.size + 1]? = some (.cells #[.int .i64 n] 3 (0, 0))
  r : A.heap[w.heap.size + 2]? = some (.cells #[.int .u32 0, .int .u32 0] 156 (0, 0))
  t : Turned (fun _ => False) w A
theorem AddI.booked {w : World} {n Ba Bb B : Nat} {h : Nat × Nat} {A A' : World} (x : AddI w n Ba Bb h A) (hb : Booked B A A') (hB : w.heap.size ≤ B) : AddI w n Ba Bb h A' :=
  ⟨hb.heap x.a, hb.heap x.b, hb.heap x.c, hb.heap x.r, hb.turned x.t hB⟩
theorem AddI.new {w : World} {n Ba Bb : Nat} {h : Nat × Nat} {A A' : World} (x : AddI w n Ba Bb h A) (hb : Turned (fun _ => False) A A') : AddI w n Ba Bb h A' :=
  ⟨hb.heap x.a (fun h => h), hb.heap x.b (fun h => h), hb.heap x.c (fun h => h), hb.heap x.r (fun h => h), x.t.trans hb⟩
/-- Whatever is stored into the two. -/
theorem AddI.set {w : World} {n Ba Bb : Nat} {h h' : Nat × Nat} {A : World} (x : AddI w n Ba Bb h A) (_ : Ba ≠ Bb) (ha : w.heap.size + 2 < Ba) (hb : w.heap.size + 2 < Bb) {A' : World} (ht : Turned (fun k => k = Ba ∨ k = Bb) A A')
    (h1 : A'.heap[Ba]? = some (.cells #[.int .u32 h'.1] 46 (0, 0))) (h2 : A'.heap[Bb]? = some (.cells #[.int .u32 h'.2] 46 (0, 0))) : AddI w n Ba Bb h' A' :=
  ⟨h1, h2, ht.heap x.c (by omega), ht.heap x.r (by omega), x.t.then ht (fun k hk hf => by omega)⟩

theorem set0 {w : World} {b : Nat} {x v : Value} {t : TypeId} {fr : Nat × Nat} (h : w.heap[b]? = some (.cells #[x] t fr)) : (w.setCell ⟨b, 0, none⟩ v).heap[b]? = some (.cells #[v] t fr) := heap_setCell_at h 0 v
theorem set1 {w : World} {b g : Nat} {v : Value} {o : Obj} (hb : b ≠ g) (h : w.heap[b]? = some o) : (w.setCell ⟨g, 0, none⟩ v).heap[b]? = some o := by rw [Below.heap_setCell _ _ _ _ hb]; exact h
/-- What the two hold behind some stores. -/
structure Two (Ba Bb : Nat) (A A' : World) (v1 v2 : Int) : Prop where
  t : Turned (fun k => k = Ba ∨ k = Bb) A A'
  a : A'.heap[Ba]? = some (.cells #[.int .u32 v1] 46 (0, 0))
  b : A'.heap[Bb]? = some (.cells #[.int .u32 v2] 46 (0, 0))
theorem AddI.two {w : World} {n Ba Bb : Nat} {h : Nat × Nat} {A : World} (x : AddI w n Ba Bb h A) : Two Ba Bb A A h.1 h.2 := ⟨Turned.refl _ _, x.a, x.b⟩
theorem Two.seta {Ba Bb : Nat} {A A' : World} {v1 v2 : Int} (x : Two Ba Bb A A' v1 v2) (hab : Ba ≠ Bb) (v : Int) : Two Ba Bb A (A'.setCell ⟨Ba, 0, none⟩ (.int .u32 v)) v v2 :=
  ⟨x.t.setCell (p := ⟨Ba, 0, none⟩) (.inl rfl) _, set0 x.a, set1 (Ne.symm hab) x.b⟩
theorem Two.setb {Ba Bb : Nat} {A A' : World} {v1 v2 : Int} (x : Two Ba Bb A A' v1 v2) (hab : Ba ≠ Bb) (v : Int) : Two Ba Bb A (A'.setCell ⟨Bb, 0, none⟩ (.int .u32 v)) v1 v :=
  ⟨x.t.setCell (p := ⟨Bb, 0, none⟩) (.inr rfl) _, set1 hab x.a, set0 x.b⟩
theorem AddI.leaf {w : World} {n Ba Bb : Nat} {h h' : Nat × Nat} {A : World} (x : AddI w n Ba Bb h A) (hab : Ba ≠ Bb) (ha : w.heap.size + 2 < Ba) (hb : w.heap.size + 2 < Bb) {A' : World} {v1 v2 : Int} (y : Two Ba Bb A A' v1 v2) (e1 : v1 = (h'.1 : Nat)) (e2 : v2 = (h'.2 : Nat))
    {B k m : Nat} {o : Obj} (hk : A.heap[k]? = some o) (hka : k ≠ Ba) (hkb : k ≠ Bb) (hm : m < n) : KeepsFrom B A A' ∧ m + 1 ≤ n ∧ AddI w n Ba Bb h' A' ∧ A'.heap[k]? = some o := by
  subst e1 e2
  refine ⟨keepsFrom_turned y.t ?_, hm, x.set hab ha hb y.t y.a y.b, y.t.heap hk (by omega)⟩
  rintro j (rfl | rfl)
  · exact .inr ⟨_, _, _, x.a⟩
  · exact .inr ⟨_, _, _, x.b⟩

theorem leaf1 {g : Nat × Nat} {x1 x2 : Nat} {c : UInt8} {X1 X2 C v : Int} (ht : g = stepS (x1, x2) c) (he : (x1 : Int) = X1 ∧ (x2 : Int) = X2 ∧ (c.toNat : Int) = C) (hv : v = (X1 + C) % 65521) : v = (g.1 : Nat) := by
  obtain ⟨h1, h2, h3⟩ := he
  subst ht h1 h2 h3
  simp [stepS, hv]
theorem leaf2 {g : Nat × Nat} {x1 x2 : Nat} {c : UInt8} {X1 X2 C v : Int} (ht : g = stepS (x1, x2) c) (he : (x1 : Int) = X1 ∧ (x2 : Int) = X2 ∧ (c.toNat : Int) = C) (hv : v = (X2 + (X1 + C) % 65521) % 65521) : v = (g.2 : Nat) := by
  obtain ⟨h1, h2, h3⟩ := he
  subst ht h1 h2 h3
  simp [stepS, hv]

theorem heaps5 (w : World) (o1 o2 o3 o4 o5 : Obj) : Turned (fun _ => False) w (((((w.alloc o1).alloc o2).alloc o3).alloc o4).alloc o5).drew ∧ (((((w.alloc o1).alloc o2).alloc o3).alloc o4).alloc o5).drew.heap.size = w.heap.size + 5
    ∧ (((((w.alloc o1).alloc o2).alloc o3).alloc o4).alloc o5).drew.heap[w.heap.size + 1]? = some o2 ∧ (((((w.alloc o1).alloc o2).alloc o3).alloc o4).alloc o5).drew.heap[w.heap.size + 2]? = some o3
    ∧ (((((w.alloc o1).alloc o2).alloc o3).alloc o4).alloc o5).drew.heap[w.heap.size + 3]? = some o4 ∧ (((((w.alloc o1).alloc o2).alloc o3).alloc o4).alloc o5).drew.heap[w.heap.size + 4]? = some o5 := by
  refine ⟨(((((Turned.refl _ w).alloc _).alloc _).alloc _).alloc _ |>.alloc _).drew, by simp, ?_, ?_, ?_, ?_⟩ <;>
  · rw [heap_drew]
    simp only [heap_alloc_if, World.size_alloc]
    repeat (first | rw [if_neg (by omega)] | rw [if_pos (by first | trivial | omega)])

set_option maxHeartbeats 2000000 in
set_option maxRecDepth 10000 in
theorem add_any (h : Nat × Nat) (h1 : h.1 < 65521) (h2 : h.2 < 65521) (s : List UInt8) (hs : s.length ≤ 9223372036854775807) (n : Nat) (hn : n ≤ s.length) (w : World) :
    Calls Try.prog 96 #[halvesv h, .string ⟨s.toArray⟩, .int .i64 n] w fun e w' => e = .returned (halvesv (addS h (s.take n))) ∧ Below w.heap.size w w' := by
  refine calls_of_wp_marks Try.func96 rfl ?_
  simp only [Try.ntmps96, List.size_toArray, List.length_cons, List.length_nil, Nat.reduceAdd, Nat.reduceSub, Array.replicate_succ, Array.replicate_zero, List.push_toArray, List.append_toArray, List.nil_append, List.cons_append]
  unfold halvesv u32v
  go_wp2
  go_step3
  go_wp2
  go_region
  all_goals
    have H5 := heaps5 w (Obj.cells #[Value.int IntKind.u32 ↑h.fst, Value.int IntKind.u32 ↑h.snd] 156) (Obj.cells #[Value.int IntKind.i64 ↑n] 3) (Obj.cells #[Value.int IntKind.u32 0, Value.int IntKind.u32 0] 156)
  focus
    have H5' := H5 (Obj.cells #[Value.int IntKind.u32 ↑h.fst] 46) (Obj.cells #[Value.int IntKind.u32 ↑h.snd] 46)
    clear H5
    revert H5'
    generalize (((((w.alloc (Obj.cells #[Value.int IntKind.u32 ↑h.fst, Value.int IntKind.u32 ↑h.snd] 156)).alloc (Obj.cells #[Value.int IntKind.i64 ↑n] 3)).alloc (Obj.cells #[Value.int IntKind.u32 0, Value.int IntKind.u32 0] 156)).alloc (Obj.cells #[Value.int IntKind.u32 ↑h.fst] 46)).alloc (Obj.cells #[Value.int IntKind.u32 ↑h.snd] 46)).drew = W
    rintro ⟨hT, hZ, hc, hr, ha, hb⟩
    obtain ⟨Ba, eBa⟩ : ∃ Ba, w.heap.size + 1 + 1 + 1 = Ba := ⟨_, rfl⟩
    obtain ⟨Bb, eBb⟩ : ∃ Bb, Ba + 1 = Bb := ⟨_, rfl⟩
    rw [eBa, eBb]
    have hI : AddI w n Ba Bb h W := ⟨by rw [← eBa]; exact ha, by rw [← eBb, ← eBa]; exact hb, hc, hr, hT⟩
  rotate_left
  focus
    have H5' := H5 (Obj.cells #[Value.int IntKind.u32 ↑h.snd] 46) (Obj.cells #[Value.int IntKind.u32 ↑h.fst] 46)
    clear H5
    revert H5'
    generalize (((((w.alloc (Obj.cells #[Value.int IntKind.u32 ↑h.fst, Value.int IntKind.u32 ↑h.snd] 156)).alloc (Obj.cells #[Value.int IntKind.i64 ↑n] 3)).alloc (Obj.cells #[Value.int IntKind.u32 0, Value.int IntKind.u32 0] 156)).alloc (Obj.cells #[Value.int IntKind.u32 ↑h.snd] 46)).alloc (Obj.cells #[Value.int IntKind.u32 ↑h.fst] 46)).drew = W
    rintro ⟨hT, hZ, hc, hr, hb, ha⟩
    obtain ⟨Bb, eBb⟩ : ∃ Bb, w.heap.size + 1 + 1 + 1 = Bb := ⟨_, rfl⟩
    obtain ⟨Ba, eBa⟩ : ∃ Ba, Bb + 1 = Ba := ⟨_, rfl⟩
    rw [eBb, eBa]
    have hI : AddI w n Ba Bb h W := ⟨by rw [← eBa, ← eBb]; exact ha, by rw [← eBb]; exact hb, hc, hr, hT⟩
  all_goals
    have hab : Ba ≠ Bb := by omega
    have hga : w.heap.size + 2 < Ba := by omega
    have hgb : w.heap.size + 2 < Bb := by omega
    have hla : Ba < w.heap.size + 5 := by omega
    have hlb : Bb < w.heap.size + 5 := by omega
    clear eBa eBb ha hb hc hr hT
    have HI := Lib.hid hI
    clear hI
    go_wp2
    go_step3
    go_wp2_with (go_at_call 104; refine (each_any s _).mono ?_; rintro e w1 ⟨rfl, hw1⟩)
    have hbel : Below W.heap.size W w1 := by rw [← hw1]; exact below_al (Below.refl _ _) _
    have hx1 : w1.heap[w.heap.size + 5]? = some (.cells #[.string ⟨s.toArray⟩] 9 (0, 0)) := by rw [← hw1, ← hZ]; exact heap_alloc_new _ _
    have hI1 : AddI w n Ba Bb h w1 := HI.out.new (Turned.new hbel)
    have hs1 : w.heap.size + 6 ≤ w1.heap.size := by rw [← hw1]; simp; omega
    clear hw1 hbel HI hZ
    refine wp_range_break (gf := 108) (lb := #[.pointer (some ⟨w.heap.size + 5, 0, none⟩)]) rfl (enters_of Try.func108 (by kernel_rfl) rfl)
      (each_seq (w.heap.size + 5) s hs) (fun k => rfl)
      (fun k A => k ≤ n ∧ AddI w n Ba Bb (addS h (s.take k)) A ∧ A.heap[w.heap.size + 5]? = some (.cells #[.string ⟨s.toArray⟩] 9 (0, 0)))
      (AddI w n Ba Bb (addS h (s.take n))) ?hI ?hIx ?hF ?h0 ?hN ?hround ?hend
    case hI => rintro k A A' ⟨h1, h2, h3⟩ hb; exact ⟨h1, h2.booked hb (by omega), hb.heap h3⟩
    case hIx => intro A A' h2 hb; exact h2.booked hb (by omega)
    case hF => rintro k A ⟨_, _, h⟩; simp [World.cell?, h]
    case h0 => exact ⟨Nat.zero_le _, hI1, hx1⟩
    case hN => rintro A ⟨h1, h2, -⟩; obtain rfl : s.length = n := by omega
               exact h2
    case hround =>
      rintro l m k A hl hlt ⟨hkn, hi, hx⟩
      simp only [hands, List.zip_cons_cons, List.zip_nil_right, List.foldl_cons, List.foldl_nil, List.setIfInBounds_toArray, List.set_cons_succ, List.set_cons_zero]
      gi_wp2
      refine ⟨KeepsFrom.refl _ _, fun A2 hbk hsz => ?_⟩
      have hi2 := hi.booked hbk (by omega)
      have hx2 := hbk.heap hx
      clear hi hx hbk hsz hI1 hx1
      have ca : A2.cell? ⟨Ba, 0, none⟩ = some (.int .u32 (addS h (s.take k)).1) := by simp [World.cell?, hi2.a]
      have cb : A2.cell? ⟨Bb, 0, none⟩ = some (.int .u32 (addS h (s.take k)).2) := by simp [World.cell?, hi2.b]
      have cn : A2.cell? ⟨w.heap.size + 1, 0, none⟩ = some (.int .i64 n) := by simp [World.cell?, hi2.c]
      have fa : A2.frozen? ⟨Ba, 0, none⟩ = false := frozen_whole hi2.a _
      have fb : A2.frozen? ⟨Bb, 0, none⟩ = false := frozen_whole hi2.b _
      have hst := addS_take h s k hlt
      have hx12 := addS_lt (s.take k) h ⟨h1, h2⟩
      have HI2 := Lib.hid hi2
      have HX2 := Lib.hid hx2
      have HST := Lib.hid hst
      clear hi2 hx2 hst
      by_cases hkl : k = n
      · subst hkl
        clear hx12
        gi_wp2
        exact ⟨KeepsFrom.refl _ _, rfl, HI2.out⟩
      · have hkn2 : k < n := by omega
        clear hkl
        revert HI2 HST ca cb hx12
        generalize addS h (s.take k) = x
        generalize s.getD k 0 = c
        obtain ⟨x1, x2⟩ := x
        intro ca cb hx12 HI2 HST
        obtain ⟨hx1, hx2⟩ := hx12
        simp only at ca cb hx1 hx2
        have hc : c.toNat < 256 := c.toNat_lt
        obtain ⟨X1, hX1⟩ : ∃ X1 : Int, (x1 : Int) = X1 := ⟨_, rfl⟩
        obtain ⟨X2, hX2⟩ : ∃ X2 : Int, (x2 : Int) = X2 := ⟨_, rfl⟩
        obtain ⟨C, hC⟩ : ∃ C : Int, (c.toNat : Int) = C := ⟨_, rfl⟩
        have b1 : 0 ≤ X1 ∧ X1 < 65521 := by omega
        have b2 : 0 ≤ X2 ∧ X2 < 65521 := by omega
        have b3 : 0 ≤ C ∧ C < 256 := by omega
        obtain ⟨b1, b1'⟩ := b1
        obtain ⟨b2, b2'⟩ := b2
        obtain ⟨b3, b3'⟩ := b3
        have HE : Veil ((x1 : Int) = X1 ∧ (x2 : Int) = X2 ∧ (c.toNat : Int) = C) := ⟨hX1, hX2, hC⟩
        have HT : Veil (addS h (s.take (k + 1)) = stepS (x1, x2) c) := ⟨HST.out⟩
        rw [hX1] at ca
        rw [hX2] at cb
        rw [hC]
        clear hX1 hX2 hC hx1 hx2 hc h1 h2 hs hlt hkn hl hs1 HST
        have HT2 := Lib.hid HI2.out.two
        have h4 : (X1 + C < 65521 ∧ X2 + (X1 + C) < 65521) ∨ (X1 + C < 65521 ∧ ¬ X2 + (X1 + C) < 65521) ∨ (¬ X1 + C < 65521 ∧ X2 + (X1 + C - 65521) < 65521) ∨ (¬ X1 + C < 65521 ∧ ¬ X2 + (X1 + C - 65521) < 65521) := by omega
        rcases h4 with ⟨hA, hB⟩ | ⟨hA, hB⟩ | ⟨hA, hB⟩ | ⟨hA, hB⟩
        all_goals
          gi_wp2
        · exact HI2.out.leaf hab hga hgb (((HT2.out.seta hab _).setb hab _)) (leaf1 HT.out HE.out (by omega)) (leaf2 HT.out HE.out (by omega)) HX2.out (by omega) (by omega) hkn2
        · exact HI2.out.leaf hab hga hgb (((HT2.out.seta hab _).setb hab _).setb hab _) (leaf1 HT.out HE.out (by omega)) (leaf2 HT.out HE.out (by omega)) HX2.out (by omega) (by omega) hkn2
        · exact HI2.out.leaf hab hga hgb (((HT2.out.seta hab _).seta hab _).setb hab _) (leaf1 HT.out HE.out (by omega)) (leaf2 HT.out HE.out (by omega)) HX2.out (by omega) (by omega) hkn2
        · exact HI2.out.leaf hab hga hgb ((((HT2.out.seta hab _).seta hab _).setb hab _).setb hab _) (leaf1 HT.out HE.out (by omega)) (leaf2 HT.out HE.out (by omega)) HX2.out (by omega) (by omega) hkn2
    case hend =>
      rintro Dd A hDd hi hdd
      have ca : A.cell? ⟨Ba, 0, none⟩ = some (.int .u32 (addS h (s.take n)).1) := by simp [World.cell?, hi.a]
      have cb : A.cell? ⟨Bb, 0, none⟩ = some (.int .u32 (addS h (s.take n)).2) := by simp [World.cell?, hi.b]
      have c0 : A.cell? ⟨w.heap.size + 1 + 1, 0, none⟩ = some (.int .u32 0) := by simp [World.cell?, hi.r]
      have c1 : A.cell? ⟨w.heap.size + 1 + 1, 1, none⟩ = some (.int .u32 0) := by simp [World.cell?, hi.r]
      have f0 : A.frozen? ⟨w.heap.size + 1 + 1, 0, none⟩ = false := frozen_whole hi.r _
      have f1 : A.frozen? ⟨w.heap.size + 1 + 1, 1, none⟩ = false := frozen_whole hi.r _
      have HI2 := Lib.hid hi
      have HD := Lib.hid hdd
      clear hi hdd h1 h2 hI1 hx1 hs
      go_wp2
      rw [Exit.noGoto_ret]
      have hr := heap_setCell_at (heap_setCell_at HI2.out.r 0 (Value.int IntKind.u32 ↑(addS h (List.take n s)).fst)) 1 (Value.int IntKind.u32 ↑(addS h (List.take n s)).snd)
      have hT : Turned (· = w.heap.size + 2) A ((A.setCell ⟨w.heap.size + 1 + 1, 0, none⟩ (Value.int IntKind.u32 ↑(addS h (List.take n s)).fst)).setCell ⟨w.heap.size + 1 + 1, 1, none⟩ (Value.int IntKind.u32 ↑(addS h (List.take n s)).snd)) := ((Turned.refl (· = w.heap.size + 2) A).setCell (p := ⟨w.heap.size + 1 + 1, 0, none⟩) rfl _).setCell (p := ⟨w.heap.size + 1 + 1, 1, none⟩) rfl _
      have hT2 := HI2.out.t.then hT (fun j hj e => by omega)
      refine leaves_mark (D := Dd) (B := w1.heap.size) (hT.heap HD.out (by omega)) hDd ?_
      intro w' hb _
      refine leaves_none (results_pair (g := w.heap.size + 1 + 1) rfl (hb.heap hr) rfl Try.underlying156 size_halves) ?_
      exact ⟨rfl, (hb.turned hT2 (by omega)).toBelow (Nat.le_refl _) (fun _ _ h => h.elim)⟩
end Go.Proofs.Ytapmppiiphbcpaa.Sm

/- The walks of text, sums, sealed, Clone: the small functions round the sums. -/
namespace Go.Proofs.Ytapmppiiphbcpaa.Sm
open Go.RowKit
attribute [local go_sem] Oper.semAt_some

/-- The text of bytes that a slice holds. -/
theorem text_any (b off cap : Nat) (s : List UInt8) (w : World) (hr : w.rangeAt b off (u8s s)) : Calls Try.prog 86 #[.slice (some ⟨b, off, none⟩) s.length cap] w fun e w' => e = .returned (.string ⟨s.toArray⟩) ∧ w = w' := by
  have hcv := run_convert_u8s (P := Try.prog) w 104 9 5 Try.underlying104 Try.underlying5 Try.underlying9 b off cap s hr
  clear hr
  go_enter Try.func86, Try.ntmps86
  go_wp2
  go_ret
  exact ⟨rfl, rfl⟩

def okS (n : Nat) : Bool := decide (n % 65536 < 65521) && decide (n / 65536 < 65521)
theorem okS_true {n : Nat} (h : okS n = true) : n % 65536 < 65521 ∧ n / 65536 < 65521 := by simpa [okS] using h
theorem split_ints (n : Nat) (hn : n < 4294967296) (w : World) : Calls Try.prog 95 #[.int .u32 n] w fun e w' => ∃ X Y : Int, e = .returned (.agg #[.int .u32 X, .int .u32 Y]) ∧ Veil (X = (n % 65536 : Nat) ∧ Y = (n / 65536 : Nat)) ∧ Below w.heap.size w w' :=
  (split_any n hn w).mono fun _ _ ⟨he, hb⟩ => ⟨_, _, he, ⟨rfl, rfl⟩, hb⟩
theorem okS_of {n : Nat} {X Y : Int} (h : Veil (X = (n % 65536 : Nat) ∧ Y = (n / 65536 : Nat))) : (okS n = true ↔ X < 65521 ∧ Y < 65521) := by
  obtain ⟨⟨rfl, rfl⟩⟩ := h
  simp [okS]
  omega
theorem all_take_succ (f : Nat → Bool) (ns : List Nat) (k : Nat) (h : k < ns.length) : (ns.take (k + 1)).all f = ((ns.take k).all f && f (ns.getD k 0)) := by
  rw [List.take_succ_eq_append_getElem h, List.all_append]; simp [List.getD, h]

theorem all_bad {ns : List Nat} {k n : Nat} (h2 : (ns.take (k + 1)).all okS = ((ns.take k).all okS && okS n)) (hf : okS n = false) : ns.all okS = false := by
  rw [hf, Bool.and_false] at h2
  cases h3 : ns.all okS
  · rfl
  · have := List.all_eq_true.1 h3
    rw [List.all_eq_true.2 (fun x hx => this x (List.mem_of_mem_take hx))] at h2
    cases h2

end Go.Proofs.Ytapmppiiphbcpaa.Sm
