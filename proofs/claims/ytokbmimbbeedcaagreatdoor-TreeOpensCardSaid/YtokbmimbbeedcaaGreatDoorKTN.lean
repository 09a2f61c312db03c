/- Trees, by the program: what stands between the operations of lay. -/
import Derived.LoopN
import Derived.Test.YtokbmimbbeedcaaGreatDoorKTD
import Derived.Test.YtokbmimbbeedcaaGreatDoorKV1
import Derived.Test.YtokbmimbbeedcaaGreatDoorKOG
import Derived.Test.YtokbmimbbeedcaaGreatDoorKG
namespace Go.Proofs.YtokbmimbbeedcaaGreatDoor
open Go Go.RowKit Sm
attribute [local go_sem] Oper.semAt_some

/-- What turns is none of a change's blocks. -/
def ApartC (C Wb : Nat) (k : Wk) (c : Ch) (F : Nat → Prop) : Prop := ∀ x, F x → x ≠ C ∧ x ≠ Wb ∧ x ≠ c.bp ∧ x ≠ k.bo ∧ ∀ a, c.p = some a → a.block ≠ x
theorem AlAt.turned {w w' : World} {F : Nat → Prop} {a : Al} {p : Option Addr} {c : Nat} (h : AlAt w a p c) (ht : Turned F w w') (ho : ∀ b, p = some b → ¬ F b.block) : AlAt w' a p c :=
  ⟨h.s.turned ht ho, fun b hb => ⟨Nat.lt_of_lt_of_le (h.old b hb).1 ht.size, (h.old b hb).2⟩, h.len, h.few, h.none, h.ok⟩
theorem ChAt.apart {w w' : World} {C Wb : Nat} {k : Wk} {c : Ch} {F : Nat → Prop} (h : ChAt w C Wb k c) (ht : Turned F w w') (hF : ApartC C Wb k c F) : ChAt w' C Wb k c := by
  refine ⟨ht.heap h.cb (fun e => (hF _ e).1 rfl), ?_, h.al.turned ht (fun b hb e => (hF _ e).2.2.2.2 b hb rfl), h.pages.turned ht (fun e => (hF _ e).2.2.1 rfl), h.own.turned ht (fun e => (hF _ e).2.2.2.1 rfl), h.old, h.ne⟩
  obtain ⟨root, al, p, cp, told, hw⟩ := h.wb
  exact ⟨root, al, p, cp, told, ht.heap hw (fun e => (hF _ e).2.1 rfl)⟩
/-- The step above, its lists in blocks of their own: none of the change's blocks, nor of each other. -/
structure Abv (C Wb : Nat) (k : Wk) (c : Ch) (S at' B : Nat) (u1 u2 u3 : Value) (ks : List (List UInt8)) (ds : List Nat) (A : World) : Prop where
  s : A.heap[S]? = some (.cells #[u1, u2, u3, .int .i64 at'] 94 (0, 0))
  ok : OwnE elK A B u2 ks
  od : OwnE elD A B u3 ds
  kd : ∀ j, u2.ownBlock = some j → u3.ownBlock ≠ some j
  ap : ApartC C Wb k c (fun x => x = S ∨ u2.ownBlock = some x ∨ u3.ownBlock = some x)
  ne : ∀ x, (u2.ownBlock = some x ∨ u3.ownBlock = some x) → x ≠ S
theorem Abv.turned {C Wb : Nat} {k : Wk} {c c' : Ch} {S at' B : Nat} {u1 u2 u3 : Value} {ks : List (List UInt8)} {ds : List Nat} {A A' : World} {F : Nat → Prop} (h : Abv C Wb k c S at' B u1 u2 u3 ks ds A) (ht : Turned F A A') (hF : ∀ x, F x → x = C ∨ x = c.bp) (hb : c'.bp = c.bp) (hp : ∀ a, c'.p = some a → c.p = some a ∨ A.heap.size ≤ a.block) : Abv C Wb k c' S at' B u1 u2 u3 ks ds A' := by
  have hf : ∀ x, (x = S ∨ u2.ownBlock = some x ∨ u3.ownBlock = some x) → ¬ F x := fun x hx e => by
    have := h.ap x hx
    rcases hF x e with e | e
    · exact this.1 e
    · exact this.2.2.1 e
  refine ⟨ht.heap h.s (hf S (.inl rfl)), h.ok.kept ht (fun x hx => hf x (.inr (.inl hx))), h.od.kept ht (fun x hx => hf x (.inr (.inr hx))), h.kd, fun x hx => ?_, h.ne⟩
  obtain ⟨a1, a2, a3, a4, a5⟩ := h.ap x hx
  refine ⟨a1, a2, by rw [hb]; exact a3, a4, fun a ha e => ?_⟩
  have hlt : x < A.heap.size := by
    rcases hx with rfl | hx | hx
    · exact lt_of_heap h.s
    · exact (h.ok.lt hx).2
    · exact (h.od.lt hx).2
  rcases hp a ha with h1 | h1
  · exact a5 a h1 e
  · omega
theorem Abv.below {C Wb : Nat} {k : Wk} {c : Ch} {S at' B : Nat} {u1 u2 u3 : Value} {ks : List (List UInt8)} {ds : List Nat} {A A' : World} (h : Abv C Wb k c S at' B u1 u2 u3 ks ds A) (hb : Below A.heap.size A A') : Abv C Wb k c S at' B u1 u2 u3 ks ds A' :=
  h.turned (Turned.new hb : Turned (fun _ => False) A A') (fun _ e => e.elim) rfl (fun _ ha => .inl ha)
/-- Between the operations of lay. -/
structure LyI (w : World) (C Wb : Nat) (k : Wk) (c0 c : Ch) (S at' B : Nat) (u1 u2 u3 : Value) (ks : List (List UInt8)) (ds : List Nat) (A : World) : Prop where
  ch : ChAt A C Wb k c
  ab : Abv C Wb k c S at' B u1 u2 u3 ks ds A
  t : Turned (fun x => x = C ∨ x = c0.bp) w A
  pn : ∀ a, c.p = some a → c0.p = some a ∨ w.heap.size ≤ a.block
  bp : c.bp = c0.bp
section
variable {w : World} {C Wb : Nat} {k : Wk} {c0 c c' : Ch} {S at' B : Nat} {u1 u2 u3 : Value} {ks : List (List UInt8)} {ds : List Nat} {A A' : World}
theorem LyI.below (h : LyI w C Wb k c0 c S at' B u1 u2 u3 ks ds A) (hb : Below A.heap.size A A') : LyI w C Wb k c0 c S at' B u1 u2 u3 ks ds A' :=
  ⟨h.ch.below hb, h.ab.below hb, h.t.trans (Turned.new hb), h.pn, h.bp⟩
theorem LyI.wrote (h : LyI w C Wb k c0 c S at' B u1 u2 u3 ks ds A) (hn : ChN A c A' C Wb k c') (ht : Turned (fun x => x = C ∨ x = c.bp) A A') (hb : c'.bp = c.bp) : LyI w C Wb k c0 c' S at' B u1 u2 u3 ks ds A' :=
  ⟨hn.it, h.ab.turned ht (fun _ e => e) hb hn.new, h.t.trans (ht.wider fun x _ e => by rw [h.bp] at e; exact e), fun a ha => by
    rcases hn.new a ha with h1 | h1
    · exact h.pn a h1
    · exact .inr (Nat.le_trans h.t.size h1), hb.trans h.bp⟩
theorem LyI.cells (h : LyI w C Wb k c0 c S at' B u1 u2 u3 ks ds A) : A.cell? ⟨S, 1, none⟩ = some u2 ∧ A.cell? ⟨S, 2, none⟩ = some u3 ∧ A.cell? ⟨S, 3, none⟩ = some (.int .i64 at') ∧ (A.frozen? ⟨S, 1, none⟩ = false ∧ A.frozen? ⟨S, 2, none⟩ = false) :=
  ⟨cell_whole (cur := [_, _, _, _]) h.ab.s 1, cell_whole (cur := [_, _, _, _]) h.ab.s 2, cell_whole (cur := [_, _, _, _]) h.ab.s 3, frozen_whole h.ab.s _, frozen_whole h.ab.s _⟩
theorem LyI.grow (h : LyI w C Wb k c0 c S at' B u1 u2 u3 ks ds A) {F : Nat → Prop} (ht : Turned F A A') (hlt : ∀ x, (x = S ∨ u2.ownBlock = some x ∨ u3.ownBlock = some x ∨ x = C ∨ x = Wb ∨ x = c.bp ∨ x = k.bo) → x < w.heap.size) (hF : ∀ x, F x → w.heap.size ≤ x ∧ ∀ a, c.p = some a → a.block ≠ x) : LyI w C Wb k c0 c S at' B u1 u2 u3 ks ds A' := by
  have hn : ∀ x, (x = S ∨ u2.ownBlock = some x ∨ u3.ownBlock = some x ∨ x = C ∨ x = Wb ∨ x = c.bp ∨ x = k.bo) → ¬ F x := fun x hx e => by
    have := hlt x hx
    have := (hF x e).1
    omega
  refine ⟨h.ch.apart ht (fun x hx => ⟨fun e => hn x (by simp [e]) hx, fun e => hn x (by simp [e]) hx, fun e => hn x (by simp [e]) hx, fun e => hn x (by simp [e]) hx, (hF x hx).2⟩), ⟨ht.heap h.ab.s (hn S (.inl rfl)), h.ab.ok.kept ht (fun x hx => hn x (.inr (.inl hx))), h.ab.od.kept ht (fun x hx => hn x (.inr (.inr (.inl hx)))), h.ab.kd, h.ab.ap, h.ab.ne⟩, h.t.then ht (fun x hx e => by have := (hF x e).1; omega), h.pn, h.bp⟩
/-- A kid, where the step above has it. -/
theorem LyI.kid (h : LyI w C Wb k c0 c S at' B u1 u2 u3 ks ds A) {g n cd i : Nat} (he : u3 = .slice (some ⟨g, 0, none⟩) n cd) (hi : i < ds.length) : A.cell? ⟨g, i, none⟩ = some (.int .u32 (ds.getD i 0 : Nat)) := by
  obtain ⟨p, c1, e, hE, -⟩ := h.ab.od.form
  rw [he] at e
  cases e
  obtain ⟨b, o, e2, hr⟩ := hE (by rintro e; rw [e] at hi; simp at hi)
  cases e2
  have := hr i 0 hi (by decide)
  rw [show elD.z = 1 from rfl, Nat.mul_one, Nat.zero_add, Nat.add_zero] at this
  exact this
/-- The kids, then the keys, are laid anew. -/
structure Laid (w : World) (C Wb : Nat) (k : Wk) (c0 c : Ch) (S at' B : Nat) (u1 u2 u3 v2 v3 : Value) (ks' : List (List UInt8)) (ds' : List Nat) (A : World) : Prop where
  ch : ChAt A C Wb k c
  ab : Abv C Wb k c S at' B u1 v2 v3 ks' ds' A
  t : Turned (fun x => x = C ∨ x = c0.bp ∨ x = S ∨ u2.ownBlock = some x ∨ u3.ownBlock = some x) w A
  n2 : ∀ x, v2.ownBlock = some x → u2.ownBlock = some x ∨ w.heap.size ≤ x
  n3 : ∀ x, v3.ownBlock = some x → u3.ownBlock = some x ∨ w.heap.size ≤ x
  pn : ∀ a, c.p = some a → c0.p = some a ∨ w.heap.size ≤ a.block
  bp : c.bp = c0.bp
theorem LyI.done (h : LyI w C Wb k c0 c S at' B u1 u2 u3 ks ds A) {v2 v3 : Value} {ks' : List (List UInt8)} {ds' : List Nat} {A1 A2 A3 A4 : World}
    (o1 : OwnE elD A1 B v3 ds') (t1 : Turned (fun x => u3.ownBlock = some x) A A1) (x1 : ∀ x, v3.ownBlock = some x → u3.ownBlock = some x ∨ A.heap.size ≤ x)
    (e2 : A2 = A1.setCell ⟨S, 2, none⟩ v3)
    (o3 : OwnE elK A3 B v2 ks') (t3 : Turned (fun x => u2.ownBlock = some x) A2 A3) (x3 : ∀ x, v2.ownBlock = some x → u2.ownBlock = some x ∨ A2.heap.size ≤ x)
    (e4 : A4 = A3.setCell ⟨S, 1, none⟩ v2) : Laid w C Wb k c0 c S at' B u1 u2 u3 v2 v3 ks' ds' A4 := by
  have s1 : A1.heap[S]? = some (.cells #[u1, u2, u3, .int .i64 at'] 94 (0, 0)) := t1.heap h.ab.s (fun e => h.ab.ne S (.inr e) rfl)
  have t2 : Turned (· = S) A1 A2 := by rw [e2]; exact (Turned.refl (· = S) A1).setCell (p := ⟨S, 2, none⟩) rfl _
  have s2 : A2.heap[S]? = some (.cells #[u1, u2, v3, .int .i64 at'] 94 (0, 0)) := by rw [e2]; exact heap_setCell_at s1 2 _
  have s3 : A3.heap[S]? = some (.cells #[u1, u2, v3, .int .i64 at'] 94 (0, 0)) := t3.heap s2 (fun e => h.ab.ne S (.inl e) rfl)
  have t4 : Turned (· = S) A3 A4 := by rw [e4]; exact (Turned.refl (· = S) A3).setCell (p := ⟨S, 1, none⟩) rfl _
  have s4 : A4.heap[S]? = some (.cells #[u1, v2, v3, .int .i64 at'] 94 (0, 0)) := by rw [e4]; exact heap_setCell_at s3 1 _
  have hSA := lt_of_heap h.ab.s
  have z1 := t1.size
  have z2 := t2.size
  have z3 := t3.size
  have zw := h.t.size
  have v3S : v3.ownBlock ≠ some S := fun e => by
    rcases x1 S e with e | e
    · exact h.ab.ne S (.inr e) rfl
    · omega
  have v32 : ∀ x, u2.ownBlock = some x → v3.ownBlock ≠ some x := fun x hx e => by
    rcases x1 x e with e | e
    · exact h.ab.kd x hx e
    · have := (h.ab.ok.lt hx).2; omega
  have o3' : OwnE elD A3 B v3 ds' := (o1.kept t2 (fun x hx e => v3S (e ▸ hx))).kept t3 (fun x hx e => v32 x e hx)
  have v2S : v2.ownBlock ≠ some S := fun e => by
    rcases x3 S e with e | e
    · exact h.ab.ne S (.inl e) rfl
    · omega
  have TT : Turned (fun x => x = S ∨ u2.ownBlock = some x ∨ u3.ownBlock = some x) A A4 := ((t1.wider fun x _ e => .inr (.inr e)).trans (t2.wider fun x _ e => .inl e)).trans ((t3.wider fun x _ e => .inr (.inl e)).trans (t4.wider fun x _ e => .inl e))
  have zA : ∀ x, v2.ownBlock = some x → u2.ownBlock = some x ∨ A.heap.size ≤ x := fun x hx => (x3 x hx).imp id (fun e => by omega)
  refine ⟨h.ch.apart TT h.ab.ap, ⟨s4, o3.kept t4 (fun x hx e => v2S (e ▸ hx)), o3'.kept t4 (fun x hx e => v3S (e ▸ hx)), fun x hx e => ?_, fun x hx => ?_, fun x hx e => ?_⟩, ?_, fun x hx => (zA x hx).imp id (fun e => by omega), fun x hx => (x1 x hx).imp id (fun e => by omega), h.pn, h.bp⟩
  · have lt3 := (o1.lt e).2
    rcases x3 x hx with h1 | h1
    · exact v32 x h1 e
    · omega
  · have hw : ∀ x, A.heap.size ≤ x → x ≠ C ∧ x ≠ Wb ∧ x ≠ c.bp ∧ x ≠ k.bo ∧ ∀ a, c.p = some a → a.block ≠ x := fun x hx => by
      obtain ⟨root, al, p, cp, told, hwb⟩ := h.ch.wb
      have l1 := lt_of_heap h.ch.cb
      have l2 := lt_of_heap hwb
      have l3 := h.ch.pages.lt
      have l4 := h.ch.own.lt
      refine ⟨by omega, by omega, by omega, by omega, fun a ha => ?_⟩
      have := (h.ch.al.old a ha).1
      omega
    rcases hx with hx | hx | hx
    · exact h.ab.ap x (.inl hx)
    · rcases zA x hx with h1 | h1
      · exact h.ab.ap x (.inr (.inl h1))
      · exact hw x h1
    · rcases x1 x hx with h1 | h1
      · exact h.ab.ap x (.inr (.inr h1))
      · exact hw x h1
  · rcases hx with hx | hx
    · exact v2S (e ▸ hx)
    · exact v3S (e ▸ hx)
  · exact (h.t.wider fun x _ e => e.imp id .inl).trans (TT.wider fun x _ e => .inr (.inr e))
end
end Go.Proofs.YtokbmimbbeedcaaGreatDoor

/- Trees, by the program: lay, a node that fits. -/
namespace Go.Proofs.YtokbmimbbeedcaaGreatDoor
open Go Go.RowKit Sm
attribute [local go_sem] Oper.semAt_some

set_option maxRecDepth 20000 in
set_option maxHeartbeats 4000000 in
theorem lay_one {w : World} {C Wb : Nat} {k : Wk} {c : Ch} {S at' B : Nat} {u1 u2 u3 : Value} {ks : List (List UInt8)} {ds : List Nat} (h : ChAt w C Wb k c) (hA : Abv C Wb k c S at' B u1 u2 u3 ks ds w) (hB : B ≤ w.heap.size) (hat : at' < ds.length) (hks : at' ≤ ks.length) (hdl : ds.length ≤ 1000) (hkl : ks.length ≤ 1000)
    {m : Nd} {a : NdP} (hm : NdAt w m a) (hf : SlOk a.pk m.ks.length a.ck) (hok : Veil m.Ok) (hs : m.size ≤ 237) (hfit : m.fits = true) (hmy : mineC k c (ds.getD at' 0) = true ∨ ds.getD at' 0 = 0) :
    Calls Tryz.prog 46 #[.pointer (some ⟨C, 0, none⟩), .pointer (some ⟨S, 0, none⟩), m.v a, .int .i64 1] w fun e w' => ∃ p cp v2 v3, e = .returned .nilIface ∧ Laid w C Wb k c (c.wrote k (ds.getD at' 0) m p cp) S at' B u1 u2 u3 v2 v3 (ks.take at' ++ [] ++ ks.drop at') (ds.take at' ++ [c.copyId k (ds.getD at' 0)] ++ ds.drop (at' + 1)) w' := by
  have HFt : Veil (∀ W, Below w.heap.size w W → Calls Tryz.prog 65 #[.agg #[.slice a.pp m.ps.length a.cp, .slice a.pk m.ks.length a.ck, .slice a.pd m.ds.length a.cd]] W fun e w' => ∃ g, e = .returned (.tuple #[.slice (some ⟨g, 0, none⟩) 1 1, .slice none 0 0, .nilIface]) ∧ NBox w' g m a ∧ Below W.heap.size W w') := ⟨fun W hW => fit_one (hm.below hW) hf hok hs⟩
  obtain ⟨d, hd⟩ : ∃ d, ds.getD at' 0 = d := ⟨_, rfl⟩
  rw [hd] at hmy ⊢
  have HWr : Veil (∀ W, Below w.heap.size w W → Calls Tryz.prog 66 #[.pointer (some ⟨C, 0, none⟩), .int .u32 d, .agg #[.slice a.pp m.ps.length a.cp, .slice a.pk m.ks.length a.ck, .slice a.pd m.ds.length a.cd]] W fun e w' => ∃ p cp, e = .returned (.tuple #[.int .u32 (c.copyId k d), .nilIface]) ∧ ChN W c w' C Wb k (c.wrote k d m p cp) ∧ Turned (fun x => x = C ∨ x = c.bp) W w') := ⟨fun W hW => cwrite_new (h.below hW) d hmy (hm.below hW) hf hok hfit⟩
  have HI : Veil (LyI w C Wb k c c S at' B u1 u2 u3 ks ds w) := ⟨⟨h, hA, Turned.refl _ _, fun a ha => .inl ha, rfl⟩⟩
  have HU3 : Veil (∀ x, u3.ownBlock = some x → x < w.heap.size) := ⟨fun x hx => (hA.od.lt hx).2⟩
  obtain ⟨gd, cd, hu3, hcd, hcd6⟩ : ∃ gd cd, u3 = .slice (some ⟨gd, 0, none⟩) ds.length cd ∧ ds.length ≤ cd ∧ cd ≤ 9223372036854775807 := by
    obtain ⟨g, c1, cur, e, -, -, hn, hcm, -, -⟩ := hA.od.blk rfl (by omega)
    exact ⟨g, c1, e, hn, cap63 hcm⟩
  obtain ⟨ci, hci⟩ : ∃ ci, c.copyId k d = ci := ⟨_, rfl⟩
  rw [hci] at HWr ⊢
  have HKid : Veil (∀ A c', LyI w C Wb k c c' S at' B u1 u2 u3 ks ds A → A.cell? ⟨gd, at', none⟩ = some (.int .u32 (d : Nat))) := ⟨fun A c' hI => by have := hI.kid hu3 hat; rwa [hd] at this⟩
  have HB0 : Veil (Below w.heap.size w (w.alloc (.cells #[.slice a.pp m.ps.length a.cp, .slice a.pk m.ks.length a.ck, .slice a.pd m.ds.length a.cd] 92))) := ⟨below_al (Below.refl _ _) _⟩
  obtain ⟨b0, b1, b2⟩ := (NdBox.new hm).cells
  have HNk : Veil (ks.length ≤ 1000 ∧ at' ≤ ks.length ∧ B ≤ w.heap.size) := ⟨hkl, hks, hB⟩
  obtain ⟨n, hn⟩ : ∃ n, ds.length = n := ⟨_, rfl⟩
  have HN : Veil _ := ⟨hn⟩
  rw [hn] at hat hdl hcd hu3
  obtain ⟨t, ht⟩ : ∃ t, at' + 1 = t := ⟨_, rfl⟩
  have HT : Veil _ := ⟨ht⟩
  have HE : Veil (((at' : Int) + 1) = (t : Int)) := ⟨by omega⟩
  have htn : t ≤ n := by omega
  have htc : t ≤ cd := by omega
  have hatc : at' ≤ cd := by omega
  have hcat : ¬ cd = at' := by omega
  have htm : at' ≤ t := by omega
  have h1 : t - at' = 1 := by omega
  have hrd : ∀ W q cq z, z = (t : Int) → OwnE elD W B u3 ds → OwnE elD W w.heap.size (.slice q 1 cq) [ci] → w.heap.size ≤ W.heap.size → Calls Tryz.prog 68 #[u3, .int .i64 at', .int .i64 z, .slice q 1 cq] W fun e w' => ∃ v', e = .returned v' ∧ OwnE elD w' B v' (ds.take at' ++ [ci] ++ ds.drop (at' + 1)) ∧ Turned (fun x => u3.ownBlock = some x) W w' ∧ (∀ x, v'.ownBlock = some x → u3.ownBlock = some x ∨ W.heap.size ≤ x) := by
    intro W q cq z hz ho hV hW
    rw [hz, ← ht]
    refine replaceD_all ho (Nat.le_trans HNk.out.2.2 hW) (j := at' + 1) (by omega) (by rw [hn]; omega) (by rw [hn]; omega) (V := [ci]) hV (fun x hx e => ?_) (by simp)
    have h1 := (hV.lt hx).1
    have h2 := HU3.out x e
    omega
  have HRD : Veil _ := ⟨hrd⟩
  have hrk : ∀ W z, z = (at' : Int) → OwnE elK W B u2 ks → w.heap.size ≤ W.heap.size → Calls Tryz.prog 69 #[u2, .int .i64 at', .int .i64 z, .slice none 0 0] W fun e w' => ∃ v', e = .returned v' ∧ OwnE elK w' B v' (ks.take at' ++ [] ++ ks.drop at') ∧ Turned (fun x => u2.ownBlock = some x) W w' ∧ (∀ x, v'.ownBlock = some x → u2.ownBlock = some x ∨ W.heap.size ≤ x) := by
    intro W z hz ho hW
    rw [hz]
    exact replaceK_all ho (Nat.le_trans HNk.out.2.2 hW) (Nat.le_refl _) HNk.out.2.1 (by have := HNk.out.1; omega) (V := []) (OwnE.nil elK W 0) (fun x hx => by cases hx) (by simp)
  have HRK : Veil _ := ⟨hrk⟩
  clear hrd hrk
  obtain ⟨ds', hds'⟩ : ∃ ds', ds.take at' ++ [ci] ++ ds.drop (at' + 1) = ds' := ⟨_, rfl⟩
  obtain ⟨ks', hks'⟩ : ∃ ks', ks.take at' ++ [] ++ ks.drop at' = ks' := ⟨_, rfl⟩
  rw [hds'] at HRD ⊢
  rw [hks'] at HRK ⊢
  clear hds' hks'
  subst hu3
  clear h hA hB hks hkl hm hf hok hs hfit hmy hci hd hn ht
  unfold Nd.v
  go_enter Tryz.func46, Tryz.ntmps46
  go_wp2_with (go_at_call 65; refine (HFt.out _ HB0.out).mono ?_; rintro e w2 ⟨g2, rfl, hx2, hb2⟩; have HB2 : Veil _ := ⟨alb_then HB0.out hb2⟩; have HX2 : Veil _ := ⟨hx2⟩; clear hb2 hx2 b0 b1 b2; have HI2 : Veil _ := ⟨HI.out.below HB2.out⟩; obtain ⟨s1, s2, s3, -⟩ := HI2.out.cells)
  go_quiet (fail)
  rw [HE.out]
  obtain ⟨W3, hW3⟩ : ∃ W3, w2.drewN nq = W3 := ⟨_, rfl⟩
  have hb3 : Below w2.heap.size w2 W3 := by rw [← hW3]; exact ((Turned.refl (fun _ => False) w2).drewN nq).toBelow (Nat.le_refl _) (fun _ _ e => e.elim)
  have HI3 : Veil _ := ⟨HI2.out.below hb3⟩
  have HX3 : Veil _ := ⟨HX2.out.below hb3⟩
  have HB3 : Veil (Below w.heap.size w W3) := ⟨HB2.out.trans (hb3.mono HB2.out.size)⟩
  rw [hW3]
  clear hW3 HI2 HX2 s1 s2 s3 hb3
  obtain ⟨s1, s2, s3, -⟩ := HI3.out.cells
  obtain ⟨x0, x1, x2⟩ := HX3.out.cells
  have kd := HKid.out _ _ HI3.out
  have hgl : gd < W3.heap.size := World.block_lt_of_cell? _ _ kd
  go_wp2
  refine wp_loop_rounds 3 ?_
  rw [rounds_succ]
  go_wp2
  go_quiet (fail)
  obtain ⟨W4, hW4⟩ : ∃ W4, (W3.alloc (.cells #[.slice a.pp m.ps.length a.cp, .slice a.pk m.ks.length a.ck, .slice a.pd m.ds.length a.cd] 92)).drewN nq = W4 := ⟨_, rfl⟩
  have hb4 : Below W3.heap.size W3 W4 := by rw [← hW4]; exact ((((Turned.refl (fun _ => False) W3).alloc _).drewN nq)).toBelow (Nat.le_refl _) (fun _ _ e => e.elim)
  have HX4 : Veil (NBox W4 W3.heap.size m a) := ⟨by rw [← hW4]; exact (NBox.new HX3.out.s).below (((Turned.refl (fun _ => False) _).drewN nq).toBelow (Nat.le_refl _) (fun _ _ e => e.elim))⟩
  have HI4 : Veil _ := ⟨HI3.out.below hb4⟩
  have HB4 : Veil (Below w.heap.size w W4) := ⟨HB3.out.trans (hb4.mono HB3.out.size)⟩
  rw [hW4]
  clear hW4 hb4 s1 s2 s3 x0 x1 x2 kd
  obtain ⟨x0, x1, x2⟩ := HX4.out.cells
  go_wp2_with (first
    | (at_builtin; refine wpList_append_el elD rfl _ _ rfl w.heap.size (.slice none 0 0) [] ci rfl (OwnE.nil _ _ _) w5.heap.size rfl (heap_alloc_new _ _) (by decide) HS5.out ?_; intro v7 w7 ho7 hg7 hv7; have HO7 : Veil (OwnE elD w7 w.heap.size v7 [ci]) := ⟨ho7⟩; have hb7 : Below w5.heap.size w5 w7 := (below_al (Below.refl _ _) _).trans ((Turned.grown hg7 (fun _ h _ => by cases h) : Turned (fun _ => False) _ _).toBelow (by simp) (fun _ _ e => e.elim)); have HI7 : Veil _ := ⟨HI5.out.below hb7⟩; clear ho7 hg7 hv7 hb7)
    | (go_at_call 66; refine (HWr.out _ HB4.out).mono ?_; rintro e w5 ⟨p5, cp5, rfl, hn5, ht5⟩; have HI5 : Veil (LyI w C Wb k c (c.wrote k d m p5 cp5) S at' B u1 u2 (.slice (some ⟨gd, 0, none⟩) n cd) ks ds w5) := ⟨HI4.out.wrote hn5 ht5 (copied_bp k c d p5 cp5).1⟩; have HS5 : Veil (w.heap.size ≤ (w5.alloc (.cells #[.int .u32 ci] 23)).heap.size) := ⟨by have := HI5.out.t.size; simp; omega⟩; clear hn5 ht5 x0 x1 x2))
  all_goals
    obtain ⟨p7, c7, e7, -, -⟩ := HO7.out.form
    subst e7
    rw [show ([ci] : List Nat).length = 1 from rfl] at HO7 ⊢
    rw [rounds_succ]
    go_wp2
    refine wp_loop_rounds 2 ?_
    rw [rounds_succ]
    obtain ⟨s1, s2, s3, f1, f2⟩ := HI7.out.cells
    go_wp2_with (first
      | (go_at_call 69; refine (HRK.out _ _ (by have := HE.out; omega) HQ9.out.1 HQ9.out.2.1).mono ?_; rintro e w10 ⟨v10, rfl, ho10, ht10, hx10⟩; obtain ⟨p10, c10, e10, -, -⟩ := ho10.form; subst e10; have HD : Veil _ := ⟨HI7.out.done HO8.out HT8.out HX8.out HQ9.out.2.2.2.symm ho10 ht10 hx10 rfl⟩; have hs10 := ht10.heap HQ9.out.2.2.1 (fun e => HI7.out.ab.ne S (.inl e) rfl); clear s1 f1; have s1 := cell_whole (cur := [u1, u2, _, _]) hs10 1; have f1 := frozen_whole hs10 1; clear ho10 ht10 hx10 hs10)
      | (go_at_call 68; refine (HRD.out _ _ _ _ rfl HI7.out.ab.od HO7.out (HI7.out.t.size)).mono ?_; rintro e w8 ⟨v8, rfl, ho8, ht8, hx8⟩; obtain ⟨p8, c8, e8, -, -⟩ := ho8.form; subst e8; have HO8 : Veil _ := ⟨ho8⟩; have HT8 : Veil _ := ⟨ht8⟩; have HX8 : Veil _ := ⟨hx8⟩; clear s1 s2 s3 f1 f2; have hs8 := ht8.heap HI7.out.ab.s (fun e => HI7.out.ab.ne S (.inr e) rfl); have s2 := cell_whole (cur := [u1, u2, _, _]) hs8 2; have f2 := frozen_whole hs8 2; obtain ⟨W9, hW9⟩ : ∃ W9, w8.setCell ⟨S, 2, none⟩ (.slice p8 ds'.length c8) = W9 := ⟨_, rfl⟩; have hs9 : W9.heap[S]? = some (.cells #[u1, u2, .slice p8 ds'.length c8, .int .i64 at'] 94 (0, 0)) := (by rw [← hW9]; exact heap_setCell_at hs8 2 _); have ht9 : Turned (· = S) w8 W9 := (by rw [← hW9]; exact (Turned.refl (· = S) w8).setCell (p := ⟨S, 2, none⟩) rfl _); have HQ9 : Veil (OwnE elK W9 B u2 ks ∧ w.heap.size ≤ W9.heap.size ∧ W9.heap[S]? = some (.cells #[u1, u2, .slice p8 ds'.length c8, .int .i64 at'] 94 (0, 0)) ∧ w8.setCell ⟨S, 2, none⟩ (.slice p8 ds'.length c8) = W9) := ⟨⟨(HI7.out.ab.ok.kept ht8 (fun x hx e => HI7.out.ab.kd x hx e)).kept ht9 (fun x hx e => HI7.out.ab.ne x (.inl hx) e), (by have h1 := HI7.out.t.size; have h2 := ht8.size; have h3 := ht9.size; omega), hs9, hW9⟩⟩; have s1 := cell_whole (cur := [u1, u2, _, _]) hs9 1; have f1 := frozen_whole hs9 1; clear ho8 ht8 hx8 hs8 hs9 ht9))
    go_ret
    exact ⟨p5, cp5, _, _, rfl, HD.out⟩
end Go.Proofs.YtokbmimbbeedcaaGreatDoor

/- Trees, by the program: lay, a node that is split. -/
namespace Go.Proofs.YtokbmimbbeedcaaGreatDoor
open Go Go.RowKit Sm
attribute [local go_sem] Oper.semAt_some

/-- Both halves, and the key between, as fitting has told them. -/
structure Hv (w : World) (g g2 : Nat) (P Q : Nd) (x y : NdP) (key : List UInt8) (W : World) : Prop where
  b : W.heap[g]? = some (.cells #[.slice x.pp P.ps.length x.cp, .slice x.pk P.ks.length x.ck, .slice x.pd P.ds.length x.cd, .slice y.pp Q.ps.length y.cp, .slice y.pk Q.ks.length y.ck, .slice y.pd Q.ds.length y.cd] 92 (0, 0))
  k : W.heap[g2]? = some (.cells #[.string ⟨key.toArray⟩] 9 (0, 0))
  p : NdAt W P x
  q : NdAt W Q y
  np : NdNew w P x
  nq : NdNew w Q y
  lo : w.heap.size ≤ g ∧ w.heap.size ≤ g2
theorem NdAt.past {w W W' : World} {n : Nd} {a : NdP} (h : NdAt W n a) (hn : NdNew w n a) {F : Nat → Prop} (ht : Turned F W W') (hF : ∀ x, F x → x < w.heap.size) : NdAt W' n a :=
  ⟨h.p.turned ht (fun b hb e => by have := hn.p b hb; have := hF _ e; omega), h.k.turned ht (fun b hb e => by have := hn.k b hb; have := hF _ e; omega), h.d.turned ht (fun b hb e => by have := hn.d b hb; have := hF _ e; omega)⟩
theorem Hv.turned {w W W' : World} {g g2 : Nat} {P Q : Nd} {x y : NdP} {key : List UInt8} (h : Hv w g g2 P Q x y key W) {F : Nat → Prop} (ht : Turned F W W') (hF : ∀ x, F x → x < w.heap.size) : Hv w g g2 P Q x y key W' :=
  ⟨ht.heap h.b (fun e => by have := hF _ e; have := h.lo; omega), ht.heap h.k (fun e => by have := hF _ e; have := h.lo; omega), h.p.past h.np ht hF, h.q.past h.nq ht hF, h.np, h.nq, h.lo⟩
theorem Hv.below {w W W' : World} {g g2 : Nat} {P Q : Nd} {x y : NdP} {key : List UInt8} (h : Hv w g g2 P Q x y key W) (hb : Below W.heap.size W W') : Hv w g g2 P Q x y key W' := h.turned (Turned.new hb : Turned (fun _ => False) W W') (fun _ e => e.elim)
theorem Hv.cells {w W : World} {g g2 : Nat} {P Q : Nd} {x y : NdP} {key : List UInt8} (h : Hv w g g2 P Q x y key W) : (W.cell? ⟨g, 0, none⟩ = some (.slice x.pp P.ps.length x.cp) ∧ W.cell? ⟨g, 1, none⟩ = some (.slice x.pk P.ks.length x.ck) ∧ W.cell? ⟨g, 2, none⟩ = some (.slice x.pd P.ds.length x.cd)) ∧ (W.cell? ⟨g, 3, none⟩ = some (.slice y.pp Q.ps.length y.cp) ∧ W.cell? ⟨g, 4, none⟩ = some (.slice y.pk Q.ks.length y.ck) ∧ W.cell? ⟨g, 5, none⟩ = some (.slice y.pd Q.ds.length y.cd)) :=
  ⟨⟨cell_whole (cur := [_, _, _, _, _, _]) h.b 0, cell_whole (cur := [_, _, _, _, _, _]) h.b 1, cell_whole (cur := [_, _, _, _, _, _]) h.b 2⟩, cell_whole (cur := [_, _, _, _, _, _]) h.b 3, cell_whole (cur := [_, _, _, _, _, _]) h.b 4, cell_whole (cur := [_, _, _, _, _, _]) h.b 5⟩

theorem took_al (k : Wk) (c : Ch) (p : Option Addr) (cp : Nat) : (c.took k p cp).al = if (c.al.take k.old).err = 0 then (c.al.take k.old).a else c.al := by unfold Ch.took; split <;> rfl
theorem wrote_al (k : Wk) (c : Ch) (id : Nat) (n : Nd) (p : Option Addr) (cp : Nat) : (c.wrote k id n p cp).al = (if mineC k c id then c.al else if (c.al.take k.old).err = 0 then (c.al.take k.old).a else c.al) ∧ (c.wrote k id n p cp).pages = mput (if mineC k c id then c.pages else mput c.pages (c.tookId k) ⟨0, c.tookId k, 0, []⟩) (c.copyId k id) ⟨(n.kind : Nat), c.copyId k id, k.tx, n.enc⟩ := by
  unfold Ch.wrote Ch.copied
  split
  · exact ⟨rfl, rfl⟩
  · exact ⟨took_al k c p cp, rfl⟩
theorem copyId_wrote (k : Wk) (c : Ch) (id : Nat) (n : Nd) (p p' : Option Addr) (cp cp' : Nat) : (c.wrote k id n p cp).copyId k 0 = (c.wrote k id n p' cp').copyId k 0 := by
  obtain ⟨a1, b1⟩ := wrote_al k c id n p cp
  obtain ⟨a2, b2⟩ := wrote_al k c id n p' cp'
  unfold Ch.copyId Ch.tookId mineC
  rw [a1, a2, b1, b2]

set_option maxRecDepth 20000 in
set_option maxHeartbeats 4000000 in
theorem lay_two {w : World} {C Wb : Nat} {k : Wk} {c : Ch} {S at' B : Nat} {u1 u2 u3 : Value} {ks : List (List UInt8)} {ds : List Nat} (h : ChAt w C Wb k c) (hA : Abv C Wb k c S at' B u1 u2 u3 ks ds w) (hB : B ≤ w.heap.size) (hat : at' < ds.length) (hks : at' ≤ ks.length) (hdl : ds.length ≤ 1000) (hkl : ks.length ≤ 1000)
    {m : Nd} {a : NdP} (hm : NdAt w m a) (hf : NdFit m a) (hok : Veil m.Ok) (hs : 237 < m.size) (hsm : m.size ≤ 1000000) (hspl : m.splE = 0) (hokA : Veil m.splA.Ok) (hokB : Veil m.splB.Ok) (hfitA : m.splA.fits = true) (hfitB : m.splB.fits = true) (hmy : mineC k c (ds.getD at' 0) = true ∨ ds.getD at' 0 = 0) :
    Calls Tryz.prog 46 #[.pointer (some ⟨C, 0, none⟩), .pointer (some ⟨S, 0, none⟩), m.v a, .int .i64 1] w fun e w' => ∃ p cp p' cp' v2 v3, e = .returned .nilIface ∧ Laid w C Wb k c ((c.wrote k (ds.getD at' 0) m.splA p cp).wrote k 0 m.splB p' cp') S at' B u1 u2 u3 v2 v3 (ks.take at' ++ [m.splK] ++ ks.drop at') (ds.take at' ++ [c.copyId k (ds.getD at' 0), (c.wrote k (ds.getD at' 0) m.splA none 0).copyId k 0] ++ ds.drop (at' + 1)) w' := by
  have HFt : Veil (∀ W, Below w.heap.size w W → Calls Tryz.prog 65 #[.agg #[.slice a.pp m.ps.length a.cp, .slice a.pk m.ks.length a.ck, .slice a.pd m.ds.length a.cd]] W fun e w' => ∃ g g2 x y, e = .returned (.tuple #[.slice (some ⟨g, 0, none⟩) 2 2, .slice (some ⟨g2, 0, none⟩) 1 1, .nilIface]) ∧ Hv w g g2 m.splA m.splB x y m.splK w' ∧ Below W.heap.size W w') := ⟨fun W hW => (fit_two (hm.below hW) hf hok hs hsm hspl).mono (by
    rintro e w' ⟨g, g2, x, y, h1, h2, h3, h4, h5, h6, h7, h8, h9⟩
    exact ⟨g, g2, x, y, h1, ⟨h2, h3, h4, h5, h6.less hW.size, h7.less hW.size, by have := hW.size; omega⟩, h9⟩)⟩
  obtain ⟨P, hP⟩ : ∃ P, m.splA = P := ⟨_, rfl⟩
  obtain ⟨Q, hQ⟩ : ∃ Q, m.splB = Q := ⟨_, rfl⟩
  obtain ⟨key, hkey⟩ : ∃ key, m.splK = key := ⟨_, rfl⟩
  rw [hP, hQ, hkey] at HFt
  rw [hP] at hokA hfitA ⊢
  rw [hQ] at hokB hfitB ⊢
  rw [hkey]
  clear hP hQ hkey hspl
  obtain ⟨d, hd⟩ : ∃ d, ds.getD at' 0 = d := ⟨_, rfl⟩
  rw [hd] at hmy ⊢
  have HWr : Veil (∀ W x, Below w.heap.size w W → NdAt W P x → NdNew w P x → Calls Tryz.prog 66 #[.pointer (some ⟨C, 0, none⟩), .int .u32 d, .agg #[.slice x.pp P.ps.length x.cp, .slice x.pk P.ks.length x.ck, .slice x.pd P.ds.length x.cd]] W fun e w' => ∃ p cp, e = .returned (.tuple #[.int .u32 (c.copyId k d), .nilIface]) ∧ ChN W c w' C Wb k (c.wrote k d P p cp) ∧ Turned (fun x => x = C ∨ x = c.bp) W w') := ⟨fun W x hW hx hn => cwrite_new (h.below hW) d hmy hx hn.fit.k hokA hfitA⟩
  have hw2 : ∀ p cp W y, ChAt W C Wb k (c.wrote k d P p cp) → NdAt W Q y → NdNew w Q y → Calls Tryz.prog 66 #[.pointer (some ⟨C, 0, none⟩), .int .u32 0, .agg #[.slice y.pp Q.ps.length y.cp, .slice y.pk Q.ks.length y.ck, .slice y.pd Q.ds.length y.cd]] W fun e w' => ∃ p' cp', e = .returned (.tuple #[.int .u32 ((c.wrote k d P none 0).copyId k 0 : Nat), .nilIface]) ∧ ChN W (c.wrote k d P p cp) w' C Wb k ((c.wrote k d P p cp).wrote k 0 Q p' cp') ∧ Turned (fun x => x = C ∨ x = c.bp) W w' := by
    intro p cp W y hW hy hn
    have := cwrite_new hW 0 (.inr rfl) hy hn.fit.k hokB hfitB
    rw [copyId_wrote k c d P p none cp 0, show (c.wrote k d P p cp).bp = c.bp from (copied_bp k c d p cp).1] at this
    exact this
  have HW2 : Veil _ := ⟨hw2⟩
  clear hw2
  have HI : Veil (LyI w C Wb k c c S at' B u1 u2 u3 ks ds w) := ⟨⟨h, hA, Turned.refl _ _, fun a ha => .inl ha, rfl⟩⟩
  have HU2 : Veil (∀ x, u2.ownBlock = some x → x < w.heap.size) := ⟨fun x hx => (hA.ok.lt hx).2⟩
  have HCb : Veil (C < w.heap.size ∧ c.bp < w.heap.size) := ⟨⟨lt_of_heap h.cb, h.pages.lt⟩⟩
  have HLt : Veil (∀ x, (x = S ∨ u2.ownBlock = some x ∨ u3.ownBlock = some x ∨ x = C ∨ x = Wb ∨ x = c.bp ∨ x = k.bo) → x < w.heap.size) := ⟨fun x hx => by
    obtain ⟨root, al, p, cp, told, hwb⟩ := h.wb
    rcases hx with rfl | hx | hx | rfl | rfl | rfl | rfl
    · exact lt_of_heap hA.s
    · exact (hA.ok.lt hx).2
    · exact (hA.od.lt hx).2
    · exact lt_of_heap h.cb
    · exact lt_of_heap hwb
    · exact h.pages.lt
    · exact h.own.lt⟩
  have HU3 : Veil (∀ x, u3.ownBlock = some x → x < w.heap.size) := ⟨fun x hx => (hA.od.lt hx).2⟩
  obtain ⟨gd, cd, hu3, hcd, hcd6⟩ : ∃ gd cd, u3 = .slice (some ⟨gd, 0, none⟩) ds.length cd ∧ ds.length ≤ cd ∧ cd ≤ 9223372036854775807 := by
    obtain ⟨g, c1, cur, e, -, -, hn, hcm, -, -⟩ := hA.od.blk rfl (by omega)
    exact ⟨g, c1, e, hn, cap63 hcm⟩
  obtain ⟨ci, hci⟩ : ∃ ci, c.copyId k d = ci := ⟨_, rfl⟩
  rw [hci] at HWr ⊢
  obtain ⟨ci2, hci2⟩ : ∃ ci2, (c.wrote k d P none 0).copyId k 0 = ci2 := ⟨_, rfl⟩
  rw [hci2] at HW2 ⊢
  clear hci2
  have HKid : Veil (∀ A c', LyI w C Wb k c c' S at' B u1 u2 u3 ks ds A → A.cell? ⟨gd, at', none⟩ = some (.int .u32 (d : Nat))) := ⟨fun A c' hI => by have := hI.kid hu3 hat; rwa [hd] at this⟩
  have HB0 : Veil (Below w.heap.size w (w.alloc (.cells #[.slice a.pp m.ps.length a.cp, .slice a.pk m.ks.length a.ck, .slice a.pd m.ds.length a.cd] 92))) := ⟨below_al (Below.refl _ _) _⟩
  obtain ⟨b0, b1, b2⟩ := (NdBox.new hm).cells
  have HNk : Veil (ks.length ≤ 1000 ∧ at' ≤ ks.length ∧ B ≤ w.heap.size) := ⟨hkl, hks, hB⟩
  obtain ⟨n, hn⟩ : ∃ n, ds.length = n := ⟨_, rfl⟩
  have HN : Veil _ := ⟨hn⟩
  rw [hn] at hat hdl hcd hu3
  obtain ⟨t, ht⟩ : ∃ t, at' + 1 = t := ⟨_, rfl⟩
  have HT : Veil _ := ⟨ht⟩
  have HE : Veil (((at' : Int) + 1) = (t : Int)) := ⟨by omega⟩
  have htn : t ≤ n := by omega
  have htc : t ≤ cd := by omega
  have hatc : at' ≤ cd := by omega
  have hcat : ¬ cd = at' := by omega
  have htm : at' ≤ t := by omega
  have h1 : t - at' = 1 := by omega
  have hrd : ∀ W q cq z, z = (t : Int) → OwnE elD W B u3 ds → OwnE elD W w.heap.size (.slice q 2 cq) [ci, ci2] → w.heap.size ≤ W.heap.size → Calls Tryz.prog 68 #[u3, .int .i64 at', .int .i64 z, .slice q 2 cq] W fun e w' => ∃ v', e = .returned v' ∧ OwnE elD w' B v' (ds.take at' ++ [ci, ci2] ++ ds.drop (at' + 1)) ∧ Turned (fun x => u3.ownBlock = some x) W w' ∧ (∀ x, v'.ownBlock = some x → u3.ownBlock = some x ∨ W.heap.size ≤ x) := by
    intro W q cq z hz ho hV hW
    rw [hz, ← ht]
    refine replaceD_all ho (Nat.le_trans HNk.out.2.2 hW) (j := at' + 1) (by omega) (by rw [hn]; omega) (by rw [hn]; omega) (V := [ci, ci2]) hV (fun x hx e => ?_) (by simp)
    have h1 := (hV.lt hx).1
    have h2 := HU3.out x e
    omega
  have HRD : Veil _ := ⟨hrd⟩
  have hrk : ∀ W z g2, z = (at' : Int) → W.heap[g2]? = some (.cells #[.string ⟨key.toArray⟩] 9 (0, 0)) → w.heap.size ≤ g2 → OwnE elK W B u2 ks → w.heap.size ≤ W.heap.size → Calls Tryz.prog 69 #[u2, .int .i64 at', .int .i64 z, .slice (some ⟨g2, 0, none⟩) 1 1] W fun e w' => ∃ v', e = .returned v' ∧ OwnE elK w' B v' (ks.take at' ++ [key] ++ ks.drop at') ∧ Turned (fun x => u2.ownBlock = some x) W w' ∧ (∀ x, v'.ownBlock = some x → u2.ownBlock = some x ∨ W.heap.size ≤ x) := by
    intro W z g2 hz hg2 hlo ho hW
    rw [hz]
    refine replaceK_all ho (Nat.le_trans HNk.out.2.2 hW) (Nat.le_refl _) HNk.out.2.1 (by have := HNk.out.1; omega) (V := [key]) (B2 := 0) (own_block elK hg2 (Nat.zero_le _) (by simp)) (fun x hx e => ?_) (by simp)
    cases hx
    have := HU2.out g2 e
    omega
  have HRK : Veil _ := ⟨hrk⟩
  clear hrd hrk
  obtain ⟨ds', hds'⟩ : ∃ ds', ds.take at' ++ [ci, ci2] ++ ds.drop (at' + 1) = ds' := ⟨_, rfl⟩
  obtain ⟨ks', hks'⟩ : ∃ ks', ks.take at' ++ [key] ++ ks.drop at' = ks' := ⟨_, rfl⟩
  rw [hds'] at HRD ⊢
  rw [hks'] at HRK ⊢
  clear hds' hks'
  subst hu3
  clear h hA hB hks hkl hm hf hok hs hsm hokA hokB hfitA hfitB hmy hci hd hn ht
  unfold Nd.v
  go_enter Tryz.func46, Tryz.ntmps46
  go_wp2_with (go_at_call 65; refine (HFt.out _ HB0.out).mono ?_; rintro e w2 ⟨g, g2, x, y, rfl, hx2, hb2⟩; have HB2 : Veil _ := ⟨alb_then HB0.out hb2⟩; have HX2 : Veil _ := ⟨hx2⟩; have HG2 : Veil _ := ⟨hx2.lo.2⟩; clear hb2 hx2 b0 b1 b2; have HI2 : Veil _ := ⟨HI.out.below HB2.out⟩; obtain ⟨s1, s2, s3, -⟩ := HI2.out.cells)
  go_quiet (fail)
  rw [HE.out]
  obtain ⟨W3, hW3⟩ : ∃ W3, w2.drewN nq = W3 := ⟨_, rfl⟩
  have hb3 : Below w2.heap.size w2 W3 := by rw [← hW3]; exact ((Turned.refl (fun _ => False) w2).drewN nq).toBelow (Nat.le_refl _) (fun _ _ e => e.elim)
  have HI3 : Veil _ := ⟨HI2.out.below hb3⟩
  have HX3 : Veil _ := ⟨HX2.out.below hb3⟩
  have HB3 : Veil (Below w.heap.size w W3) := ⟨HB2.out.trans (hb3.mono HB2.out.size)⟩
  rw [hW3]
  clear hW3 HI2 HX2 s1 s2 s3 hb3
  obtain ⟨s1, s2, s3, -⟩ := HI3.out.cells
  obtain ⟨⟨x0, x1, x2⟩, x3, x4, x5⟩ := HX3.out.cells
  have kd := HKid.out _ _ HI3.out
  have hgl : gd < W3.heap.size := World.block_lt_of_cell? _ _ kd
  go_wp2
  refine wp_loop_rounds 4 ?_
  rw [rounds_succ]
  go_wp2
  go_quiet (fail)
  obtain ⟨W4, hW4⟩ : ∃ W4, (W3.alloc (.cells #[.slice x.pp P.ps.length x.cp, .slice x.pk P.ks.length x.ck, .slice x.pd P.ds.length x.cd] 92)).drewN nq = W4 := ⟨_, rfl⟩
  have hb4 : Below W3.heap.size W3 W4 := by rw [← hW4]; exact ((((Turned.refl (fun _ => False) W3).alloc _).drewN nq)).toBelow (Nat.le_refl _) (fun _ _ e => e.elim)
  have HX4 : Veil (NBox W4 W3.heap.size P x) := ⟨by rw [← hW4]; exact (NBox.new HX3.out.p).below (((Turned.refl (fun _ => False) _).drewN nq).toBelow (Nat.le_refl _) (fun _ _ e => e.elim))⟩
  have HV4 : Veil _ := ⟨HX3.out.below hb4⟩
  have HI4 : Veil _ := ⟨HI3.out.below hb4⟩
  have HB4 : Veil (Below w.heap.size w W4) := ⟨HB3.out.trans (hb4.mono HB3.out.size)⟩
  rw [hW4]
  clear hW4 hb4 s1 s2 s3 x0 x1 x2 x3 x4 x5 kd
  obtain ⟨x0, x1, x2⟩ := HX4.out.cells
  go_wp2_with (first
    | (at_builtin; refine wpList_append_el elD rfl _ _ rfl w.heap.size (.slice none 0 0) [] ci rfl (OwnE.nil _ _ _) w5.heap.size rfl (heap_alloc_new _ _) (by decide) HS5.out ?_; intro v7 w7 ho7 hg7 hv7; have HO7 : Veil (OwnE elD w7 w.heap.size v7 [ci]) := ⟨ho7⟩; have hb7 : Below w5.heap.size w5 w7 := (below_al (Below.refl _ _) _).trans ((Turned.grown hg7 (fun _ h _ => by cases h) : Turned (fun _ => False) _ _).toBelow (by simp) (fun _ _ e => e.elim)); have HI7 : Veil _ := ⟨HI5.out.below hb7⟩; have HV7 : Veil _ := ⟨HV5.out.below hb7⟩; have HPb : Veil (∀ x, v7.ownBlock = some x → w5.heap.size < x) := ⟨fun x hx => (by rcases hv7 x hx with e | e; (cases e); (simp at e; omega))⟩; clear ho7 hg7 hv7 hb7)
    | (go_at_call 66; refine (HWr.out _ _ HB4.out HV4.out.p HV4.out.np).mono ?_; rintro e w5 ⟨p5, cp5, rfl, hn5, ht5⟩; have HI5 : Veil (LyI w C Wb k c (c.wrote k d P p5 cp5) S at' B u1 u2 (.slice (some ⟨gd, 0, none⟩) n cd) ks ds w5) := ⟨HI4.out.wrote hn5 ht5 (copied_bp k c d p5 cp5).1⟩; have HS5 : Veil (w.heap.size ≤ (w5.alloc (.cells #[.int .u32 ci] 23)).heap.size) := ⟨by have := HI5.out.t.size; simp; omega⟩; have HV5 : Veil _ := ⟨HV4.out.turned ht5 (fun x e => by have := HCb.out; omega)⟩; have HG5 : Veil (g2 < w5.heap.size) := ⟨lt_of_heap HV5.out.k⟩; clear hn5 ht5 x0 x1 x2))
  all_goals
    obtain ⟨p7, c7, e7, -, -⟩ := HO7.out.form
    subst e7
    rw [show ([ci] : List Nat).length = 1 from rfl] at HO7 ⊢
    obtain ⟨⟨x0, x1, x2⟩, x3, x4, x5⟩ := HV7.out.cells
    rw [rounds_succ]
    go_wp2_with (first
      | (at_builtin; refine wpList_append_el elD rfl _ _ rfl w.heap.size (.slice p7 1 c7) [ci] ci2 rfl HO9.out w9.heap.size rfl (heap_alloc_new _ _) (show (1 : Nat) ≤ 1000000 by decide) HS9.out ?_; intro v11 w11 ho11 hg11 hv11; have HO11 : Veil (OwnE elD w11 w.heap.size v11 [ci, ci2]) := ⟨ho11⟩; have ht11 := (Turned.grown hg11 (fun x h _ => h) : Turned (fun x => (Value.slice p7 1 c7).ownBlock = some x) _ _); have HI11 : Veil _ := ⟨(HI9.out.below (below_al (Below.refl _ _) _)).grow ht11 HL9.out HF9.out⟩; have HK11 : Veil (w11.heap[g2]? = some (.cells #[.string ⟨key.toArray⟩] 9 (0, 0))) := ⟨ht11.heap (((below_al (Below.refl w9.heap.size w9) _).block _ (lt_of_heap HK9.out)).trans HK9.out) (fun e => by have h1 := HPb.out g2 e; have h2 := HG5.out; omega)⟩; clear ho11 hg11 hv11 ht11)
      | (go_at_call 66; refine (HW2.out p5 cp5 _ y (HI7.out.below (below_al (Below.refl _ _) _)).ch (HV7.out.below (below_al (Below.refl _ _) _)).q HV7.out.nq).mono ?_; rintro e w9 ⟨p9, cp9, rfl, hn9, ht9⟩; have HI9 : Veil (LyI w C Wb k c ((c.wrote k d P p5 cp5).wrote k 0 Q p9 cp9) S at' B u1 u2 (.slice (some ⟨gd, 0, none⟩) n cd) ks ds w9) := ⟨(HI7.out.below (below_al (Below.refl _ _) _)).wrote hn9 (by rw [show (c.wrote k d P p5 cp5).bp = c.bp from (copied_bp k c d p5 cp5).1]; exact ht9) (copied_bp k _ 0 p9 cp9).1⟩; have HL9 : Veil (∀ x, (x = S ∨ u2.ownBlock = some x ∨ (Value.slice (some ⟨gd, 0, none⟩) n cd).ownBlock = some x ∨ x = C ∨ x = Wb ∨ x = ((c.wrote k d P p5 cp5).wrote k 0 Q p9 cp9).bp ∨ x = k.bo) → x < w.heap.size) := ⟨by rw [HI9.out.bp]; exact HLt.out⟩; have HF9 : Veil (∀ x, (Value.slice p7 1 c7).ownBlock = some x → w.heap.size ≤ x ∧ ∀ a, ((c.wrote k d P p5 cp5).wrote k 0 Q p9 cp9).p = some a → a.block ≠ x) := ⟨fun x hx => ⟨(HO7.out.lt hx).1, fun a ha e => (by rcases hn9.new a ha with h1 | h1; (have h2 := (HI5.out.ch.al.old a h1).1; have h3 := HPb.out x hx; omega); (have h2 := (HO7.out.lt hx).2; simp at h1; omega))⟩⟩; have ho9 : OwnE elD w9 w.heap.size (.slice p7 1 c7) [ci] := (HO7.out.below (below_al (Below.refl _ _) _)).kept ht9 (fun x hx e => by have h1 := (HO7.out.lt hx).1; have h2 := HCb.out; omega); have HO9 : Veil (OwnE elD (w9.alloc (.cells #[.int .u32 ci2] 23)) w.heap.size (.slice p7 1 c7) [ci]) := ⟨ho9.below (below_al (Below.refl _ _) _)⟩; have HS9 : Veil (w.heap.size ≤ (w9.alloc (.cells #[.int .u32 ci2] 23)).heap.size) := ⟨by have := HI9.out.t.size; simp; omega⟩; have HK9 : Veil (w9.heap[g2]? = some (.cells #[.string ⟨key.toArray⟩] 9 (0, 0))) := ⟨((HV7.out.below (below_al (Below.refl _ _) _)).turned ht9 (fun x e => by have := HCb.out; omega)).k⟩; clear hn9 ht9 ho9 x0 x1 x2 x3 x4 x5))
    obtain ⟨p11, c11, e11, -, -⟩ := HO11.out.form
    subst e11
    rw [show ([ci, ci2] : List Nat).length = 2 from rfl] at HO11 ⊢
    rw [rounds_succ]
    go_wp2
    refine wp_loop_rounds 2 ?_
    rw [rounds_succ]
    obtain ⟨s1, s2, s3, f1, f2⟩ := HI11.out.cells
    go_wp2_with (first
      | (go_at_call 69; refine (HRK.out _ _ g2 (by have := HE.out; omega) HKq.out HG2.out HR9.out.1 HR9.out.2.1).mono ?_; rintro e w10 ⟨v10, rfl, ho10, ht10, hx10⟩; obtain ⟨p10, c10, e10, -, -⟩ := ho10.form; subst e10; have HD : Veil _ := ⟨HI11.out.done HO8.out HT8.out HX8.out HR9.out.2.2.2.symm ho10 ht10 hx10 rfl⟩; have hs10 := ht10.heap HR9.out.2.2.1 (fun e => HI11.out.ab.ne S (.inl e) rfl); clear s1 f1; have s1 := cell_whole (cur := [u1, u2, _, _]) hs10 1; have f1 := frozen_whole hs10 1; clear ho10 ht10 hx10 hs10)
      | (go_at_call 68; refine (HRD.out _ _ _ _ rfl HI11.out.ab.od HO11.out (HI11.out.t.size)).mono ?_; rintro e w8 ⟨v8, rfl, ho8, ht8, hx8⟩; obtain ⟨p8, c8, e8, -, -⟩ := ho8.form; subst e8; have HO8 : Veil _ := ⟨ho8⟩; have HT8 : Veil _ := ⟨ht8⟩; have HX8 : Veil _ := ⟨hx8⟩; clear s1 s2 s3 f1 f2; have hs8 := ht8.heap HI11.out.ab.s (fun e => HI11.out.ab.ne S (.inr e) rfl); have s2 := cell_whole (cur := [u1, u2, _, _]) hs8 2; have f2 := frozen_whole hs8 2; obtain ⟨W9, hW9⟩ : ∃ W9, w8.setCell ⟨S, 2, none⟩ (.slice p8 ds'.length c8) = W9 := ⟨_, rfl⟩; have hs9 : W9.heap[S]? = some (.cells #[u1, u2, .slice p8 ds'.length c8, .int .i64 at'] 94 (0, 0)) := (by rw [← hW9]; exact heap_setCell_at hs8 2 _); have ht9 : Turned (· = S) w8 W9 := (by rw [← hW9]; exact (Turned.refl (· = S) w8).setCell (p := ⟨S, 2, none⟩) rfl _); have HR9 : Veil (OwnE elK W9 B u2 ks ∧ w.heap.size ≤ W9.heap.size ∧ W9.heap[S]? = some (.cells #[u1, u2, .slice p8 ds'.length c8, .int .i64 at'] 94 (0, 0)) ∧ w8.setCell ⟨S, 2, none⟩ (.slice p8 ds'.length c8) = W9) := ⟨⟨(HI11.out.ab.ok.kept ht8 (fun x hx e => HI11.out.ab.kd x hx e)).kept ht9 (fun x hx e => HI11.out.ab.ne x (.inl hx) e), (by have h1 := HI11.out.t.size; have h2 := ht8.size; have h3 := ht9.size; omega), hs9, hW9⟩⟩; have HKq : Veil (W9.heap[g2]? = some (.cells #[.string ⟨key.toArray⟩] 9 (0, 0))) := ⟨ht9.heap (ht8.heap HK11.out (fun e => by have h1 := HLt.out g2 (.inr (.inr (.inl e))); have h2 := HG2.out; omega)) (fun e => by have h1 := HLt.out S (.inl rfl); have h2 := HG2.out; have e' : g2 = S := e; omega)⟩; have s1 := cell_whole (cur := [u1, u2, _, _]) hs9 1; have f1 := frozen_whole hs9 1; clear ho8 ht8 hx8 hs8 hs9 ht9))
    go_ret
    exact ⟨p5, cp5, p9, cp9, _, _, rfl, HD.out⟩
end Go.Proofs.YtokbmimbbeedcaaGreatDoor

/- Trees, by the program: upwards, step by step (facts). -/
namespace Go.Proofs.YtokbmimbbeedcaaGreatDoor
open Go Go.RowKit Sm

theorem SpAt.wide {w : World} {A B E E' s : Nat} {n : Nd} {i : Nat} {v1 v2 v3 : Value} (h : SpAt w A B E s n i v1 v2 v3) (hE : E ≤ E') : SpAt w A B E' s n i v1 v2 v3 :=
  ⟨h.lo, Nat.lt_of_lt_of_le h.hi hE, h.na, h.c, h.m, fun j hj => by have := h.o j hj; omega⟩
theorem SpAt.kept2 {w w' : World} {A B E s : Nat} {n : Nd} {i : Nat} {v1 v2 v3 : Value} {F : Nat → Prop} (h : SpAt w A B E s n i v1 v2 v3) (ht : Turned F w w') (hF : ∀ x, B ≤ x → x < E → x ≠ A → ¬ F x) : SpAt w' A B E s n i v1 v2 v3 := by
  have hb : ∀ j, (v1.ownBlock = some j ∨ v2.ownBlock = some j ∨ v3.ownBlock = some j) → B ≤ j := fun j hj => by
    rcases hj with hj | hj | hj
    · exact (h.m.p.lt hj).1
    · exact (h.m.k.lt hj).1
    · exact (h.m.d.lt hj).1
  exact ⟨h.lo, h.hi, h.na, ht.heap h.c (hF s h.lo h.hi h.na), h.m.apart ht (fun j hj => hF j (hb j hj) (h.o j hj).1 (h.o j hj).2.2), h.o⟩
theorem WayAt.kept2 {w w' : World} {A : Nat} {F : Nat → Prop} (ht : Turned F w w') : ∀ {l : List (Nat × Nd × Nat)} {B E : Nat}, WayAt w A B l E → (∀ x, B ≤ x → x < E → x ≠ A → ¬ F x) → WayAt w' A B l E
  | [], _, _, h, _ => h
  | (_, _, _) :: r, _, _, ⟨M, v1, v2, v3, h1, h2, h3⟩, hF => by
    have hl := WayAt.le h3
    exact ⟨M, v1, v2, v3, h1, h2.kept2 ht (fun x hx hx2 => hF x hx (by omega)), WayAt.kept2 ht h3 (fun x hx => hF x (by omega))⟩
theorem WayAt.last {w : World} {A : Nat} {s : Nat} {n : Nd} {i : Nat} : ∀ {l : List (Nat × Nd × Nat)} {B E : Nat}, WayAt w A B (l ++ [(s, n, i)]) E → ∃ M v1 v2 v3, WayAt w A B l M ∧ M ≤ E ∧ SpAt w A M E s n i v1 v2 v3
  | [], B, E, ⟨M, v1, v2, v3, h1, h2, h3⟩ => by
    have h3 : M ≤ E := h3
    exact ⟨B, v1, v2, v3, Nat.le_refl _, by omega, h2.wide h3⟩
  | (_, _, _) :: r, B, E, ⟨M', u1, u2, u3, h1, h2, h3⟩ => by
    obtain ⟨M, v1, v2, v3, g1, g2, g3⟩ := WayAt.last h3
    exact ⟨M, v1, v2, v3, ⟨M', u1, u2, u3, h1, h2, g1⟩, g2, g3⟩
/-- On the way up: the steps above stand as they stood; the node of this one is told by its step's box. -/
structure UpI (w0 : World) (B Z A C Wb : Nat) (k : Wk) (bp : Nat) (l : List (Nat × Nd × Nat)) (q : Nat) (c : Ch) (s : Nat) (m : Nd) (a : NdP) (W : World) : Prop where
  ch : ChAt W C Wb k c
  pn : ∀ b, c.p = some b → b.block < B ∨ Z ≤ b.block
  eb : c.bp = bp
  lo : C < B ∧ Wb < B ∧ bp < B ∧ k.bo < B
  ab : B ≤ A
  up : ∃ M, WayAt W A B (l.take q) M ∧ M ≤ Z
  zw : Z ≤ W.heap.size
  ptr : ∀ j, j < l.length → W.cell? ⟨A, j, none⟩ = some (.pointer (some ⟨(l.getD j (0, Nd.zero, 0)).1, 0, none⟩))
  box : ∃ i : Nat, W.heap[s]? = some (.cells #[.slice a.pp m.ps.length a.cp, .slice a.pk m.ks.length a.ck, .slice a.pd m.ds.length a.cd, .int .i64 i] 94 (0, 0))
  nd : NdAt W m a
  ft : NdFit m a
  fr : Turned (fun x => x = C ∨ x = bp ∨ B ≤ x) w0 W
section
variable {w0 : World} {B Z A C Wb : Nat} {k : Wk} {bp : Nat} {l : List (Nat × Nd × Nat)} {q : Nat} {c : Ch} {s : Nat} {m : Nd} {a : NdP} {W : World}
theorem UpI.below {W' : World} (h : UpI w0 B Z A C Wb k bp l q c s m a W) (hb : Below W.heap.size W W') : UpI w0 B Z A C Wb k bp l q c s m a W' := by
  obtain ⟨M, h1, h2⟩ := h.up
  obtain ⟨i, hi⟩ := h.box
  refine ⟨h.ch.below hb, h.pn, h.eb, h.lo, h.ab, ⟨M, h1.kept2 (Turned.new hb : Turned (fun _ => False) W W') (fun _ _ _ _ e => e), h2⟩, Nat.le_trans h.zw hb.size, fun j hj => (hb.cell (World.block_lt_of_cell? _ _ (h.ptr j hj))).trans (h.ptr j hj), ⟨i, (hb.block _ (lt_of_heap hi)).trans hi⟩, h.nd.below hb, h.ft, h.fr.trans (Turned.new hb)⟩
/-- The step above, for lay; what the way up is behind lay. -/
theorem UpI.above (h : UpI w0 B Z A C Wb k bp l (q + 1) c s m a W) (_hq : q < l.length) {S : Nat} {n : Nd} {i : Nat} (hl : l[q]? = some (S, n, i)) : ∃ M u1 u2 u3, B ≤ M ∧ M ≤ W.heap.size ∧ Abv C Wb k c S i M u1 u2 u3 n.ks n.ds W ∧ ∀ c' v2 v3 ks' ds' W', n.ps = [] → Laid W C Wb k c c' S i M u1 u2 u3 v2 v3 ks' ds' W' → ∃ a', UpI w0 B Z A C Wb k bp l q c' S ⟨[], ks', ds'⟩ a' W' := by
  obtain ⟨E, hy, hE⟩ := h.up
  have htk : l.take (q + 1) = l.take q ++ [(S, n, i)] := by rw [List.take_add_one, hl]; rfl
  rw [htk] at hy
  obtain ⟨M, v1, v2, v3, hy1, hME, hs⟩ := hy.last
  have hBM := hy1.le
  obtain ⟨l1, l2, l3, l4⟩ := h.lo
  have hzw := h.zw
  have hbp := h.eb
  have hap : ApartC C Wb k c (fun x => x = S ∨ v2.ownBlock = some x ∨ v3.ownBlock = some x) := fun x hx => by
    have hx2 : M ≤ x ∧ x < E := by
      rcases hx with rfl | hx | hx
      · exact ⟨hs.lo, hs.hi⟩
      · exact ⟨(hs.m.k.lt hx).1, (hs.o x (.inr (.inl hx))).1⟩
      · exact ⟨(hs.m.d.lt hx).1, (hs.o x (.inr (.inr hx))).1⟩
    refine ⟨by omega, by omega, by omega, by omega, fun b hb e => ?_⟩
    have := h.pn b hb
    omega
  refine ⟨M, v1, v2, v3, hBM, by omega, ⟨hs.c, hs.m.k, hs.m.d, hs.m.kd, hap, fun x hx => ?_⟩, ?_⟩
  · rcases hx with hx | hx
    · exact (hs.o x (.inr (.inl hx))).2.1
    · exact (hs.o x (.inr (.inr hx))).2.1
  · intro c' w2 w3 ks' ds' W' hps hL
    have hps' : OwnE elP W M v1 [] := by have := hs.m.p; rwa [hps] at this
    have ho1 : OwnE elP W' M v1 [] := hps'.kept hL.t (fun x hx e => by
      have h1 := (hps'.lt hx).1
      have h2 := hs.o x (.inl hx)
      rcases e with e | e | e | e | e
      · omega
      · omega
      · exact h2.2.1 e
      · exact hs.m.pk x hx e
      · exact hs.m.pd x hx e)
    obtain ⟨p1, c1, e1, hE1, hf1, -⟩ := ho1.fit
    obtain ⟨p2, c2, e2, hE2, hf2, -⟩ := hL.ab.ok.fit
    obtain ⟨p3, c3, e3, hE3, hf3, -⟩ := hL.ab.od.fit
    have hbox := hL.ab.s
    rw [e1, e2, e3] at hbox
    have hAn : ∀ x, (x = C ∨ x = c.bp ∨ x = S ∨ v2.ownBlock = some x ∨ v3.ownBlock = some x) → x ≠ A := fun x hx e => by
      have hab := h.ab
      rcases hx with hx | hx | hx | hx | hx
      · omega
      · omega
      · exact hs.na (hx ▸ e)
      · exact (hs.o x (.inr (.inl hx))).2.2 e
      · exact (hs.o x (.inr (.inr hx))).2.2 e
    refine ⟨⟨p1, c1, p2, c2, p3, c3⟩, hL.ch, fun b hb => ?_, hL.bp.trans hbp, h.lo, h.ab, ⟨M, hy1.kept2 hL.t (fun x hx1 hx2 _ e => ?_), by omega⟩, Nat.le_trans hzw hL.t.size, fun j hj => hL.t.cell (h.ptr j hj) (fun e => hAn _ e rfl), ⟨i, hbox⟩, ⟨hE1, hE2, hE3⟩, ⟨hf1, hf2, hf3⟩, h.fr.trans (hL.t.wider fun x _ e => ?_)⟩
    · rcases hL.pn b hb with h1 | h1
      · exact h.pn b h1
      · exact .inr (by omega)
    · rcases e with e | e | e | e | e
      · omega
      · omega
      · have := hs.lo; omega
      · have := (hs.m.k.lt e).1; omega
      · have := (hs.m.d.lt e).1; omega
    · rcases e with e | e | e | e | e
      · exact .inl e
      · exact .inr (.inl (e.trans hbp))
      · have := hs.lo; exact .inr (.inr (by omega))
      · have := (hs.m.k.lt e).1; exact .inr (.inr (by omega))
      · have := (hs.m.d.lt e).1; exact .inr (.inr (by omega))
end
end Go.Proofs.YtokbmimbbeedcaaGreatDoor

/- Trees, by the program: what comes of a node, step by step upwards (facts). -/
namespace Go.Proofs.YtokbmimbbeedcaaGreatDoor
open Go Go.RowKit Sm

/-- The node above, when one node was laid, or two. -/
def Nd.lay1 (n : Nd) (i ci : Nat) : Nd := ⟨[], n.ks.take i ++ [] ++ n.ks.drop i, n.ds.take i ++ [ci] ++ n.ds.drop (i + 1)⟩
def Nd.lay2 (n : Nd) (i : Nat) (key : List UInt8) (ci cj : Nat) : Nd := ⟨[], n.ks.take i ++ [key] ++ n.ks.drop i, n.ds.take i ++ [ci, cj] ++ n.ds.drop (i + 1)⟩
/-- What is asked of the steps above, the next one first, so that a node may be laid, up to the first one. -/
def Good (k : Wk) : List (Nd × Nat) → Ch → Nd → Prop
  | [], _, _ => True
  | (n, i) :: r, c, m => n.ps = [] ∧ i < n.ds.length ∧ i ≤ n.ks.length ∧ n.ds.length ≤ 1000 ∧ n.ks.length ≤ 1000 ∧ Veil m.Ok ∧ (mineC k c (n.ds.getD i 0) = true ∨ n.ds.getD i 0 = 0) ∧
    (m.size ≤ 237 → m.fits = true ∧ ∀ p cp, Good k r (c.wrote k (n.ds.getD i 0) m p cp) (n.lay1 i (c.copyId k (n.ds.getD i 0)))) ∧
    (237 < m.size → m.size ≤ 1000000 ∧ m.splE = 0 ∧ Veil m.splA.Ok ∧ Veil m.splB.Ok ∧ m.splA.fits = true ∧ m.splB.fits = true ∧ ∀ p cp p' cp', Good k r ((c.wrote k (n.ds.getD i 0) m.splA p cp).wrote k 0 m.splB p' cp') (n.lay2 i m.splK (c.copyId k (n.ds.getD i 0)) ((c.wrote k (n.ds.getD i 0) m.splA none 0).copyId k 0)))
/-- What comes of it. -/
inductive UpR (k : Wk) : List (Nd × Nat) → Ch → Nd → Ch → Nd → Prop
  | nil (c : Ch) (m : Nd) : UpR k [] c m c m
  | one {n : Nd} {i : Nat} {r : List (Nd × Nat)} {c c2 : Ch} {m m2 : Nd} (p : Option Addr) (cp : Nat) (hs : m.size ≤ 237) (h : UpR k r (c.wrote k (n.ds.getD i 0) m p cp) (n.lay1 i (c.copyId k (n.ds.getD i 0))) c2 m2) : UpR k ((n, i) :: r) c m c2 m2
  | two {n : Nd} {i : Nat} {r : List (Nd × Nat)} {c c2 : Ch} {m m2 : Nd} (p p' : Option Addr) (cp cp' : Nat) (hs : 237 < m.size) (h : UpR k r ((c.wrote k (n.ds.getD i 0) m.splA p cp).wrote k 0 m.splB p' cp') (n.lay2 i m.splK (c.copyId k (n.ds.getD i 0)) ((c.wrote k (n.ds.getD i 0) m.splA none 0).copyId k 0)) c2 m2) : UpR k ((n, i) :: r) c m c2 m2
/-- The steps above one. -/
def aboveL (l : List (Nat × Nd × Nat)) (q : Nat) : List (Nd × Nat) := ((l.take q).map (·.2)).reverse
theorem above_succ {l : List (Nat × Nd × Nat)} {q S : Nat} {n : Nd} {i : Nat} (h : l[q]? = some (S, n, i)) : aboveL l (q + 1) = (n, i) :: aboveL l q := by
  unfold aboveL
  rw [List.take_add_one, h]
  simp
/-- One round of put's loop. -/
structure PutI (w0 : World) (B Z A C Wb : Nat) (k : Wk) (bp : Nat) (l : List (Nat × Nd × Nat)) (c0 : Ch) (m0 : Nd) (q0 q : Nat) (W : World) : Prop where
  ex : ∃ c m a, UpI w0 B Z A C Wb k bp l q c (l.getD q (0, Nd.zero, 0)).1 m a W ∧ Good k (aboveL l q) c m ∧ ∀ c2 m2, UpR k (aboveL l q) c m c2 m2 → UpR k (aboveL l q0) c0 m0 c2 m2
/-- The contract of lay, as a round wants it. -/
theorem put_round {w0 : World} {B Z A C Wb : Nat} {k : Wk} {bp : Nat} {l : List (Nat × Nd × Nat)} {c0 : Ch} {m0 : Nd} {q0 q : Nat} {W : World} (h : PutI w0 B Z A C Wb k bp l c0 m0 q0 (q + 1) W) (hq : q + 1 < l.length) :
    ∃ (s : Nat) (a : NdP) (m : Nd) (i : Nat), W.heap[(l.getD (q + 1) (0, Nd.zero, 0)).1]? = some (.cells #[.slice a.pp m.ps.length a.cp, .slice a.pk m.ks.length a.ck, .slice a.pd m.ds.length a.cd, .int .i64 (i : Nat)] 94 (0, 0)) ∧ s = (l.getD q (0, Nd.zero, 0)).1 ∧
      (∀ j, j < l.length → W.cell? ⟨A, j, none⟩ = some (.pointer (some ⟨(l.getD j (0, Nd.zero, 0)).1, 0, none⟩))) ∧
      ∀ W', Below W.heap.size W W' → Calls Tryz.prog 46 #[.pointer (some ⟨C, 0, none⟩), .pointer (some ⟨s, 0, none⟩), .agg #[.slice a.pp m.ps.length a.cp, .slice a.pk m.ks.length a.ck, .slice a.pd m.ds.length a.cd], .int .i64 1] W' fun e w' => e = .returned .nilIface ∧ PutI w0 B Z A C Wb k bp l c0 m0 q0 q w' := by
  obtain ⟨c, m, a, hU, hG, hR⟩ := h.ex
  obtain ⟨i, hbox⟩ := hU.box
  have hql : q < l.length := by omega
  obtain ⟨⟨S, n, ia⟩, hl⟩ : ∃ x, l[q]? = some x := ⟨l[q], List.getElem?_eq_getElem hql⟩
  have hgd : l.getD q (0, Nd.zero, 0) = (S, n, ia) := by rw [List.getD_eq_getElem?_getD, hl]; rfl
  rw [above_succ hl] at hG hR
  refine ⟨S, a, m, i, hbox, by rw [hgd], hU.ptr, fun W' hW => ?_⟩
  have hU' := hU.below hW
  obtain ⟨M, u1, u2, u3, hBM, hMW, hA, hnext⟩ := hU'.above hql hl
  obtain ⟨g1, g2, g3, g4, g5, g6, g7, g8, g9⟩ := hG
  by_cases hs : m.size ≤ 237
  · obtain ⟨e1, e2⟩ := g8 hs
    refine (lay_one hU'.ch hA hMW g2 g3 g4 g5 hU'.nd hU'.ft.k g6 hs e1 g7).mono ?_
    rintro e w' ⟨p, cp, v2, v3, rfl, hL⟩
    obtain ⟨a', hUn⟩ := hnext _ _ _ _ _ _ g1 hL
    exact ⟨rfl, ⟨_, _, a', by rw [hgd]; exact hUn, e2 p cp, fun c2 m2 hh => hR c2 m2 (.one p cp hs hh)⟩⟩
  · have hs' : 237 < m.size := by omega
    obtain ⟨f1, f2, f3, f4, f5, f6, f7⟩ := g9 hs'
    refine (lay_two hU'.ch hA hMW g2 g3 g4 g5 hU'.nd hU'.ft g6 hs' f1 f2 f3 f4 f5 f6 g7).mono ?_
    rintro e w' ⟨p, cp, p', cp', v2, v3, rfl, hL⟩
    obtain ⟨a', hUn⟩ := hnext _ _ _ _ _ _ g1 hL
    exact ⟨rfl, ⟨_, _, a', by rw [hgd]; exact hUn, f7 p cp p' cp', fun c2 m2 hh => hR c2 m2 (.two p p' cp cp' hs' hh)⟩⟩
end Go.Proofs.YtokbmimbbeedcaaGreatDoor

/- Trees, by the program: put (facts for its walk). -/
namespace Go.Proofs.YtokbmimbbeedcaaGreatDoor
open Go Go.RowKit Sm

/-- The way down, as put wants it: the leaf's step apart, the pointers to the steps. -/
structure PutW (W : World) (B : Nat) (l0 : List (Nat × Nd × Nat)) (S : Nat) (n : Nd) (i : Nat) (A ca : Nat) (wr : World) : Prop where
  lc : l0.length + 1 ≤ ca
  cf : ca ≤ 9223372036854775807
  ab : B ≤ A
  al : A < wr.heap.size
  ptr : ∀ j, j < (l0 ++ [(S, n, i)]).length → wr.cell? ⟨A, j, none⟩ = some (.pointer (some ⟨((l0 ++ [(S, n, i)]).getD j (0, Nd.zero, 0)).1, 0, none⟩))
  y : ∃ M E v1 v2 v3, WayAt wr A B l0 M ∧ B ≤ M ∧ M ≤ E ∧ E ≤ wr.heap.size ∧ SpAt wr A M E S n i v1 v2 v3
  t : Below B W wr
theorem WayN.put {W : World} {l : List (Nat × Nd × Nat)} {v : Value} {A E : Nat} {wr : World} (h : WayN W l v A E wr) {x : List (Nd × Nat)} {n : Nd} {i : Nat} (hl : l.map (·.2) = x ++ [(n, i)]) : ∃ l0 S ca, l = l0 ++ [(S, n, i)] ∧ l0.map (·.2) = x ∧ v = .slice (some ⟨A, 0, none⟩) (l0.length + 1) ca ∧ PutW W W.heap.size l0 S n i A ca wr := by
  obtain ⟨l0, ⟨S, n', i'⟩, rfl, hx⟩ : ∃ l0 y, l = l0 ++ [y] ∧ l0.map (·.2) = x := by
    have hne : l ≠ [] := fun e => by rw [e] at hl; simp at hl
    refine ⟨l.dropLast, l.getLast hne, (List.dropLast_concat_getLast hne).symm, ?_⟩
    rw [← List.dropLast_concat_getLast hne, List.map_append] at hl
    exact (List.append_inj' hl rfl).1
  have hy : (n', i') = (n, i) := by
    rw [List.map_append] at hl
    have := (List.append_inj' hl rfl).2
    simpa using this
  cases hy
  have hlen : (l0 ++ [(S, n, i)]).length = l0.length + 1 := by simp
  obtain ⟨g, ca, cur, rfl, hg, hb, hn, hc, hs, ht⟩ := h.o.blk rfl (by simp)
  have hga : g = A := h.a g rfl
  subst hga
  rw [List.length_map, hlen] at hn ht
  refine ⟨l0, S, ca, rfl, hx, by rw [List.length_map, hlen], hn, cap63 hc, hg, h.al, fun j hj => ?_, ?_, h.t⟩
  · rw [hb.cell j]
    rw [hlen] at hj
    have h1 : (cur.take (l0.length + 1))[j]? = cur[j]? := List.getElem?_take_of_lt hj
    rw [← h1, ht]
    have h2 := elCells_at elS ((l0 ++ [(S, n, i)]).map (·.1)) j 0 (by simp; omega) (by decide)
    have h3 : j * elS.z + 0 = j := by show j * 1 + 0 = j; omega
    rw [h3] at h2
    rw [h2]
    have h4 : ((l0 ++ [(S, n, i)]).map (·.1)).getD j elS.d = ((l0 ++ [(S, n, i)]).getD j (0, Nd.zero, 0)).1 := by
      rw [List.getD_eq_getElem?_getD, List.getD_eq_getElem?_getD, List.getElem?_map]
      cases (l0 ++ [(S, n, i)])[j]? <;> rfl
    rw [h4]
    rfl
  · obtain ⟨M, v1, v2, v3, h1, h2, h3⟩ := WayAt.last h.y
    exact ⟨M, E, v1, v2, v3, h1, h1.le, h2, h.e, h3⟩
theorem SpAt.less {w : World} {A B B' E s : Nat} {n : Nd} {i : Nat} {v1 v2 v3 : Value} (h : SpAt w A B E s n i v1 v2 v3) (hB : B' ≤ B) : SpAt w A B' E s n i v1 v2 v3 := ⟨Nat.le_trans hB h.lo, h.hi, h.na, h.c, h.m.less hB, h.o⟩
theorem WayAt.less {w : World} {A : Nat} : ∀ {l : List (Nat × Nd × Nat)} {B B' E : Nat}, WayAt w A B l E → B' ≤ B → WayAt w A B' l E
  | [], _, _, _, h, hB => Nat.le_trans hB h
  | (_, _, _) :: _, _, _, _, ⟨M, v1, v2, v3, h1, h2, h3⟩, hB => ⟨M, v1, v2, v3, Nat.le_trans hB h1, h2.less hB, h3⟩
/-- The way to a leaf, behind a world. -/
structure PutY (w : World) (x : List (Nd × Nat)) (n : Nd) (i t A ca : Nat) (W : World) : Prop where
  ex : ∃ l0 S, l0.map (·.2) = x ∧ t = l0.length + 1 ∧ PutW w w.heap.size l0 S n i A ca W
section
variable {w W W' : World} {B : Nat} {l0 : List (Nat × Nd × Nat)} {S : Nat} {n : Nd} {i t A ca : Nat} {x : List (Nd × Nat)}
theorem PutW.below (h : PutW w B l0 S n i A ca W) (hB : B = w.heap.size) (hb : Below W.heap.size W W') : PutW w B l0 S n i A ca W' := by
  obtain ⟨M, E, v1, v2, v3, h1, h2, h3, h4, h5⟩ := h.y
  have hT : Turned (fun _ => False) W W' := Turned.new hb
  have hz := hb.size
  exact ⟨h.lc, h.cf, h.ab, Nat.lt_of_lt_of_le h.al hz, fun j hj => (hb.cell (World.block_lt_of_cell? _ _ (h.ptr j hj))).trans (h.ptr j hj), ⟨M, E, v1, v2, v3, h1.kept2 hT (fun _ _ _ _ e => e), h2, h3, Nat.le_trans h4 hz, h5.kept2 hT (fun _ _ _ _ e => e)⟩, h.t.trans (hb.mono (by have := h.t.size; omega))⟩
theorem PutW.first {U : World} (h : PutW U U.heap.size l0 S n i A ca W) (hb : Below w.heap.size w U) : PutW w w.heap.size l0 S n i A ca W := by
  obtain ⟨M, E, v1, v2, v3, h1, h2, h3, h4, h5⟩ := h.y
  have hz := hb.size
  exact ⟨h.lc, h.cf, Nat.le_trans hz h.ab, h.al, h.ptr, ⟨M, E, v1, v2, v3, h1.less hz, Nat.le_trans hz h2, h3, h4, h5⟩, hb.trans (h.t.mono hz)⟩
theorem PutY.below (h : PutY w x n i t A ca W) (hb : Below W.heap.size W W') : PutY w x n i t A ca W' := by
  obtain ⟨l0, S, h1, h2, h3⟩ := h.ex
  exact ⟨l0, S, h1, h2, h3.below rfl hb⟩
end
/-- A node in a block of pointers, that fits. -/
def NFull (W : World) (g : Nat) (un : Nd) : Prop := ∃ a, NBox W g un a ∧ NdFit un a
/-- One step: new blocks, or the box filled. -/
def StepF (B : Nat) (un : Nd) (W W' : World) : Prop := Below W.heap.size W W' ∨ ∃ g, B ≤ g ∧ Box3 W g ∧ NFull W' g un ∧ Turned (· = g) W W'
section
variable {B g : Nat} {un : Nd} {W W' : World}
theorem StepF.below {S : World} (hI : Below S.heap.size S W) (h : StepF S.heap.size un W W') : Below S.heap.size S W' := by
  rcases h with h | ⟨g, h1, -, -, h4⟩
  · exact hI.trans (h.mono hI.size)
  · exact hI.trans (h4.toBelow hI.size (fun k _ e => by omega))
theorem StepF.box (h : StepF B un W W') (hg : Box3 W g) : Box3 W' g := by
  rcases h with h | ⟨g', h1, h2, ⟨a, h3, -⟩, h4⟩
  · exact hg.below h
  · by_cases e : g = g'
    · rw [e]; exact h3.box3
    · obtain ⟨p1, n1, c1, p2, n2, c2, p3, n3, c3, hg⟩ := hg
      exact ⟨p1, n1, c1, p2, n2, c2, p3, n3, c3, h4.heap hg e⟩
theorem StepF.at {m : Nd} {a : NdP} (h : StepF B un W W') (hm : NdAt W m a) : NdAt W' m a := by
  rcases h with h | ⟨g', h1, h2, h3, h4⟩
  · exact hm.below h
  · exact ndat_box hm h2 h4
theorem StepF.full (h : StepF B un W W') (hg : NFull W g un) : NFull W' g un := by
  obtain ⟨a, h1, h2⟩ := hg
  have hn := h.at h1.s
  rcases h with h | ⟨g', k1, k2, k3, k4⟩
  · exact ⟨a, h1.below h, h2⟩
  · by_cases e : g = g'
    · rw [e]; exact k3
    · exact ⟨a, ⟨k4.heap h1.b e, hn⟩, h2⟩
theorem nfull_set {a : NdP} (h : NdAt W un a) (hf : NdFit un a) (hg : Box3 W g) :
    NFull (((W.setCell ⟨g, 0, none⟩ (.slice a.pp un.ps.length a.cp)).setCell ⟨g, 1, none⟩ (.slice a.pk un.ks.length a.ck)).setCell ⟨g, 2, none⟩ (.slice a.pd un.ds.length a.cd)) g un ∧
    Turned (· = g) W (((W.setCell ⟨g, 0, none⟩ (.slice a.pp un.ps.length a.cp)).setCell ⟨g, 1, none⟩ (.slice a.pk un.ks.length a.ck)).setCell ⟨g, 2, none⟩ (.slice a.pd un.ds.length a.cd)) := ⟨⟨a, (nbox_set h hg).1, hf⟩, (nbox_set h hg).2⟩
end
/-- What an operation tells: a value; a value that the node is in; the box; that it is filled. -/
inductive NK where
  | any
  | is (v : Value)
  | nd (f : Value → Value)
  | box
  | full
def NK.holds (B : Nat) (un : Nd) : NK → Value → Value → World → Prop
  | .any, _, _, _ => True
  | .is x, v, _, _ => v = x
  | .nd f, v, _, W => ∃ a : NdP, v = f (.agg #[.slice a.pp un.ps.length a.cp, .slice a.pk un.ks.length a.ck, .slice a.pd un.ds.length a.cd]) ∧ NdAt W un a ∧ NdFit un a
  | .box, v, _, W => ∃ g, B ≤ g ∧ v = .pointer (some ⟨g, 0, none⟩) ∧ Box3 W g
  | .full, _, u, W => ∃ g, B ≤ g ∧ u = .pointer (some ⟨g, 0, none⟩) ∧ NFull W g un
theorem NK.step {B : Nat} {un : Nd} {W W' : World} (k : NK) (v u : Value) (h : StepF B un W W') (hk : k.holds B un v u W) : k.holds B un v u W' := by
  match k, hk with
  | .any, _ => exact trivial
  | .is x, hk => exact hk
  | .nd f, ⟨a, h1, h2, h3⟩ => exact ⟨a, h1, h.at h2, h3⟩
  | .box, ⟨g, h1, h2, h3⟩ => exact ⟨g, h1, h2, h.box h3⟩
  | .full, ⟨g, h1, h2, h3⟩ => exact ⟨g, h1, h2, h.full h3⟩
def nkAt (B : Nat) (un : Nd) (ks : List NK) (i : Nat) (v u : Value) (W : World) : Prop := (ks.getD i .any).holds B un v u W
def pm10 (i : Nat) : Nat := if i = 10 then 9 else i
end Go.Proofs.YtokbmimbbeedcaaGreatDoor

/- Trees, by the program: put (walk). -/
namespace Go.Proofs.YtokbmimbbeedcaaGreatDoor
open Go Go.RowKit Sm
attribute [local go_sem] Oper.semAt_some

theorem els_step {α : Type} {E : El α} {W W' : World} {p : Option Addr} {L : List α} {s : Nat} {p1 p2 p3 : Option Addr} {n1 n2 n3 c1 c2 c3 : Nat} {i : Nat} (h : Els E W p L) (hE : ∀ x q n c, (E.enc x)[0]? ≠ some (.slice q n c)) (hI : ∀ x i, (E.enc x)[0]? ≠ some (.int .i64 i)) (hs : W.heap[s]? = some (.cells #[.slice p1 n1 c1, .slice p2 n2 c2, .slice p3 n3 c3, .int .i64 i] 94 (0, 0))) (ht : Turned (· = s) W W') : Els E W' p L := fun hne => by
  refine h.turned ht (fun x hx e => ?_) hne
  obtain ⟨b, o, hp, hc⟩ := h hne
  rw [hp] at hx
  cases hx
  have h1 := hc 0 0 (List.length_pos_iff.2 hne) E.pos
  have hg' : W.heap[s]? = some (.cells [.slice p1 n1 c1, .slice p2 n2 c2, .slice p3 n3 c3, .int .i64 i].toArray 94 (0, 0)) := hs
  have e' : b = s := e
  simp only [e', Nat.zero_mul, Nat.add_zero] at h1
  rw [cell_whole hg' o] at h1
  have hz : 0 < (E.enc (L.getD 0 E.d)).length := by rw [E.len]; exact E.pos
  rw [List.getElem?_eq_getElem hz] at h1
  have h2 := hE (L.getD 0 E.d)
  have h3 := hI (L.getD 0 E.d)
  rw [List.getElem?_eq_getElem hz] at h2 h3
  match o, h1 with
  | 0, h1 => exact h2 p1 n1 c1 (by rw [← h1]; rfl)
  | 1, h1 => exact h2 p2 n2 c2 (by rw [← h1]; rfl)
  | 2, h1 => exact h2 p3 n3 c3 (by rw [← h1]; rfl)
  | 3, h1 => exact h3 i (by rw [← h1]; rfl)
  | _ + 4, h1 => simp at h1
/-- The start of put's way up. -/
theorem put_start {w W2 W3 : World} {C Wb : Nat} {k : Wk} {c : Ch} (h : ChAt w C Wb k c) {l0 : List (Nat × Nd × Nat)} {S M E : Nat} {n : Nd} {i A ca : Nat} {la ma : NdP} {m : Nd} (hp : PutW w w.heap.size l0 S n i A ca W2) (y1 : WayAt W2 A w.heap.size l0 M) (y3 : M ≤ E) (y4 : E ≤ W2.heap.size) (hs : SpAt W2 A M E S n i (.slice la.pp n.ps.length la.cp) (.slice la.pk n.ks.length la.ck) (.slice la.pd n.ds.length la.cd)) (hb : Below W2.heap.size W2 W3) (hm : NdAt W3 m ma) (hf : NdFit m ma) (hg : Good k (l0.map (·.2)).reverse c m) :
    PutI w w.heap.size W2.heap.size A C Wb k c.bp (l0 ++ [(S, n, i)]) c m l0.length l0.length (((W3.setCell ⟨S, 0, none⟩ (.slice ma.pp m.ps.length ma.cp)).setCell ⟨S, 1, none⟩ (.slice ma.pk m.ks.length ma.ck)).setCell ⟨S, 2, none⟩ (.slice ma.pd m.ds.length ma.cd)) := by
  have hT : Turned (· = S) W3 (((W3.setCell ⟨S, 0, none⟩ (.slice ma.pp m.ps.length ma.cp)).setCell ⟨S, 1, none⟩ (.slice ma.pk m.ks.length ma.ck)).setCell ⟨S, 2, none⟩ (.slice ma.pd m.ds.length ma.cd)) := (((Turned.refl (· = S) W3).setCell (p := ⟨S, 0, none⟩) rfl _).setCell (p := ⟨S, 1, none⟩) rfl _).setCell (p := ⟨S, 2, none⟩) rfl _
  have hsz := hb.size
  have hs3 := (hb.block _ (lt_of_heap hs.c)).trans hs.c
  have hbox : (((W3.setCell ⟨S, 0, none⟩ (.slice ma.pp m.ps.length ma.cp)).setCell ⟨S, 1, none⟩ (.slice ma.pk m.ks.length ma.ck)).setCell ⟨S, 2, none⟩ (.slice ma.pd m.ds.length ma.cd)).heap[S]? = some (.cells #[.slice ma.pp m.ps.length ma.cp, .slice ma.pk m.ks.length ma.ck, .slice ma.pd m.ds.length ma.cd, .int .i64 i] 94 (0, 0)) := heap_setCell_at (heap_setCell_at (heap_setCell_at hs3 0 _) 1 _) 2 _
  generalize (((W3.setCell ⟨S, 0, none⟩ (.slice ma.pp m.ps.length ma.cp)).setCell ⟨S, 1, none⟩ (.slice ma.pk m.ks.length ma.ck)).setCell ⟨S, 2, none⟩ (.slice ma.pd m.ds.length ma.cd)) = W4 at hT hbox ⊢
  have hM : w.heap.size ≤ M := y1.le
  have hSM := hs.lo
  have hbw3 : Below w.heap.size w W3 := hp.t.trans (hb.mono hp.t.size)
  have hbw4 : Below w.heap.size w W4 := hbw3.trans (hT.toBelow hbw3.size (fun x _ e => by have e : x = S := e; omega))
  have htk : (l0 ++ [(S, n, i)]).take l0.length = l0 := List.take_left' rfl
  have hgd : (l0 ++ [(S, n, i)]).getD l0.length (0, Nd.zero, 0) = (S, n, i) := by simp [List.getD_eq_getElem?_getD]
  have hab : aboveL (l0 ++ [(S, n, i)]) l0.length = (l0.map (·.2)).reverse := by unfold aboveL; rw [htk]
  obtain ⟨r1, r2, r3, r4, r5, hwb⟩ := h.wb
  refine ⟨c, m, ma, ?_, by rw [hab]; exact hg, fun _ _ hh => hh⟩
  rw [hgd]
  refine ⟨h.below hbw4, fun b hb' => .inl (h.al.old b hb').1, rfl, ⟨lt_of_heap h.cb, lt_of_heap hwb, h.pages.lt, h.own.lt⟩, hp.ab, ⟨M, ?_, by omega⟩, by have := hT.size; omega, fun j hj => ?_, ⟨i, hbox⟩, ⟨els_step hm.p (fun x => by simp [elP, sv]) (fun x => by simp [elP, sv]) hs3 hT, els_step hm.k (fun x => by simp [elK, sv]) (fun x => by simp [elK, sv]) hs3 hT, els_step hm.d (fun x => by simp [elD]) (fun x => by simp [elD]) hs3 hT⟩, hf, (Turned.new hbw3).trans (hT.wider fun x _ e => .inr (.inr (by have e : x = S := e; omega)))⟩
  · rw [htk]
    exact (y1.kept2 (Turned.new hb : Turned (fun _ => False) W2 W3) (fun _ _ _ _ e => e)).kept2 hT (fun x _ hx _ e => by have e : x = S := e; omega)
  · have h1 := hp.ptr j hj
    have h2 := (hb.cell (World.block_lt_of_cell? _ _ h1)).trans h1
    exact hT.cell h2 (fun e => hs.na (Eq.symm e))
theorem path_last {k : Wk} {key : List UInt8} : ∀ {id : Nat} {pre : List (Nd × Nat)} {n : Nd} {i : Nat}, PathS k key id (pre ++ [(n, i)]) → Veil n.Ok
  | _, [], _, _, h => h.1.ok
  | _, [(_, _)], _, _, h => path_last (pre := []) h.2.2.2
  | _, (_, _) :: y :: r, _, _, h => path_last (pre := y :: r) h.2.2.2

/-- The crown, behind the way up. -/
theorem put_crown {w0 : World} {B Z A C Wb : Nat} {k : Wk} {bp : Nat} {l : List (Nat × Nd × Nat)} {c0 : Ch} {m0 : Nd} {q0 t ca : Nat} {W : World} (h : PutI w0 B Z A C Wb k bp l c0 m0 q0 0 W) (ht : 2 ≤ t) (hl : l.length = t) (hcr : ∀ c2 m2, UpR k (aboveL l q0) c0 m0 c2 m2 → m2.ds.length = 1 ∨ (Veil m2.Ok ∧ m2.fits = true ∧ t ≤ 64)) :
    ∃ c2 m2, UpR k (aboveL l q0) c0 m0 c2 m2 ∧ ∀ W', Below W.heap.size W W' → Calls Tryz.prog 47 #[.pointer (some ⟨C, 0, none⟩), .slice (some ⟨A, 0, none⟩) t ca] W' fun e w' => e = .returned .nilIface ∧ (m2.ds.length = 1 → ChAt w' C Wb k { c2 with root := m2.ds.getD 0 0 }) ∧ (m2.ds.length ≠ 1 → ∃ p cp, ChAt w' C Wb k { c2.wrote k 0 m2 p cp with root := c2.copyId k 0 }) ∧ Turned (fun x => x = C ∨ x = bp ∨ B ≤ x) w0 w' := by
  obtain ⟨c2, m2, a, hU, -, hR⟩ := h.ex
  have hup := hR c2 m2 (by unfold aboveL; exact UpR.nil c2 m2)
  refine ⟨c2, m2, hup, fun W' hW => ?_⟩
  have hU' := hU.below hW
  obtain ⟨i, hbox⟩ := hU'.box
  have hA := hU'.ptr 0 (by omega)
  by_cases hd : m2.ds.length = 1
  · have hds : m2.ds ≠ [] := fun e => by rw [e] at hd; simp at hd
    obtain ⟨db, d0, hpd, hc⟩ := hU'.nd.d hds
    have h1 := hc 0 0 (by omega) (by decide)
    rw [hpd, hd] at hbox
    refine (crown_one hU'.ch (d := m2.ds.getD 0 0) (cap := ca) (by omega) hA hbox ?_).mono ?_
    · simpa [elD] using h1
    · rintro e w' ⟨rfl, h2, h3⟩
      exact ⟨rfl, fun _ => h2, fun e => absurd hd e, hU'.fr.trans (h3.wider fun x _ e => .inl e)⟩
  · obtain ⟨g1, g2, g3⟩ := (hcr c2 m2 hup).resolve_left hd
    refine (crown_more hU'.ch (cap := ca) (by omega) g3 hA hbox hU'.nd hU'.ft.k g1 g2 hd).mono ?_
    rintro e w' ⟨p, cp, rfl, h2, h3⟩
    exact ⟨rfl, fun e => absurd e hd, fun _ => ⟨p, cp, h2⟩, hU'.fr.trans (h3.wider fun x _ e => by rcases e with e | e; exact .inl e; exact .inr (.inl (e.trans hU'.eb)))⟩
theorem Turned.up {w w' : World} {G : Nat → Prop} (h : Turned (fun x => G x ∨ w.heap.size ≤ x) w w') : Turned G w w' :=
  ⟨h.os, h.tape, h.output, h.size, fun k hk hG => h.block k hk (fun e => by rcases e with e | e; exact hG e; omega)⟩
set_option maxRecDepth 20000 in
set_option maxHeartbeats 4000000 in
theorem cput_any {w : World} {C Wb : Nat} {k : Wk} {c : Ch} (h : ChAt w C Wb k c) {root : Nat} {al : Al} {p : Option Addr} {cp : Nat} {told : Int} (hwb : w.heap[Wb]? = some (.cells (wkCells k root al p cp told) 78 (0, 0))) (kv : Pr) (hkv : kv.k.length ≤ 1000000 ∧ kv.v.length ≤ 1000000)
    {pre : List (Nd × Nat)} {n : Nd} {i : Nat} (hp : PathS k kv.k root (pre ++ [(n, i)])) (hlen : pre.length ≤ 63) {m : Nd} (hput : n.putR kv = (m, 0)) (hgood : Good k ((⟨[], [], [root]⟩, 0) :: pre).reverse c m)
    (hcr : ∀ c2 m2, UpR k ((⟨[], [], [root]⟩, 0) :: pre).reverse c m c2 m2 → m2.ds.length = 1 ∨ (Veil m2.Ok ∧ m2.fits = true ∧ pre.length ≤ 62)) :
    Calls Tryz.prog 31 #[.pointer (some ⟨C, 0, none⟩), kv.vv] w fun e w' => e = .returned .nilIface ∧ ∃ c2 m2, UpR k ((⟨[], [], [root]⟩, 0) :: pre).reverse c m c2 m2 ∧ (m2.ds.length = 1 → ChAt w' C Wb k { c2 with root := m2.ds.getD 0 0 }) ∧ (m2.ds.length ≠ 1 → ∃ p cp, ChAt w' C Wb k { c2.wrote k 0 m2 p cp with root := c2.copyId k 0 }) ∧ Turned (fun x => x = C ∨ x = c.bp) w w' := by
  obtain ⟨t, ht⟩ : ∃ t, pre.length + 2 = t := ⟨_, rfl⟩
  have HT1 : Veil _ := ⟨And.intro ht hlen⟩
  have HB1 : Veil (Below w.heap.size w (w.alloc (.cells #[.string ⟨kv.k.toArray⟩, .string ⟨kv.v.toArray⟩] 37)) ∧ w.heap.size < (w.alloc (.cells #[.string ⟨kv.k.toArray⟩, .string ⟨kv.v.toArray⟩] 37)).heap.size ∧ (w.alloc (.cells #[.string ⟨kv.k.toArray⟩, .string ⟨kv.v.toArray⟩] 37)).heap[w.heap.size]? = some (.cells #[.string ⟨kv.k.toArray⟩, .string ⟨kv.v.toArray⟩] 37 (0, 0))) := ⟨below_al (Below.refl _ _) _, by simp, heap_alloc_new _ _⟩
  have HBc : Veil (∀ W, Below (w.alloc (.cells #[.string ⟨kv.k.toArray⟩, .string ⟨kv.v.toArray⟩] 37)).heap.size (w.alloc (.cells #[.string ⟨kv.k.toArray⟩, .string ⟨kv.v.toArray⟩] 37)) W → W.cell? ⟨C, 0, none⟩ = some (.pointer (some ⟨Wb, 0, none⟩)) ∧ W.cell? ⟨w.heap.size, 0, none⟩ = some (.string ⟨kv.k.toArray⟩) ∧ Below w.heap.size w W ∧ W.heap[w.heap.size]? = some (.cells #[.string ⟨kv.k.toArray⟩, .string ⟨kv.v.toArray⟩] 37 (0, 0))) := ⟨fun W hW => by
    have h1 := HB1.out.1.trans (hW.mono (Nat.le_of_lt HB1.out.2.1))
    have h2 := (hW.block _ HB1.out.2.1).trans HB1.out.2.2
    exact ⟨(ch_cells ((h1.block _ (lt_of_heap h.cb)).trans h.cb)).1 0, cell_whole (cur := [_, _]) h2 0, h1, h2⟩⟩
  have HWay : Veil (∀ W, Below w.heap.size w W → Calls Tryz.prog 32 #[.pointer (some ⟨Wb, 0, none⟩), .string ⟨kv.k.toArray⟩] W fun e w' => ∃ A ca, e = .returned (.tuple #[.slice (some ⟨A, 0, none⟩) t ca, .nilIface]) ∧ PutY w ((⟨[], [], [root]⟩, 0) :: pre) n i t A ca w' ∧ Below W.heap.size W w') := ⟨fun W hW => (way_any ((hW.block _ (lt_of_heap hwb)).trans hwb) (h.own.below hW) kv.k hkv.1 _ hp (by simp; omega)).mono (by
    rintro e w' ⟨l, v, A, E, rfl, hwn, hl⟩
    obtain ⟨l0, S, ca, rfl, hl0, rfl, hpw⟩ := WayN.put hwn (x := (⟨[], [], [root]⟩, 0) :: pre) hl
    have hll : l0.length = pre.length + 1 := by have := congrArg List.length hl0; simpa using this
    have e2 : l0.length + 1 = t := by omega
    exact ⟨A, ca, by rw [e2], ⟨l0, S, hl0, e2.symm, hpw.first hW⟩, hpw.t⟩)⟩
  have HPut : Veil (∀ W (la : NdP), Veil n.Ok → NdAt W n la → NdFit n la → Calls Tryz.prog 44 #[.agg #[.slice la.pp n.ps.length la.cp, .slice la.pk n.ks.length la.ck, .slice la.pd n.ds.length la.cd], .agg #[.string ⟨kv.k.toArray⟩, .string ⟨kv.v.toArray⟩]] W fun e w' => ∃ a : NdP, e = .returned (.tuple #[.agg #[.slice a.pp m.ps.length a.cp, .slice a.pk m.ks.length a.ck, .slice a.pd m.ds.length a.cd], .int .i64 0]) ∧ NdAt w' m a ∧ NdFit m a ∧ Below W.heap.size W w') := ⟨fun W la hok hat hft => (nput_of hat hft.p hok kv hkv).mono (by
    rintro e w' ⟨v1, v2, v3, rfl, hown, hb⟩
    rw [hput] at hown
    obtain ⟨a, rfl, rfl, rfl, h1, h2⟩ := hown.parts
    exact ⟨a, by rw [hput], h1, h2, hb⟩)⟩
  have HOk : Veil (Veil n.Ok) := ⟨path_last hp⟩
  have HCh : Veil _ := ⟨h⟩
  have HG : Veil _ := ⟨And.intro hgood hcr⟩
  clear h hwb hkv hp hput hgood hcr hlen ht
  rw [Pr.vv]
  obtain ⟨T, hT⟩ : ∃ T : Ch → Nd → World → Prop, T = fun c2 m2 w' => (m2.ds.length = 1 → ChAt w' C Wb k { c2 with root := m2.ds.getD 0 0 }) ∧ (m2.ds.length ≠ 1 → ∃ p cp, ChAt w' C Wb k { c2.wrote k 0 m2 p cp with root := c2.copyId k 0 }) ∧ Turned (fun x => x = C ∨ x = c.bp ∨ w.heap.size ≤ x) w w' := ⟨_, rfl⟩
  suffices hs : Calls Tryz.prog 31 #[.pointer (some ⟨C, 0, none⟩), .agg #[.string ⟨kv.k.toArray⟩, .string ⟨kv.v.toArray⟩]] w fun e w' => e = .returned .nilIface ∧ ∃ c2 m2, UpR k ((⟨[], [], [root]⟩, 0) :: pre).reverse c m c2 m2 ∧ T c2 m2 w' by
    rw [hT] at hs
    refine hs.mono ?_
    rintro e w' ⟨h1, c2, m2, h2, h3, h4, h5⟩
    exact ⟨h1, c2, m2, h2, h3, h4, (h5.wider fun x _ e => by rcases e with e | e | e; exact .inl (.inl e); exact .inl (.inr e); exact .inr e).up⟩
  have HT : Veil _ := ⟨hT⟩
  clear hT
  obtain ⟨x, hx⟩ : ∃ x, (⟨[], [], [root]⟩, 0) :: pre = x := ⟨_, rfl⟩
  rw [hx] at HWay HG ⊢
  clear hx
  go_enter Tryz.func31, Tryz.ntmps31
  go_wp2
  refine region_new [.is (.pointer (some ⟨C, 0, none⟩)), .is (.pointer (some ⟨C, 0, none⟩)), .is (.pointer (some ⟨C, 0, none⟩)), .is (.pointer (some ⟨Wb, 0, none⟩)), .is (.pointer (some ⟨w.heap.size, 0, none⟩)), .is (.string ⟨kv.k.toArray⟩), .gen (fun v W => ∃ p c, v = .tuple #[.slice (some ⟨p, 0, none⟩) t c, .nilIface] ∧ PutY w x n i t p c W) (fun v W W' hb ⟨p, c, h, hz⟩ => ⟨p, c, h, hz.below hb⟩), .gen (fun v W => ∃ p c, v = .tuple #[.slice (some ⟨p, 0, none⟩) t c, .nilIface] ∧ PutY w x n i t p c W) (fun v W W' hb ⟨p, c, h, hz⟩ => ⟨p, c, h, hz.below hb⟩), .gen (fun v W => ∃ p c, v = .slice (some ⟨p, 0, none⟩) t c ∧ PutY w x n i t p c W) (fun v W W' hb ⟨p, c, h, hz⟩ => ⟨p, c, h, hz.below hb⟩), .is .nilIface, .gen (fun v W => ∃ p c, v = .slice (some ⟨p, 0, none⟩) t c ∧ PutY w x n i t p c W) (fun v W W' hb ⟨p, c, h, hz⟩ => ⟨p, c, h, hz.below hb⟩), .is .nilIface]
    [[], [(0, 13)], [(1, 14)], [(2, 15)], [], [(4, 17)], [(3, 16), (5, 18)], [(6, 19)], [(7, 12)], [(7, 12)], [(8, 20)], [(9, 21)]]
    [[], [0], [1], [2], [], [4], [3, 5], [6], [7], [7], [0, 1, 2, 3, 4, 5, 6, 7, 8], [0, 1, 2, 3, 4, 5, 6, 7, 8, 9, 10]]
    [(0, 13), (1, 14), (2, 15), (3, 16), (4, 17), (5, 18), (6, 19), (7, 12), (8, 20), (9, 21), (10, 5), (11, 6)] rfl (by kernel_rfl) ⟨?_, ?_, ?_, ?_, ?_, ?_, ?_, ?_, ?_, ?_, ?_, ?_, trivial⟩ ?_
  · intro vals W hB _
    dsimp only [putsL, slotOf]
    go_wp2
    exact ⟨rfl, Below.refl _ _, rfl⟩
  · intro vals W hB ⟨h0, _⟩
    have h0 : vals 0 = _ := h0
    dsimp only [putsL, slotOf]
    rw [h0]
    go_wp2
    exact ⟨rfl, Below.refl _ _, rfl⟩
  · intro vals W hB ⟨h1, _⟩
    have h1 : vals 1 = _ := h1
    dsimp only [putsL, slotOf]
    rw [h1]
    go_wp2
    exact ⟨rfl, Below.refl _ _, rfl⟩
  · intro vals W hB ⟨h2, _⟩
    have h2 : vals 2 = _ := h2
    have c0 := (HBc.out W hB).1
    dsimp only [putsL, slotOf]
    rw [h2]
    go_wp2
    exact ⟨rfl, Below.refl _ _, rfl⟩
  · intro vals W hB _
    dsimp only [putsL, slotOf]
    go_wp2
    exact ⟨rfl, Below.refl _ _, rfl⟩
  · intro vals W hB ⟨h4, _⟩
    have h4 : vals 4 = _ := h4
    have b0 := (HBc.out W hB).2.1
    dsimp only [putsL, slotOf]
    rw [h4]
    go_wp2
    exact ⟨rfl, Below.refl _ _, rfl⟩
  · intro vals W hB ⟨h3, h5, _⟩
    have h3 : vals 3 = _ := h3
    have h5 : vals 5 = _ := h5
    dsimp only [putsL, slotOf]
    rw [h3, h5]
    go_wp2_with (go_at_call 32; refine (HWay.out _ (HBc.out W hB).2.2.1).mono ?_; rintro e w4 ⟨A4, ca4, rfl, hy4, hb4⟩)
    exact ⟨rfl, hb4, ⟨_, _, rfl, hy4⟩⟩
  · intro vals W hB ⟨⟨pu6, cu6, h6, hz6⟩, _⟩
    have h6 : vals 6 = _ := h6
    dsimp only [putsL, slotOf]
    rw [h6]
    go_wp2
    exact ⟨rfl, Below.refl _ _, ⟨_, _, rfl, hz6⟩⟩
  · intro vals W hB ⟨⟨pu7, cu7, h7, hz7⟩, _⟩
    have h7 : vals 7 = _ := h7
    dsimp only [putsL, slotOf]
    rw [h7]
    go_wp2
    exact ⟨rfl, Below.refl _ _, ⟨_, _, rfl, hz7⟩⟩
  · intro vals W hB ⟨⟨pu7, cu7, h7, hz7⟩, _⟩
    have h7 : vals 7 = _ := h7
    dsimp only [putsL, slotOf]
    rw [h7]
    go_wp2
    exact ⟨rfl, Below.refl _ _, rfl⟩
  · intro vals W hB ⟨h0, h1, h2, h3, h4, h5, ⟨pu6, cu6, h6, hz6⟩, ⟨pu7, cu7, h7, hz7⟩, ⟨pu8, cu8, h8, hz8⟩, _⟩
    have h8 : vals 8 = _ := h8
    dsimp only [putsL, slotOf]
    rw [h8]
    go_wp2
    exact ⟨rfl, Below.refl _ _, ⟨_, _, rfl, hz8⟩⟩
  · intro vals W hB ⟨h0, h1, h2, h3, h4, h5, ⟨pu6, cu6, h6, hz6⟩, ⟨pu7, cu7, h7, hz7⟩, ⟨pu8, cu8, h8, hz8⟩, h9, ⟨pu10, cu10, h10, hz10⟩, _⟩
    have h9 : vals 9 = _ := h9
    dsimp only [putsL, slotOf]
    rw [h9]
    go_wp2
    exact ⟨rfl, Below.refl _ _, rfl⟩
  rintro vals W2 hBW ⟨q0, q1, q2, q3, q4, q5, ⟨pu6, cu6, q6, hz6⟩, ⟨pu7, cu7, q7, hz7⟩, ⟨pu8, cu8, q8, hz8⟩, q9, ⟨pu10, cu10, q10, hz10⟩, q11, -⟩
  have h0 : vals 0 = _ := q0
  have h1 : vals 1 = _ := q1
  have h2 : vals 2 = _ := q2
  have h3 : vals 3 = _ := q3
  have h4 : vals 4 = _ := q4
  have h5 : vals 5 = _ := q5
  have h6 : vals 6 = _ := q6
  have h7 : vals 7 = _ := q7
  have h8 : vals 8 = _ := q8
  have h9 : vals 9 = _ := q9
  have h10 : vals 10 = _ := q10
  have h11 : vals 11 = _ := q11
  dsimp only [putsL]
  rw [h0, h1, h2, h3, h4, h5, h6, h7, h8, h9, h10, h11]
  clear h0 q0 h1 q1 h2 q2 h3 q3 h4 q4 h5 q5 h6 q6 h7 q7 h8 q8 h9 q9 h10 q10 h11 q11
  simp only [List.length_cons, List.length_nil, Nat.reduceAdd, List.drop_succ_cons, List.drop_zero, List.setIfInBounds_toArray, List.set_cons_succ, List.set_cons_zero]

  obtain ⟨l0, S, hl0, htl, hpw⟩ := hz10.ex
  have hpy := hpw.y
  obtain ⟨M, E, v1, v2, v3, y1, y2, y3, y4, hsp⟩ := hpy
  obtain ⟨la, rfl, rfl, rfl, hlat, hlft⟩ := hsp.m.parts
  have hlp := hpw.ptr l0.length (by simp)
  simp only [List.getD_eq_getElem?_getD, List.getElem?_concat_length, Option.getD_some] at hlp
  have hlc : l0.length + 1 ≤ cu10 := hpw.lc
  have hcf := hpw.cf
  obtain ⟨q, hq⟩ : ∃ q, l0.length = q := ⟨_, rfl⟩
  rw [hq] at hlp hlc htl
  have hE : ((t : Int) - 1) = (q : Int) := by omega
  have hqt : q < t := by omega
  have hqc : q < cu10 := by omega
  have htc : t ≤ cu10 := by omega
  have hq0 : (0 : Int) ≤ q := by omega
  have hql : (q : Int) < t := by omega
  have HQ : Veil _ := ⟨And.intro hl0 (And.intro htl hq)⟩
  have HPw : Veil _ := ⟨hpw⟩
  have HSp : Veil _ := ⟨And.intro y1 (And.intro y2 (And.intro y3 (And.intro y4 hsp)))⟩
  have HLa : Veil _ := ⟨And.intro hlat hlft⟩
  clear hz6 hz7 hz8 hz10 hl0 hpw y1 y2 y3 y4 hsp hlat hlft htl hq
  go_wp2
  have HB12 : Veil (Below w.heap.size w W2 ∧ W2.heap[w.heap.size]? = some (.cells #[.string ⟨kv.k.toArray⟩, .string ⟨kv.v.toArray⟩] 37 (0, 0))) := ⟨(HBc.out _ hBW).2.2⟩
  have HPut2 : Veil (∀ W, NdAt W n la → Calls Tryz.prog 44 #[.agg #[.slice la.pp n.ps.length la.cp, .slice la.pk n.ks.length la.ck, .slice la.pd n.ds.length la.cd], .agg #[.string ⟨kv.k.toArray⟩, .string ⟨kv.v.toArray⟩]] W fun e w' => ∃ a : NdP, e = .returned (.tuple #[.agg #[.slice a.pp m.ps.length a.cp, .slice a.pk m.ks.length a.ck, .slice a.pd m.ds.length a.cd], .int .i64 0]) ∧ NdAt w' m a ∧ NdFit m a ∧ Below W.heap.size W w') := ⟨fun W hat => HPut.out W la HOk.out hat HLa.out.2⟩
  have HB0 : Veil (Below W2.heap.size W2 W2.drew) := ⟨(Below.refl _ _).drew⟩
  have HS : Veil (∀ W, Below W2.heap.size W2 W → (W.cell? ⟨S, 0, none⟩ = some (.slice la.pp n.ps.length la.cp) ∧ W.cell? ⟨S, 1, none⟩ = some (.slice la.pk n.ks.length la.ck) ∧ W.cell? ⟨S, 2, none⟩ = some (.slice la.pd n.ds.length la.cd)) ∧ (W.cell? ⟨w.heap.size, 0, none⟩ = some (.string ⟨kv.k.toArray⟩) ∧ W.cell? ⟨w.heap.size, 1, none⟩ = some (.string ⟨kv.v.toArray⟩)) ∧ NdAt W n la) := ⟨fun W hW => by
    have h1 := (hW.block _ (lt_of_heap HSp.out.2.2.2.2.c)).trans HSp.out.2.2.2.2.c
    have h2 := (hW.block _ (lt_of_heap HB12.out.2)).trans HB12.out.2
    exact ⟨⟨cell_whole (cur := [_, _, _, _]) h1 0, cell_whole (cur := [_, _, _, _]) h1 1, cell_whole (cur := [_, _, _, _]) h1 2⟩, ⟨cell_whole (cur := [_, _]) h2 0, cell_whole (cur := [_, _]) h2 1⟩, HLa.out.1.below hW⟩⟩
  clear hlp hlc hcf hqc hBW HBc HB1 HWay HPut
  refine region_pair 12
    [[], [(0, 32)], [(1, 33)], [(2, 34)], [], [(3, 35), (4, 36)], [(5, 37)], [(6, 31)], [(6, 31)], [], [(7, 38), (9, 8)], [(8, 39)]]
    [[], [0], [1], [2], [], [3, 4], [5], [6], [6], [], [0, 1, 2, 3, 4, 5, 6, 7, 9], [0, 1, 2, 3, 4, 5, 6, 7, 8, 9, 10]]
    [(0, 32), (1, 33), (2, 34), (3, 35), (4, 36), (5, 37), (6, 31), (7, 38), (8, 39), (9, 8), (11, 9)]
    (StepF W2.heap.size m) (fun W => Below W2.heap.size W2 W) (nkAt W2.heap.size m [.is (.pointer (some ⟨S, 0, none⟩)), .is (.pointer (some ⟨S, 0, none⟩)), .is (.pointer (some ⟨S, 0, none⟩)), .is (.agg #[.slice la.pp n.ps.length la.cp, .slice la.pk n.ks.length la.ck, .slice la.pd n.ds.length la.cd]), .is (.agg #[.string ⟨kv.k.toArray⟩, .string ⟨kv.v.toArray⟩]), .nd (fun x => .tuple #[x, .int .i64 0]), .nd (fun x => .tuple #[x, .int .i64 0]), .nd (fun x => x), .is (.int .i64 0), .box, .full, .is (.int .i64 0)]) pm10 (fun i => by by_cases e : i = 10; (subst e; exact .inr (by decide)); exact .inl (if_neg e)) rfl (by kernel_rfl) _ rfl (fun _ _ hI hR => StepF.below hI hR) (fun i v u W W' _ hR hf => NK.step _ v u hR hf) HB0.out ⟨?_, ?_, ?_, ?_, ?_, ?_, ?_, ?_, ?_, ?_, ?_, ?_, trivial⟩ ?_
  · intro vals W hB _
    have hB : Below W2.heap.size W2 W := hB
    dsimp only [putsL, slotOf]
    go_wp2
    exact ⟨rfl, .inl (Below.refl _ _), rfl⟩
  · intro vals W hB ⟨h0, _⟩
    have hB : Below W2.heap.size W2 W := hB
    have h0 : vals 0 = _ := h0
    dsimp only [putsL, slotOf]
    rw [h0]
    go_wp2
    exact ⟨rfl, .inl (Below.refl _ _), rfl⟩
  · intro vals W hB ⟨h1, _⟩
    have hB : Below W2.heap.size W2 W := hB
    have h1 : vals 1 = _ := h1
    dsimp only [putsL, slotOf]
    rw [h1]
    go_wp2
    exact ⟨rfl, .inl (Below.refl _ _), rfl⟩
  · intro vals W hB ⟨h2, _⟩
    have hB : Below W2.heap.size W2 W := hB
    have h2 : vals 2 = _ := h2
    obtain ⟨s0, s1, s2⟩ := (HS.out W hB).1
    dsimp only [putsL, slotOf]
    rw [h2]
    go_wp2
    exact ⟨rfl, .inl (Below.refl _ _), rfl⟩
  · intro vals W hB _
    have hB : Below W2.heap.size W2 W := hB
    obtain ⟨e0, e1⟩ := (HS.out W hB).2.1
    dsimp only [putsL, slotOf]
    go_wp2
    exact ⟨rfl, .inl (Below.refl _ _), rfl⟩
  · intro vals W hB ⟨h3, h4, _⟩
    have hB : Below W2.heap.size W2 W := hB
    have h3 : vals 3 = _ := h3
    have h4 : vals 4 = _ := h4
    dsimp only [putsL, slotOf]
    rw [h3, h4]
    go_wp2_with (go_at_call 44; refine (HPut2.out _ (HS.out W hB).2.2).mono ?_; rintro e w4 ⟨a4, rfl, hat4, hft4, hb4⟩)
    exact ⟨rfl, .inl hb4, a4, rfl, hat4, hft4⟩
  · intro vals W hB ⟨h5, _⟩
    have hB : Below W2.heap.size W2 W := hB
    obtain ⟨a5, h5, hat5, hft5⟩ := h5
    have h5 : vals 5 = _ := h5
    dsimp only [putsL, slotOf]
    rw [h5]
    go_wp2
    exact ⟨rfl, .inl (Below.refl _ _), a5, rfl, hat5, hft5⟩
  · intro vals W hB ⟨h6, _⟩
    have hB : Below W2.heap.size W2 W := hB
    obtain ⟨a6, h6, hat6, hft6⟩ := h6
    have h6 : vals 6 = _ := h6
    dsimp only [putsL, slotOf]
    rw [h6]
    go_wp2
    exact ⟨rfl, .inl (Below.refl _ _), a6, rfl, hat6, hft6⟩
  · intro vals W hB ⟨h6, _⟩
    have hB : Below W2.heap.size W2 W := hB
    obtain ⟨a6, h6, hat6, hft6⟩ := h6
    have h6 : vals 6 = _ := h6
    dsimp only [putsL, slotOf]
    rw [h6]
    go_wp2
    exact ⟨rfl, .inl (Below.refl _ _), rfl⟩
  · intro vals W hB _
    have hB : Below W2.heap.size W2 W := hB
    dsimp only [putsL, slotOf]
    go_wp2
    exact ⟨rfl, .inl (below_al (Below.refl _ _) _), _, hB.size, rfl, _, _, _, _, _, _, _, _, _, heap_alloc_new _ _⟩
  · intro vals W hB ⟨_, _, _, _, _, _, _, h7, h9, _⟩
    have hB : Below W2.heap.size W2 W := hB
    obtain ⟨a7, h7, hat7, hft7⟩ := h7
    have h7 : vals 7 = _ := h7
    obtain ⟨g9, hg9, h9, hbox⟩ := h9
    have h9 : vals 9 = _ := h9
    have hbox2 := hbox
    obtain ⟨_, _, _, _, _, _, _, _, _, hgx⟩ := hbox2
    obtain ⟨⟨b0, b1, b2⟩, k0, k1, k2⟩ := pack3 hgx
    dsimp only [putsL, slotOf]
    rw [h7, h9]
    go_wp2
    exact ⟨rfl, .inr ⟨g9, hg9, hbox, (nfull_set hat7 hft7 hbox).1, (nfull_set hat7 hft7 hbox).2⟩, g9, hg9, h9, (nfull_set hat7 hft7 hbox).1⟩
  · intro vals W hB ⟨_, _, _, _, _, _, _, _, h8, _, _, _⟩
    have hB : Below W2.heap.size W2 W := hB
    have h8 : vals 8 = _ := h8
    dsimp only [putsL, slotOf]
    rw [h8]
    go_wp2
    exact ⟨rfl, .inl (Below.refl _ _), rfl⟩
  intro vals W3 hB3 hF
  have hB : Below W2.heap.size W2 W3 := hB3
  have h0 : vals 0 = _ := hF 0 (by decide)
  have h1 : vals 1 = _ := hF 1 (by decide)
  have h2 : vals 2 = _ := hF 2 (by decide)
  have h3 : vals 3 = _ := hF 3 (by decide)
  have h4 : vals 4 = _ := hF 4 (by decide)
  obtain ⟨a5, h5, -, -⟩ := hF 5 (by decide)
  have h5 : vals 5 = _ := h5
  obtain ⟨a6, h6, -, -⟩ := hF 6 (by decide)
  have h6 : vals 6 = _ := h6
  obtain ⟨a7, h7, -, -⟩ := hF 7 (by decide)
  have h7 : vals 7 = _ := h7
  have h8 : vals 8 = _ := hF 8 (by decide)
  obtain ⟨g9, hg9, h9, hfull⟩ := hF 10 (by decide)
  have h9 : vals 9 = _ := h9
  have h11 : vals 11 = _ := hF 11 (by decide)
  dsimp only [putsL]
  rw [h0, h1, h2, h3, h4, h5, h6, h7, h8, h9, h11]
  clear hF h0 h1 h2 h3 h4 h5 h6 h7 h8 h9 h11
  simp only [List.drop_succ_cons, List.drop_zero, List.setIfInBounds_toArray, List.set_cons_succ, List.set_cons_zero]

  obtain ⟨ma, hbx, hmf⟩ := hfull
  have hs3 := (hB3.block _ (lt_of_heap HSp.out.2.2.2.2.c)).trans HSp.out.2.2.2.2.c
  have s0 : W3.cell? ⟨S, 0, none⟩ = some (.slice la.pp n.ps.length la.cp) := cell_whole (cur := [_, _, _, _]) hs3 0
  have s1 : W3.cell? ⟨S, 1, none⟩ = some (.slice la.pk n.ks.length la.ck) := cell_whole (cur := [_, _, _, _]) hs3 1
  have s2 : W3.cell? ⟨S, 2, none⟩ = some (.slice la.pd n.ds.length la.cd) := cell_whole (cur := [_, _, _, _]) hs3 2
  have f0 : W3.frozen? ⟨S, 0, none⟩ = false := frozen_whole hs3 _
  have f1 : W3.frozen? ⟨S, 1, none⟩ = false := frozen_whole hs3 _
  have f2 : W3.frozen? ⟨S, 2, none⟩ = false := frozen_whole hs3 _
  obtain ⟨⟨g0, g1, g2⟩, -⟩ := pack3 hbx.b
  have HI0 : Veil _ := ⟨put_start HCh.out HPw.out HSp.out.1 HSp.out.2.2.1 HSp.out.2.2.2.1 HSp.out.2.2.2.2 hB3 hbx.s hmf (by rw [HQ.out.1]; exact HG.out.1)⟩
  rw [HQ.out.2.2] at HI0
  obtain ⟨l, hl⟩ : ∃ l, l0 ++ [(S, n, i)] = l := ⟨_, rfl⟩
  have hll : l.length = t := by rw [← hl]; have := HQ.out; simp; omega
  have hax : aboveL l q = x.reverse := by rw [← hl]; unfold aboveL; rw [← HQ.out.2.2, List.take_left' rfl, HQ.out.1]
  rw [hl] at HI0
  have HL : Veil _ := ⟨And.intro hll hax⟩
  clear hbx hs3 hmf hax hl hll HS HPut2 HSp HPw HB12
  have hq6 : q ≤ 64 := by have := HT1.out; have := HQ.out.2.1; omega
  go_wp2
  have HRd : Veil (∀ j wr, j + 1 ≤ q → PutI w w.heap.size W2.heap.size pu10 C Wb k c.bp l c m q (j + 1) wr → _) := ⟨fun j wr hj h => put_round h (by rw [HL.out.1]; have := HQ.out.2.1; omega)⟩
  have HCr : Veil (∀ wr, PutI w w.heap.size W2.heap.size pu10 C Wb k c.bp l c m q 0 wr → _) := ⟨fun wr h => put_crown (ca := cu10) (t := t) h (by have := HT1.out; omega) HL.out.1 (by rw [HL.out.2]; intro c2 m2 hup; rcases HG.out.2 c2 m2 hup with h1 | ⟨h1, h2, h3⟩; (exact .inl h1); exact .inr ⟨h1, h2, by have := HT1.out; omega⟩)⟩
  go_loopw [10, 11] (fun lv _ wr => ∃ j : Nat, lv = .int .i64 j ∧ j ≤ q ∧ Veil (PutI w w.heap.size W2.heap.size pu10 C Wb k c.bp l c m q j wr)) (fun lv _ _ => (intOf lv).toNat)
  case atStart => exact ⟨q, rfl, Nat.le_refl _, HI0⟩
  case round =>
    obtain ⟨j, rfl, hjq, hI⟩ := hrel
    cases j with
    | zero =>
      obtain ⟨c2, m2, hup, hcw⟩ := HCr.out _ hI.out
      have HC : Veil _ := ⟨And.intro hup hcw⟩
      clear hup hcw
      go_wp2_with (go_at_call 47; refine (HC.out.2 _ (Below.refl _ _)).mono ?_; rintro e w9 ⟨rfl, h1, h2⟩; have H9 : Veil _ := ⟨And.intro h1 h2⟩; clear h1 h2)
      go_ret
      exact ⟨rfl, c2, m2, by rw [← HL.out.2]; exact HC.out.1, by rw [HT.out]; exact H9.out⟩
    | succ j =>
      obtain ⟨s, a, m', i', hbx, hs, hptr, hcall⟩ := HRd.out j _ hjq hI.out
      have hqt2 := HQ.out.2.1
      have hlt := HL.out.1
      have p1 := hptr j (by omega)
      rw [← hs] at p1
      have p2 := hptr (j + 1) (by omega)
      obtain ⟨S', hS'⟩ : ∃ S', (l.getD (j + 1) (0, Nd.zero, 0)).1 = S' := ⟨_, rfl⟩
      rw [hS'] at p2 hbx
      have b0 : World.cell? _ ⟨S', 0, none⟩ = some (Value.slice a.pp m'.ps.length a.cp) := cell_whole (cur := [_, _, _, _]) hbx 0
      have b1 : World.cell? _ ⟨S', 1, none⟩ = some (Value.slice a.pk m'.ks.length a.ck) := cell_whole (cur := [_, _, _, _]) hbx 1
      have b2 : World.cell? _ ⟨S', 2, none⟩ = some (Value.slice a.pd m'.ds.length a.cd) := cell_whole (cur := [_, _, _, _]) hbx 2
      obtain ⟨t2, ht2⟩ : ∃ t2, j + 1 = t2 := ⟨_, rfl⟩
      have HLy : Veil _ := ⟨hcall⟩
      clear hbx hs hptr hcall hS' hlt
      rw [ht2] at p2 hjq
      have hE2 : ((t2 : Int) - 1) = (j : Int) := by omega
      have hjt : j < t := by omega
      have ht2t : t2 < t := by omega
      have hjt' : (j : Int) < t := by omega
      have ht2t' : (t2 : Int) < t := by omega
      have hj0 : (0 : Int) ≤ j := by omega
      have ht20 : (0 : Int) ≤ t2 := by omega
      have ht21 : (0 : Int) < t2 := by omega
      have HT2 : Veil _ := ⟨ht2⟩
      rw [ht2]
      clear hqt2 ht2 hI HRd HCr HI0
      go_wp2
      obtain ⟨Wd, hWd⟩ : ∃ Wd, wr.drew = Wd := ⟨_, rfl⟩
      refine region_tail 13 (by kernel_rfl) (by kernel_rfl) Wd hWd ?_
      have HBd : Veil (Below wr.heap.size wr Wd) := ⟨by rw [← hWd]; exact (Below.refl _ _).drew⟩
      have p1 : Wd.cell? ⟨pu10, j, none⟩ = some (.pointer (some ⟨s, 0, none⟩)) := by rw [← hWd]; exact p1
      have p2 : Wd.cell? ⟨pu10, t2, none⟩ = some (.pointer (some ⟨S', 0, none⟩)) := by rw [← hWd]; exact p2
      have b0 : Wd.cell? ⟨S', 0, none⟩ = some (.slice a.pp m'.ps.length a.cp) := by rw [← hWd]; exact b0
      have b1 : Wd.cell? ⟨S', 1, none⟩ = some (.slice a.pk m'.ks.length a.ck) := by rw [← hWd]; exact b1
      have b2 : Wd.cell? ⟨S', 2, none⟩ = some (.slice a.pd m'.ds.length a.cd) := by rw [← hWd]; exact b2
      clear hWd
      simp only [List.take_succ_cons, List.take_zero, List.drop_succ_cons, List.drop_zero]
      have hw1 : IntKind.i64.wrap (j : Int) = (j : Int) := by rw [IntKind.wrap_i64]; omega
      have hw2 : IntKind.i64.wrap (t2 : Int) = (t2 : Int) := by rw [IntKind.wrap_i64]; omega
      have hw3 : wrap64 (j : Int) = (j : Int) := by unfold wrap64; omega
      have hw4 : wrap64 (t2 : Int) = (t2 : Int) := by unfold wrap64; omega
      iterate 13
        (refine wpStill_step (fun K hK => ?_)
         go_simp
         try simp only [hw1, hw2, hw3, hw4, hj0, ht20, hjt', ht2t', and_self, if_true, Int.toNat_natCast]
         refine hK _ ?_
         clear hK K)
      refine wpStill_nil ?_
      go_wp2_with (go_at_call 46; refine (HLy.out _ HBd.out).mono ?_; rintro e w9 ⟨rfl, h9⟩; have H9 : Veil _ := ⟨h9⟩; clear h9)
      refine only_normal ?_
      clear p1 p2 b0 b1 b2 hw1 hw2 hw4
      go_wp2
      exact ⟨⟨j, rfl, Nat.le_of_succ_le (by rw [Nat.succ_eq_add_one, HT2.out]; exact hjq), H9⟩, by show j < t2; rw [← HT2.out]; exact Nat.lt_succ_self j⟩
end Go.Proofs.YtokbmimbbeedcaaGreatDoor

/- Trees, by the program: put into a tree of one leaf, or of none. -/
namespace Go.Proofs.YtokbmimbbeedcaaGreatDoor
open Go Go.RowKit Sm

/-- A put that finds room in the only leaf. -/
theorem cput_leaf {w : World} {C Wb : Nat} {k : Wk} {c : Ch} (h : ChAt w C Wb k c) {root : Nat} {al : Al} {p : Option Addr} {cp : Nat} {told : Int} (hwb : w.heap[Wb]? = some (.cells (wkCells k root al p cp told) 78 (0, 0))) (kv : Pr) (hkv : kv.k.length ≤ 1000000 ∧ kv.v.length ≤ 1000000)
    {n m : Nd} (hn : NodeIs k root n) (hds : n.ds.length = 0) (hput : n.putR kv = (m, 0)) (hok : Veil m.Ok) (hs : m.size ≤ 237) (hfit : m.fits = true) (hmy : mineC k c root = true ∨ root = 0) :
    Calls Tryz.prog 31 #[.pointer (some ⟨C, 0, none⟩), kv.vv] w fun e w' => e = .returned .nilIface ∧ ∃ p cp, ChAt w' C Wb k { c.wrote k root m p cp with root := c.copyId k root } ∧ Turned (fun x => x = C ∨ x = c.bp) w w' := by
  have hup : ∀ c2 m2, UpR k ((⟨[], [], [root]⟩, 0) :: ([] : List (Nd × Nat))).reverse c m c2 m2 → ∃ p cp, c2 = c.wrote k root m p cp ∧ m2.ds = [c.copyId k root] := fun c2 m2 hu => by
    have hu' : UpR k [((⟨[], [], [root]⟩ : Nd), 0)] c m c2 m2 := hu
    cases hu' with
    | one p cp h1 h2 =>
      cases h2
      exact ⟨p, cp, rfl, rfl⟩
    | two p p' cp cp' h1 h2 => omega
  refine (cput_any h hwb kv hkv (pre := []) (n := n) (i := n.place kv.k) ⟨hn, rfl, hds⟩ (by simp) hput ?_ ?_).mono ?_
  · show Good k [((⟨[], [], [root]⟩ : Nd), 0)] c m
    exact ⟨rfl, by simp, by simp, by simp, by simp, hok, hmy, fun _ => ⟨hfit, fun _ _ => trivial⟩, fun h1 => by omega⟩
  · intro c2 m2 hu
    obtain ⟨p, cp, -, e⟩ := hup c2 m2 hu
    exact .inl (by rw [e]; rfl)
  · rintro e w' ⟨rfl, c2, m2, hu, h1, -, hfr⟩
    obtain ⟨p, cp, e1, e2⟩ := hup c2 m2 hu
    have h2 := h1 (by rw [e2]; rfl)
    rw [e2, e1] at h2
    exact ⟨rfl, p, cp, h2, hfr⟩
end Go.Proofs.YtokbmimbbeedcaaGreatDoor
