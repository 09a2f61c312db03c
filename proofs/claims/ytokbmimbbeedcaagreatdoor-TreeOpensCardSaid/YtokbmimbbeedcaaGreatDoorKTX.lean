/- Trees, by the program: a work at rest; Put, whole. -/
import Derived.Defers
import Derived.Test.YtokbmimbbeedcaaGreatDoorKTW
namespace Go.Proofs.YtokbmimbbeedcaaGreatDoor
open Go Go.RowKit Sm
attribute [local go_sem] Oper.semAt_some

theorem AlAt.kept {F : Nat → Prop} {w w' : World} {a : Al} {p : Option Addr} {c : Nat} (h : AlAt w a p c) (ht : Turned F w w') (hF : a.l ≠ [] → ∀ b, p = some b → ¬ F b.block) : AlAt w' a p c := by
  refine ⟨?_, fun b hp => ⟨Nat.lt_of_lt_of_le (h.old b hp).1 ht.size, (h.old b hp).2⟩, h.len, h.few, h.none, h.ok⟩
  by_cases hn : a.l = []
  · rw [hn]; exact Sps.nil _ _
  · exact h.s.turned ht (hF hn)
theorem al_apart_map {w : World} {a : Al} {p : Option Addr} {c b : Nat} {es : Array MapEntry} {cl : Nat} (h : AlAt w a p c) (hm : w.heap[b]? = some (.map es cl)) : a.l ≠ [] → ∀ x, p = some x → x.block ≠ b := fun hn x hx e => by
  obtain ⟨g, o, hp, hr⟩ := h.s hn
  rw [hp] at hx
  cases hx
  dsimp only at e
  subst e
  have h0 := (hr 0 (List.length_pos_iff.2 hn)).1
  unfold World.cell? at h0
  dsimp only at h0
  rw [hm] at h0
  cases h0
theorem al_apart_wk {w : World} {a : Al} {p : Option Addr} {c b : Nat} {t : TypeId} {v0 v8 : Value} {x1 x2 x3 x5 x6 x9 : Int} {p4 : Option Addr} {n4 c4 m7 : Nat} (h : AlAt w a p c) (hm : w.heap[b]? = some (.cells #[v0, .int .u32 x1, .int .u32 x2, .int .u32 x3, .slice p4 n4 c4, .int .u64 x5, .int .u64 x6, .map (some m7), v8, .int .i64 x9] t (0, 0))) : a.l ≠ [] → ∀ x, p = some x → x.block ≠ b := fun hn x hx e => by
  obtain ⟨g, o, hp, hr⟩ := h.s hn
  rw [hp] at hx
  cases hx
  dsimp only at e
  subst e
  have h0 := (hr 0 (List.length_pos_iff.2 hn)).1
  have h1 := (hr 0 (List.length_pos_iff.2 hn)).2
  have e0 : w.cell? ⟨g, o, none⟩ = [v0, .int .u32 x1, .int .u32 x2, .int .u32 x3, .slice p4 n4 c4, .int .u64 x5, .int .u64 x6, .map (some m7), v8, .int .i64 x9][o]? := cell_whole (cur := [v0, .int .u32 x1, .int .u32 x2, .int .u32 x3, .slice p4 n4 c4, .int .u64 x5, .int .u64 x6, .map (some m7), v8, .int .i64 x9]) hm o
  have e1 : w.cell? ⟨g, o + 1, none⟩ = [v0, .int .u32 x1, .int .u32 x2, .int .u32 x3, .slice p4 n4 c4, .int .u64 x5, .int .u64 x6, .map (some m7), v8, .int .i64 x9][o + 1]? := cell_whole (cur := [v0, .int .u32 x1, .int .u32 x2, .int .u32 x3, .slice p4 n4 c4, .int .u64 x5, .int .u64 x6, .map (some m7), v8, .int .i64 x9]) hm (o + 1)
  rw [Nat.zero_mul, Nat.add_zero, e0] at h0
  rw [Nat.zero_mul, Nat.add_zero, e1] at h1
  match o, h0, h1 with
  | 0, _, h1 => simp at h1
  | 1, _, h1 => simp at h1
  | 2, _, h1 => simp at h1
  | 3, _, h1 => simp at h1
  | 4, h0, _ => simp at h0
  | 5, h0, _ => simp at h0
  | 6, h0, _ => simp at h0
  | 7, h0, _ => simp at h0
  | 8, _, h1 => simp at h1
  | 9, h0, _ => simp at h0
  | _ + 10, h0, _ => simp at h0
theorem al_apart_one {w : World} {a : Al} {p : Option Addr} {c b : Nat} {t : TypeId} {x : Value} (h : AlAt w a p c) (hm : w.heap[b]? = some (.cells #[x] t (0, 0))) : a.l ≠ [] → ∀ y, p = some y → y.block ≠ b := fun hn y hy e => by
  obtain ⟨g, o, hp, hr⟩ := h.s hn
  rw [hp] at hy
  cases hy
  dsimp only at e
  subst e
  have h1 := (hr 0 (List.length_pos_iff.2 hn)).2
  rw [Nat.zero_mul, Nat.add_zero, cell_whole (cur := [x]) hm (o + 1)] at h1
  simp at h1
/-- A work at rest, of which no page of the disk was let go. -/
structure WrkAt (w : World) (Wb : Nat) (k : Wk) (root : Nat) (al : Al) (p : Option Addr) (cp : Nat) : Prop where
  wb : w.heap[Wb]? = some (.cells (wkCells k root al p cp 0) 78 (0, 0))
  al : AlAt w al p cp
  own : MapAt w k.bo Pg.v k.own
  gn : ∃ cl, w.heap[k.bg]? = some (.map #[] cl)
  nb : k.bg ≠ k.bo
theorem WrkAt.kept {F : Nat → Prop} {w w' : World} {Wb : Nat} {k : Wk} {root : Nat} {al : Al} {p : Option Addr} {cp : Nat} (h : WrkAt w Wb k root al p cp) (ht : Turned F w w') (h1 : ¬ F Wb) (h2 : al.l ≠ [] → ∀ b, p = some b → ¬ F b.block) (h3 : ¬ F k.bo) (h4 : ¬ F k.bg) : WrkAt w' Wb k root al p cp := by
  obtain ⟨cl, hg⟩ := h.gn
  exact ⟨ht.heap h.wb h1, h.al.kept ht h2, h.own.turned ht h3, ⟨cl, (ht.block _ (Array.getElem?_eq_some_iff.1 hg).1 h4).trans hg⟩, h.nb⟩
theorem WrkAt.below {w w' : World} {Wb : Nat} {k : Wk} {root : Nat} {al : Al} {p : Option Addr} {cp : Nat} (h : WrkAt w Wb k root al p cp) (hb : Below w.heap.size w w') : WrkAt w' Wb k root al p cp :=
  h.kept (Turned.new hb : Turned (fun _ => False) w w') (fun e => e) (fun _ _ _ e => e) (fun e => e) (fun e => e)
theorem cells_ne {w : World} {a b : Nat} {c d : Array Value} {t u : TypeId} {f g : Nat × Nat} (h : w.heap[a]? = some (.cells c t f)) (k : w.heap[b]? = some (.cells d u g)) (hs : c.size ≠ d.size) : a ≠ b := by
  rintro rfl
  rw [h] at k
  cases k
  exact hs rfl

/-- What a change comes to, in the work. -/
structure EndQ (Wb : Nat) (k : Wk) (c : Ch) (F : Nat → Prop) (w w' : World) : Prop where
  ex : ∃ own', w'.heap[Wb]? = some (.cells (wkCells k c.root c.al c.p c.cp 0) 78 (0, 0)) ∧ MapAt w' k.bo Pg.v own' ∧ ∀ id, mget own' id = doneC c.pages k.own id
  t : Turned (fun x => x = Wb ∨ x = k.bo ∨ F x) w w'

set_option maxRecDepth 20000 in
set_option maxHeartbeats 1000000 in
theorem putd_any {w : World} {C Wb : Nat} {k : Wk} {c : Ch} (h : ChAt w C Wb k c) {root : Nat} {al : Al} {p : Option Addr} {cp : Nat} {told : Int} (hwb : w.heap[Wb]? = some (.cells (wkCells k root al p cp told) 78 (0, 0))) (hf : c.full = .nilIface) (hg : c.vg = .slice none 0 0)
    (b6 b5 b4 : Nat) (t6 t5 t4 : TypeId) (x : Value) (h6 : w.heap[b6]? = some (.cells #[.pointer (some ⟨C, 0, none⟩)] t6 (0, 0))) (h5 : w.heap[b5]? = some (.cells #[.nilIface] t5 (0, 0))) (h4 : w.heap[b4]? = some (.cells #[x] t4 (0, 0))) (u : FrameMode) :
    CallsD Tryz.prog 29 #[.pointer (some ⟨b6, 0, none⟩), .pointer (some ⟨b5, 0, none⟩), .pointer (some ⟨b4, 0, none⟩)] u w fun e u' w' => u' = u ∧ (e = .returned (.tuple #[]) ∧ w'.heap[b4]? = some (.cells #[.int .i64 0] t4 (0, 0)) ∧ EndQ Wb k c (· = b4) w w') := by
  have HE : Veil _ := ⟨cend_any h hwb hf hg⟩
  have e6 := cell_row1 h6
  have e5 := cell_row1 h5
  obtain ⟨es, cl, hmo, -⟩ := h.own.row
  have n1 : b4 ≠ Wb := cells_ne h4 hwb (by simp [wkCells])
  have n2 : b4 ≠ k.bo := map_ne_cells h4 hmo
  have HN : Veil _ := ⟨And.intro n1 n2⟩
  have H4 : Veil _ := ⟨h4⟩
  clear h hwb hf hg h6 h5 h4 hmo n1 n2
  go_enter_d Tryz.func29, Tryz.ntmps29
  go_wp2_with (go_at_call 30; refine HE.out.mono ?_; rintro e w2 ⟨rfl, own', q1, q2, q3, q4⟩; have HQ : Veil _ := ⟨And.intro q1 (And.intro q2 (And.intro q3 q4))⟩; have h42 := q4.heap H4.out (fun e => by rcases e with e | e; exact HN.out.1 e; exact HN.out.2 e); have H42 : Veil _ := ⟨h42⟩; have c4 := cell_row1 h42; have f4 : w2.frozen? ⟨b4, 0, none⟩ = false := frozen_whole h42 _; clear q1 q2 q3 q4 h42)
  go_end0
  obtain ⟨q1, q2, q3, q4⟩ := HQ.out
  have hT : Turned (· = b4) w2 (w2.setCell ⟨b4, 0, none⟩ (.int .i64 0)) := (Turned.refl (· = b4) w2).setCell (p := ⟨b4, 0, none⟩) rfl _
  exact ⟨rfl, heap_setCell_at H42.out 0 _, ⟨own', hT.heap q1 (fun e => HN.out.1 e.symm), q2.turned hT (fun e => HN.out.2 e.symm), q3⟩, (q4.wider fun y _ e => by rcases e with e | e; exact .inl e; exact .inr (.inl e)).trans (hT.wider fun y _ e => .inr (.inr e))⟩
end Go.Proofs.YtokbmimbbeedcaaGreatDoor

/- Trees, by the program: Put, whole. -/
namespace Go.Proofs.YtokbmimbbeedcaaGreatDoor
open Go Go.RowKit Sm
attribute [local go_sem] Oper.semAt_some

theorem refused_of {w : World} {Wb : Nat} {k : Wk} {root : Nat} {al : Al} {p : Option Addr} {cp : Nat} {told : Int} (hwb : w.heap[Wb]? = some (.cells (wkCells k root al p cp told) 78 (0, 0))) (key v : List UInt8) : ∀ W g, Below w.heap.size w W → W.heap[g]? = some (.cells #[.string ⟨v.toArray⟩] 9 (0, 0)) → Calls Tryz.prog 27 #[.pointer (some ⟨Wb, 0, none⟩), .string ⟨key.toArray⟩, .slice (some ⟨g, 0, none⟩) 1 1] W fun e w' => e = .returned (.int .i64 (refS told key [v])) ∧ w' = W :=
  fun W g hb hg => refusal_of (vs := [v]) ⟨ended_any ((hb.block _ (lt_of_heap hwb)).trans hwb)⟩ key (some ⟨g, 0, none⟩) 1 (fun _ => ⟨g, 0, rfl, fun i j hi hj => by
    have h1 : i = 0 := by simpa using hi
    have h2 : j = 0 := by have : j < 1 := hj; omega
    subst h1; subst h2
    exact cell_row1 hg⟩) (by simp)
/-- Put's boxes behind begin: the pair, the number, the error. -/
structure PbI (w : World) (b5 : Nat) (key v : List UInt8) (W : World) : Prop where
  b3 : W.heap[w.heap.size]? = some (.cells #[.string ⟨key.toArray⟩, .string ⟨v.toArray⟩] 37 (0, 0))
  b4 : W.heap[w.heap.size + 1]? = some (.cells #[.int .i64 0] 26 (0, 0))
  e5 : W.heap[b5]? = some (.cells #[.nilIface] 81 (0, 0))
  ne : w.heap.size + 1 < b5
section
variable {w : World} {b5 : Nat} {key v : List UInt8} {W W' : World}
theorem PbI.kept {F : Nat → Prop} (h : PbI w b5 key v W) (ht : Turned F W W') (h1 : ∀ x, F x → x ≠ w.heap.size ∧ x ≠ w.heap.size + 1 ∧ x ≠ b5) : PbI w b5 key v W' :=
  ⟨ht.heap h.b3 (fun e => (h1 _ e).1 rfl), ht.heap h.b4 (fun e => (h1 _ e).2.1 rfl), ht.heap h.e5 (fun e => (h1 _ e).2.2 rfl), h.ne⟩
theorem PbI.below (h : PbI w b5 key v W) (hb : Below W.heap.size W W') : PbI w b5 key v W' := h.kept (Turned.new hb : Turned (fun _ => False) W W') (fun _ e => e.elim)
end

set_option maxRecDepth 20000 in
set_option maxHeartbeats 4000000 in
/-- Put, out of what its change comes to. -/
theorem wput_of {w : World} {Wb : Nat} {k : Wk} {root : Nat} {al : Al} {p : Option Addr} {cp : Nat} (h : WrkAt w Wb k root al p cp) (kv : Pr) (hr : refS 0 kv.k [kv.v] = 0) (Q : Nat → Ch → Prop)
    (hput : ∀ W C bp, ChAt W C Wb k ⟨root, al, p, cp, [], bp, .slice none 0 0, .nilIface⟩ → W.heap[Wb]? = some (.cells (wkCells k root al p cp 0) 78 (0, 0)) → Calls Tryz.prog 31 #[.pointer (some ⟨C, 0, none⟩), kv.vv] W fun e w' => e = .returned .nilIface ∧ ∃ c2, Q bp c2 ∧ ChAt w' C Wb k c2 ∧ c2.full = .nilIface ∧ c2.vg = .slice none 0 0 ∧ Turned (fun x => x = C ∨ x = bp) W w') :
    Calls Tryz.prog 12 #[.pointer (some ⟨Wb, 0, none⟩), kv.vv] w fun e w' => e = .returned (.int .i64 0) ∧ ∃ bp c2 own', Q bp c2 ∧ WrkAt w' Wb { k with own := own' } c2.root c2.al c2.p c2.cp ∧ (∀ id, mget own' id = doneC c2.pages k.own id) ∧ Turned (fun x => x = Wb ∨ x = k.bo) w w' := by
  have HRf : Veil _ := ⟨refused_of h.wb kv.k kv.v⟩
  rw [hr] at HRf
  have HW : Veil _ := ⟨h⟩
  have HBg : Veil (∀ W, Below w.heap.size w W → Calls Tryz.prog 28 #[.pointer (some ⟨Wb, 0, none⟩)] W fun e w' => ∃ C bp, e = .returned (.pointer (some ⟨C, 0, none⟩)) ∧ ChAt w' C Wb k ⟨root, al, p, cp, [], bp, .slice none 0 0, .nilIface⟩ ∧ W.heap.size ≤ bp ∧ W.heap.size ≤ C ∧ Below W.heap.size W w') := ⟨fun W hb => (begin_at (h.below hb).wb (h.below hb).al (h.below hb).own).mono (by
    rintro e w' ⟨rfl, h1, h2⟩
    exact ⟨_, _, rfl, h1, Nat.le_refl _, by omega, h2⟩)⟩
  have HPut : Veil _ := ⟨hput⟩
  obtain ⟨key, v⟩ := kv
  unfold Pr.vv at HPut ⊢
  dsimp only at *
  clear hput hr h
  have HL : Veil (∀ W, W = ((w.alloc (.cells #[.string ⟨key.toArray⟩, .string ⟨v.toArray⟩] 37)).alloc (.cells #[.int .i64 0] 26)) → W.cell? ⟨w.heap.size, 0, none⟩ = some (.string ⟨key.toArray⟩) ∧ W.cell? ⟨w.heap.size, 1, none⟩ = some (.string ⟨v.toArray⟩) ∧ NumC w 0 (W.alloc (.cells #[.string ⟨v.toArray⟩] 9)) ∧ (W.alloc (.cells #[.string ⟨v.toArray⟩] 9)).heap[w.heap.size + 1 + 1]? = some (.cells #[.string ⟨v.toArray⟩] 9 (0, 0)) ∧ (W.alloc (.cells #[.string ⟨v.toArray⟩] 9)).heap[w.heap.size]? = some (.cells #[.string ⟨key.toArray⟩, .string ⟨v.toArray⟩] 37 (0, 0))) := ⟨fun W hW => by
    have k1 : Below w.heap.size w (w.alloc (.cells #[.string ⟨key.toArray⟩, .string ⟨v.toArray⟩] 37)) := below_al (Below.refl _ _) _
    have x1 : (w.alloc (.cells #[.string ⟨key.toArray⟩, .string ⟨v.toArray⟩] 37)).heap[w.heap.size]? = some (.cells #[.string ⟨key.toArray⟩, .string ⟨v.toArray⟩] 37 (0, 0)) := heap_alloc_new _ _
    have z1 : (w.alloc (.cells #[.string ⟨key.toArray⟩, .string ⟨v.toArray⟩] 37)).heap.size = w.heap.size + 1 := by simp
    generalize w.alloc (.cells #[.string ⟨key.toArray⟩, .string ⟨v.toArray⟩] 37) = u1 at k1 x1 z1 hW
    have x2 : W.heap[w.heap.size + 1]? = some (.cells #[.int .i64 0] 26 (0, 0)) := by rw [hW, ← z1]; exact heap_alloc_new _ _
    have z2 : W.heap.size = w.heap.size + 1 + 1 := by rw [hW]; simp [z1]
    have k2 : Below u1.heap.size u1 W := by rw [hW]; exact below_al (Below.refl _ _) _
    have k3 : Below W.heap.size W (W.alloc (.cells #[.string ⟨v.toArray⟩] 9)) := below_al (Below.refl _ _) _
    have x3 := (k2.block _ (lt_of_heap x1)).trans x1
    exact ⟨cell_whole (cur := [_, _]) x3 0, cell_whole (cur := [_, _]) x3 1, ⟨(k3.block _ (lt_of_heap x2)).trans x2, (k1.trans (k2.mono (by omega))).trans (k3.mono (by have := k2.size; omega))⟩, by rw [← z2]; exact heap_alloc_new _ _, (k3.block _ (lt_of_heap x3)).trans x3⟩⟩
  obtain ⟨p0, p1, hn, hg, hx3⟩ := HL.out _ rfl
  have HN : Veil _ := ⟨And.intro hn (And.intro hg hx3)⟩
  clear HL hn hg hx3
  have HF : Veil (∀ W, NumC w 0 W → W.heap[w.heap.size]? = some (.cells #[.string ⟨key.toArray⟩, .string ⟨v.toArray⟩] 37 (0, 0)) → PbI w W.heap.size key v ((W.setCell ⟨w.heap.size + 1, 0, none⟩ (.int .i64 0)).alloc (.cells #[.nilIface] 81)) ∧ Below w.heap.size w ((W.setCell ⟨w.heap.size + 1, 0, none⟩ (.int .i64 0)).alloc (.cells #[.nilIface] 81)) ∧ (W.cell? ⟨w.heap.size + 1, 0, none⟩ = some (.int .i64 0) ∧ W.frozen? ⟨w.heap.size + 1, 0, none⟩ = false ∧ w.heap.size + 1 < W.heap.size) ∧ (W.setCell ⟨w.heap.size + 1, 0, none⟩ (.int .i64 0)).cell? ⟨w.heap.size + 1, 0, none⟩ = some (.int .i64 0)) := ⟨fun W h hx => by
    obtain ⟨h1, h2⟩ := h.set
    have hT : Turned (· = w.heap.size + 1) W (W.setCell ⟨w.heap.size + 1, 0, none⟩ (.int .i64 0)) := (Turned.refl (· = w.heap.size + 1) W).setCell (p := ⟨w.heap.size + 1, 0, none⟩) rfl _
    have hx2 := hT.heap hx (by omega)
    have hz : (W.setCell ⟨w.heap.size + 1, 0, none⟩ (.int .i64 0)).heap.size = W.heap.size := by simp
    have hb : Below (W.setCell ⟨w.heap.size + 1, 0, none⟩ (.int .i64 0)).heap.size (W.setCell ⟨w.heap.size + 1, 0, none⟩ (.int .i64 0)) ((W.setCell ⟨w.heap.size + 1, 0, none⟩ (.int .i64 0)).alloc (.cells #[.nilIface] 81)) := below_al (Below.refl _ _) _
    exact ⟨⟨(hb.block _ (lt_of_heap hx2)).trans hx2, (hb.block _ (lt_of_heap h1)).trans h1, by rw [← hz]; exact heap_alloc_new _ _, lt_of_heap h.b⟩, alb_then h2 hb, ⟨cell_row1 h.b, frozen_whole h.b _, lt_of_heap h.b⟩, cell_row1 h1⟩⟩
  have HS6 : Veil (∀ w2 : World, ∀ w3 C bp, ChAt w3 C Wb k ⟨root, al, p, cp, [], bp, .slice none 0 0, .nilIface⟩ → ∀ (u1 : World), u1.heap.size ≤ bp → u1.heap.size ≤ C → w2.heap.size < u1.heap.size → PbI w w2.heap.size key v u1 → Below w.heap.size w u1 → Below u1.heap.size u1 w3 →
      (ChAt (w3.alloc (.cells #[.pointer (some ⟨C, 0, none⟩)] 82)) C Wb k ⟨root, al, p, cp, [], bp, .slice none 0 0, .nilIface⟩ ∧ (w3.alloc (.cells #[.pointer (some ⟨C, 0, none⟩)] 82)).heap[Wb]? = some (.cells (wkCells k root al p cp 0) 78 (0, 0))) ∧
      Veil (∀ w7, Turned (fun x => x = C ∨ x = bp) (w3.alloc (.cells #[.pointer (some ⟨C, 0, none⟩)] 82)) w7 → PbI w w2.heap.size key v w7 ∧ w7.heap[w3.heap.size]? = some (.cells #[.pointer (some ⟨C, 0, none⟩)] 82 (0, 0)) ∧ Turned (fun x => w.heap.size ≤ x) w w7 ∧ w7.heap[Wb]? = some (.cells (wkCells k root al p cp 0) 78 (0, 0)))) := ⟨fun w2 w3 C bp hc u1 hbp hC hz hP hb hb3 => by
    have hb6 : Below w3.heap.size w3 (w3.alloc (.cells #[.pointer (some ⟨C, 0, none⟩)] 82)) := below_al (Below.refl _ _) _
    have hwb6 := (((HW.out.below hb).below hb3).below hb6).wb
    have hn := heap_alloc_new w3 (.cells #[.pointer (some ⟨C, 0, none⟩)] 82)
    have hP6 := (hP.below hb3).below hb6
    have hl1 := lt_of_heap hc.cb
    have hl2 := hc.pages.lt
    have hl3 := lt_of_heap HW.out.wb
    have hsz := hb.size
    have hsz3 := hb3.size
    have hne := hP.ne
    refine ⟨⟨hc.below hb6, hwb6⟩, ⟨fun w7 ht => ⟨hP6.kept ht (fun x e => by dsimp only at hl2; rcases e with e | e <;> (subst e; refine ⟨?_, ?_, ?_⟩ <;> omega)), ht.heap hn (fun e => by dsimp only at hl2; rcases e with e | e <;> omega), ?_, ht.heap hwb6 (fun e => by rcases e with e | e <;> omega)⟩⟩⟩
    refine ((Turned.new ((hb.trans (hb3.mono hsz)).trans (hb6.mono (Nat.le_trans hsz hsz3))))).trans (ht.wider fun x _ e => ?_)
    rcases e with e | e <;> (show w.heap.size ≤ x; omega)⟩
  go_enter_defers Tryz.func12, Tryz.ntmps12
  go_wp2_with (first
    | (go_at_call 31; refine (HPut.out _ _ _ HC6.out.1 HC6.out.2).mono ?_; rintro e w7 ⟨rfl, c2, hQ7, hc7, hf7, hg7, ht7⟩; obtain ⟨hp7, hb7, ha7, hd7⟩ := HK7.out w7 ht7; have HQ7 : Veil _ := ⟨And.intro hQ7 (And.intro hc7 (And.intro hf7 hg7))⟩; have HT7 : Veil _ := ⟨ht7⟩; have HP7 : Veil _ := ⟨And.intro hp7 hb7⟩; have m5 := cell_row1 hp7.e5; have g5 : w7.frozen? ⟨w2.heap.size, 0, none⟩ = false := frozen_whole hp7.e5 _; have m4 := cell_row1 hp7.b4; have g4 : w7.frozen? ⟨w.heap.size + 1, 0, none⟩ = false := frozen_whole hp7.b4 _; have l5 := lt_of_heap hp7.e5; have l4 := lt_of_heap hp7.b4; have hs5 := same_cell m5; have h47 := (hs5.block _ l4).trans hp7.b4; have y4 := cell_row1 h47; have k4 : (w7.setCell ⟨w2.heap.size, 0, none⟩ .nilIface).frozen? ⟨w.heap.size + 1, 0, none⟩ = false := frozen_whole h47 _; have n54 : w2.heap.size ≠ w.heap.size + 1 := (by have := hp7.ne; omega); have n45 : w.heap.size + 1 ≠ w2.heap.size := n54.symm; clear hs5 h47 hQ7 hc7 hf7 hg7 ht7 hp7 hb7)
    | (go_at_call 28; refine (HBg.out _ HP5.out.2).mono ?_; rintro e w3 ⟨C, bp, rfl, hc3, hbp3, hC3, hb3⟩; have h6 := HS6.out w2 w3 C bp hc3 _ hbp3 hC3 (by rw [World.size_alloc, World.size_setCell]; exact Nat.lt_succ_self _) HP5.out.1 HP5.out.2 hb3; obtain ⟨HC6a, HK7⟩ := h6; have HC6 : Veil _ := ⟨HC6a⟩; have q3 := (HP5.out.1.below hb3).b3; have q0 := cell_whole (cur := [_, _]) q3 0; have q1 := cell_whole (cur := [_, _]) q3 1; simp only [List.getElem?_cons_zero, List.getElem?_cons_succ] at q0 q1; have lq := lt_of_heap q3; clear HC6a q3 hc3 hbp3 hC3 hb3 x0 f0 z0 y0)
    | (go_at_call 27; refine (HRf.out _ _ HN.out.1.t HN.out.2.1).mono ?_; rintro e w2 ⟨rfl, hw⟩; have HNC : Veil (NumC w 0 w2) := ⟨by rw [hw]; exact HN.out.1⟩; have HX3 : Veil (w2.heap[w.heap.size]? = some (.cells #[.string ⟨key.toArray⟩, .string ⟨v.toArray⟩] 37 (0, 0))) := ⟨by rw [hw]; exact HN.out.2.2⟩; clear hw HN HRf p0 p1; obtain ⟨h1, h2, ⟨x0, f0, z0⟩, y0⟩ := HF.out _ HNC.out HX3.out; have HP5 : Veil _ := ⟨And.intro h1 h2⟩; clear h1 h2))
  have hs5 := same_cell m5
  have hs4 := same_cell y4
  have hB8 : Below w7.heap.size w7 ((w7.setCell ⟨w2.heap.size, 0, none⟩ .nilIface).setCell ⟨w.heap.size + 1, 0, none⟩ (.int .i64 0)) := hs5.trans (hs4.mono (by simp))
  obtain ⟨w8, hw8⟩ : ∃ w8, (w7.setCell ⟨w2.heap.size, 0, none⟩ .nilIface).setCell ⟨w.heap.size + 1, 0, none⟩ (.int .i64 0) = w8 := ⟨_, rfl⟩
  rw [hw8] at hB8 ⊢
  have hp8 := HP7.out.1.below hB8
  have h68 := (hB8.block _ (lt_of_heap HP7.out.2)).trans HP7.out.2
  have hwb8 := (hB8.block _ (lt_of_heap hd7)).trans hd7
  obtain ⟨hQ7, hc7, hf7, hg7⟩ := HQ7.out
  have hc8 := hc7.below hB8
  refine leaves_cons (f := 29) (args := #[.pointer (some ⟨w3.heap.size, 0, none⟩), .pointer (some ⟨w2.heap.size, 0, none⟩), .pointer (some ⟨w.heap.size + 1, 0, none⟩)]) (by simp) (by simp [go_sem]) ?_
  refine (putd_any hc8 hwb8 hf7 hg7 _ _ _ _ _ _ _ h68 hp8.e5 hp8.b4 .returning).mono ?_
  rintro e u' w9 ⟨rfl, rfl, h49, hE⟩
  refine ⟨_, results_errno (g := w.heap.size + 1) rfl rfl h49, rfl, bp, c2, ?_⟩
  obtain ⟨own', e1, e2, e3⟩ := hE.ex
  have ht9 := hE.t
  obtain ⟨es, cl, hmo, -⟩ := hc8.own.row
  obtain ⟨clg, hgn⟩ := HW.out.gn
  have hlg := (Array.getElem?_eq_some_iff.1 hgn).1
  have hlw := lt_of_heap HW.out.wb
  have hlo := HW.out.own.lt
  have hT8 : Turned (fun x => w.heap.size ≤ x) w w8 := ha7.trans (Turned.new hB8)
  have hg8 := (hT8.block _ hlg (by omega)).trans hgn
  have hbw : k.bg ≠ Wb := fun e => (map_ne_cells hwb8 hg8) e.symm
  refine ⟨own', hQ7, ⟨e1, hc8.al.kept ht9 (fun hn b hb e => ?_), e2, ⟨clg, ?_⟩, HW.out.nb⟩, e3, ?_⟩
  · rcases e with e | e | e
    · exact al_apart_wk hc8.al hwb8 hn b hb e
    · exact al_apart_map hc8.al hmo hn b hb e
    · exact al_apart_one hc8.al hp8.b4 hn b hb e
  · exact (ht9.block _ (Nat.lt_of_lt_of_le hlg hT8.size) (fun e => by rcases e with e | e | e; exact hbw e; exact HW.out.nb e; omega)).trans hg8
  · have hX : Turned (fun x => (x = Wb ∨ x = k.bo) ∨ w.heap.size ≤ x) w w8 := hT8.wider fun x _ e => Or.inr e
    have hY : Turned (fun x => (x = Wb ∨ x = k.bo) ∨ w.heap.size ≤ x) w8 w9 := ht9.wider fun x _ e => by
      rcases e with e | e | e
      · exact .inl (.inl e)
      · exact .inl (.inr e)
      · exact .inr (by omega)
    exact (hX.trans hY).up
end Go.Proofs.YtokbmimbbeedcaaGreatDoor
