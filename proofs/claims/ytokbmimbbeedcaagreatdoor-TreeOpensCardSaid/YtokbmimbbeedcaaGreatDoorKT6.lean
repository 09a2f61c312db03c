/- Trees, by the program: what a work and a change hold in memory; torn, mine. -/
import Derived.Test.YtokbmimbbeedcaaGreatDoorKOU
import Derived.Test.YtokbmimbbeedcaaGreatDoorKT0
import Derived.Test.YtokbmimbbeedcaaGreatDoorKA4
import Derived.Test.YtokbmimbbeedcaaGreatDoorKO6
import Derived.Test.YtokbmimbbeedcaaGreatDoorKP8
import Derived.Test.YtokbmimbbeedcaaGreatDoorKG
namespace Go.Proofs.YtokbmimbbeedcaaGreatDoor
open Go Go.RowKit Sm
attribute [local go_sem] Oper.semAt_some

theorem torn_any (c : Int) (w : World) : Calls Tryz.prog 45 #[.int .i64 c] w fun e w' => e = .returned (if c = 0 then .nilIface else .iface 131 (.agg #[.int .i64 70])) ∧ w' = w := by
  by_cases h : c = 0
  · subst h
    rw [if_pos rfl]
    go_enter Tryz.func45, Tryz.ntmps45
    go_wp2
    go_ret
    exact ⟨rfl, rfl⟩
  · rw [if_neg h]
    go_enter Tryz.func45, Tryz.ntmps45
    go_wp2
    go_ret
    exact ⟨rfl, rfl⟩

/-- What a work is told by: its disk, its transaction, the oldest one; its pages (of the map's block bo). -/
structure Wk where
  disk : Value
  tx : Nat
  old : Nat
  own : List (Nat × Pg)
  bo : Nat
  bg : Nat
/-- What a change holds: the root, the alloc (its spares at p, with room for cp), the pages (of the map's block bp), what was let go (as a slice), what is told in the end. -/
structure Ch where
  root : Nat
  al : Al
  p : Option Addr
  cp : Nat
  pages : List (Nat × Pg)
  bp : Nat
  vg : Value
  full : Value
def wkCells (k : Wk) (root : Nat) (al : Al) (p : Option Addr) (cp : Nat) (told : Int) : Array Value := #[k.disk, .int .u32 root, .int .u32 al.high, .int .u32 al.most, .slice p al.l.length cp, .int .u64 k.tx, .int .u64 k.old, .map (some k.bo), .map (some k.bg), .int .i64 told]
def chCells (Wb : Nat) (c : Ch) : Array Value := #[.pointer (some ⟨Wb, 0, none⟩), .int .u32 c.root, .int .u32 c.al.high, .int .u32 c.al.most, .slice c.p c.al.l.length c.cp, .map (some c.bp), c.vg, c.full]
structure ChAt (w : World) (C Wb : Nat) (k : Wk) (c : Ch) : Prop where
  cb : w.heap[C]? = some (.cells (chCells Wb c) 120 (0, 0))
  wb : ∃ root al p cp told, w.heap[Wb]? = some (.cells (wkCells k root al p cp told) 78 (0, 0))
  al : AlAt w c.al c.p c.cp
  pages : MapAt w c.bp Pg.v c.pages
  own : MapAt w k.bo Pg.v k.own
  old : ∀ a, c.p = some a → a.block ≠ C ∧ a.block ≠ c.bp
  ne : Wb ≠ C ∧ k.bo ≠ C ∧ C ≠ c.bp ∧ Wb ≠ c.bp ∧ k.bo ≠ c.bp
theorem ch_cells {w : World} {C Wb : Nat} {c : Ch} (h : w.heap[C]? = some (.cells (chCells Wb c) 120 (0, 0))) : (∀ o, w.cell? ⟨C, o, none⟩ = [Value.pointer (some ⟨Wb, 0, none⟩), .int .u32 c.root, .int .u32 c.al.high, .int .u32 c.al.most, .slice c.p c.al.l.length c.cp, .map (some c.bp), c.vg, c.full][o]?) ∧ ∀ o, w.frozen? ⟨C, o, none⟩ = false :=
  ⟨fun o => cell_whole (cur := [Value.pointer (some ⟨Wb, 0, none⟩), .int .u32 c.root, .int .u32 c.al.high, .int .u32 c.al.most, .slice c.p c.al.l.length c.cp, .map (some c.bp), c.vg, c.full]) h o, fun _ => frozen_whole h _⟩
theorem wk_cells {w : World} {Wb : Nat} {k : Wk} {root : Nat} {al : Al} {p : Option Addr} {cp : Nat} {told : Int} (h : w.heap[Wb]? = some (.cells (wkCells k root al p cp told) 78 (0, 0))) : (∀ o, w.cell? ⟨Wb, o, none⟩ = [k.disk, Value.int .u32 root, .int .u32 al.high, .int .u32 al.most, .slice p al.l.length cp, .int .u64 k.tx, .int .u64 k.old, .map (some k.bo), .map (some k.bg), .int .i64 told][o]?) ∧ ∀ o, w.frozen? ⟨Wb, o, none⟩ = false :=
  ⟨fun o => cell_whole (cur := [k.disk, Value.int .u32 root, .int .u32 al.high, .int .u32 al.most, .slice p al.l.length cp, .int .u64 k.tx, .int .u64 k.old, .map (some k.bo), .map (some k.bg), .int .i64 told]) h o, fun _ => frozen_whole h _⟩

theorem zero_page (w : World) : (zeroValue 114).run Tryz.prog w = .ok (.agg #[.int .i64 0, .int .u32 0, .int .u64 0, .string ⟨#[]⟩]) w := by kernel_rfl
def mineC (k : Wk) (c : Ch) (id : Nat) : Bool := match mget c.pages id with
  | some p => !(decide (p.kind = 0 ∧ p.id = 0 ∧ p.tx = 0 ∧ p.body = []))
  | none => (mget k.own id).isSome

set_option maxRecDepth 20000 in
set_option maxHeartbeats 1000000 in
theorem mine_any {w : World} {C Wb : Nat} {k : Wk} {c : Ch} (h : ChAt w C Wb k c) (id : Nat) : Calls Tryz.prog 91 #[.pointer (some ⟨C, 0, none⟩), .int .u32 id] w fun e w' => e = .returned (.bool (mineC k c id)) ∧ Below w.heap.size w w' := by
  obtain ⟨root, al, p, cp, told, hwb⟩ := h.wb
  obtain ⟨hc, hcf⟩ := ch_cells h.cb
  obtain ⟨hw, hwf⟩ := wk_cells hwb
  have c0 := hc 0
  have c5 := hc 5
  have w7 := hw 7
  have HP : Veil _ := ⟨h.pages⟩
  have HO : Veil _ := ⟨h.own⟩
  simp only [List.getElem?_cons_zero, List.getElem?_cons_succ] at c0 c5 w7
  have hlc : C < w.heap.size := lt_of_heap h.cb
  have hlw : Wb < w.heap.size := lt_of_heap hwb
  unfold mineC
  cases hg : mget c.pages id with
  | some q =>
    have HG : Veil _ := ⟨hg⟩
    obtain ⟨qk, qi, qt, qb⟩ := q
    dsimp only
    clear hg h hwb hc hcf hw hwf
    have HB : Veil (∀ r : Bool, (!decide (qk = 0 ∧ qi = 0 ∧ qt = 0 ∧ qb = [])) = r → Ending.returned (.bool r) = Ending.returned (.bool (!decide (qk = 0 ∧ qi = 0 ∧ qt = 0 ∧ qb = [])))) := ⟨fun r hr => by rw [hr]⟩
    have HS : Veil ((⟨qb.toArray⟩ : ByteArray) = ⟨#[]⟩ ↔ qb = []) := ⟨⟨fun e => by simpa using congrArg ByteArray.data e, fun e => by rw [e]⟩⟩
    go_enter Tryz.func91, Tryz.ntmps91
    go_wp2_with (at_lookup; refine wpList_mget_some rfl _ _ 75 true rfl _ _ Tryz.underlying75 Tryz.underlying23 _ (zero_page _) rfl HP.out id rfl _ HG.out (.agg #[.int .i64 qk, .int .u32 qi, .int .u64 qt, .string ⟨qb.toArray⟩]) rfl ?_)
    all_goals
      go_ret
      refine ⟨HB.out _ ?_, below_al (Below.refl _ _) _⟩
      have hs := HS.out
      simp [*]
  | none =>
    have HG : Veil _ := ⟨hg⟩
    dsimp only
    clear hg
    cases hg : mget k.own id with
    | some q =>
      have HG2 : Veil _ := ⟨hg⟩
      obtain ⟨qk, qi, qt, qb⟩ := q
      clear hg h hwb hc hcf hw hwf
      go_enter Tryz.func91, Tryz.ntmps91
      go_wp2_with (first
        | (at_lookup; refine wpList_mget_some rfl _ _ 75 true rfl _ _ Tryz.underlying75 Tryz.underlying23 _ (zero_page _) rfl (HO.out.below (below_al (Below.refl _ _) _)) id rfl _ HG2.out (.agg #[.int .i64 qk, .int .u32 qi, .int .u64 qt, .string ⟨qb.toArray⟩]) rfl ?_)
        | (at_lookup; refine wpList_mget_none rfl _ _ 75 true rfl _ _ Tryz.underlying75 Tryz.underlying23 (.agg #[.int .i64 0, .int .u32 0, .int .u64 0, .string ⟨#[]⟩]) (zero_page _) rfl HP.out id rfl HG.out ?_))
      go_ret
      exact ⟨rfl, below_al (below_al (Below.refl _ _) _) _⟩
    | none =>
      have HG2 : Veil _ := ⟨hg⟩
      clear hg h hwb hc hcf hw hwf
      go_enter Tryz.func91, Tryz.ntmps91
      go_wp2_with (first
        | (at_lookup; refine wpList_mget_none rfl _ _ 75 true rfl _ _ Tryz.underlying75 Tryz.underlying23 (.agg #[.int .i64 0, .int .u32 0, .int .u64 0, .string ⟨#[]⟩]) (zero_page _) rfl (HO.out.below (below_al (Below.refl _ _) _)) id rfl HG2.out ?_)
        | (at_lookup; refine wpList_mget_none rfl _ _ 75 true rfl _ _ Tryz.underlying75 Tryz.underlying23 (.agg #[.int .i64 0, .int .u32 0, .int .u64 0, .string ⟨#[]⟩]) (zero_page _) rfl HP.out id rfl HG.out ?_))
      go_ret
      exact ⟨rfl, below_al (below_al (Below.refl _ _) _) _⟩
end Go.Proofs.YtokbmimbbeedcaaGreatDoor

/- Trees, by the program: a region that draws its order and lays a call's alloc into a box. -/
namespace Go.Proofs.YtokbmimbbeedcaaGreatDoor
open Go Go.RowKit Sm

def ABox (W : World) (g : Nat) : Prop := ∃ x y z, W.heap[g]? = some (.cells #[x, y, z] 34 (0, 0))
def AFull (W : World) (B : Nat) (t : Al) (g : Nat) : Prop := ∃ p c, W.heap[g]? = some (.cells #[.int .u32 t.high, .int .u32 t.most, .slice p t.l.length c] 34 (0, 0)) ∧ AlNew W B t p c
theorem AlNew.box {W W' : World} {B : Nat} {t : Al} {p : Option Addr} {c g : Nat} (h : AlNew W B t p c) (hg : ABox W g) (ht : Turned (· = g) W W') : AlNew W' B t p c := by
  refine ⟨?_, h.c, h.ok⟩
  rcases h.f with h | ⟨G, h1, h2, h3⟩
  · exact .inl h
  · refine .inr ⟨G, h1, h2, ht.heap h3 (fun e => ?_)⟩
    obtain ⟨x, y, z, hg⟩ := hg
    have e : G = g := e
    rw [e, hg] at h3
    simp at h3
theorem AlNew.turned {F : Nat → Prop} {W W' : World} {B : Nat} {t : Al} {p : Option Addr} {c : Nat} (h : AlNew W B t p c) (ht : Turned F W W') (hF : ∀ k, B ≤ k → ¬ F k) : AlNew W' B t p c := by
  refine ⟨?_, h.c, h.ok⟩
  rcases h.f with h | ⟨G, h1, h2, h3⟩
  · exact .inl h
  · exact .inr ⟨G, h1, h2, ht.heap h3 (hF G h1)⟩
theorem AlNew.less {W : World} {B B' : Nat} {t : Al} {p : Option Addr} {c : Nat} (h : AlNew W B t p c) (hB : B' ≤ B) : AlNew W B' t p c := by
  refine ⟨?_, h.c, h.ok⟩
  rcases h.f with h | ⟨G, h1, h2, h3⟩
  · exact .inl h
  · exact .inr ⟨G, Nat.le_trans hB h1, h2, h3⟩
theorem ABox.below {W W' : World} {g : Nat} (h : ABox W g) (hb : Below W.heap.size W W') : ABox W' g := by
  obtain ⟨x, y, z, hg⟩ := h
  exact ⟨x, y, z, (hb.block _ (lt_of_heap hg)).trans hg⟩
theorem AFull.box {W : World} {B : Nat} {t : Al} {g : Nat} (h : AFull W B t g) : ABox W g := by
  obtain ⟨p, c, h, -⟩ := h
  exact ⟨_, _, _, h⟩
/-- One step: new blocks, or the box filled. -/
def StepA (B : Nat) (t : Al) (W W' : World) : Prop := Below W.heap.size W W' ∨ ∃ g, B ≤ g ∧ ABox W g ∧ AFull W' B t g ∧ Turned (· = g) W W'
section
variable {B g : Nat} {t : Al} {W W' : World}
theorem StepA.below {S : World} (hI : Below S.heap.size S W) (h : StepA S.heap.size t W W') : Below S.heap.size S W' := by
  rcases h with h | ⟨g, h1, -, -, h4⟩
  · exact hI.trans (h.mono hI.size)
  · exact hI.trans (h4.toBelow hI.size (fun k _ e => by omega))
theorem StepA.box (h : StepA B t W W') (hg : ABox W g) : ABox W' g := by
  rcases h with h | ⟨g', h1, h2, h3, h4⟩
  · exact hg.below h
  · by_cases e : g = g'
    · rw [e]; exact h3.box
    · obtain ⟨x, y, z, hg⟩ := hg
      exact ⟨x, y, z, h4.heap hg e⟩
theorem StepA.new {u : Al} {p : Option Addr} {c : Nat} (h : StepA B t W W') (hn : AlNew W B u p c) : AlNew W' B u p c := by
  rcases h with h | ⟨g', h1, h2, h3, h4⟩
  · exact hn.below h
  · exact hn.box h2 h4
theorem StepA.full (h : StepA B t W W') (hg : AFull W B t g) : AFull W' B t g := by
  obtain ⟨p, c, h1, h2⟩ := hg
  have hn := h.new h2
  rcases h with h | ⟨g', k1, k2, k3, k4⟩
  · exact ⟨p, c, (h.block _ (lt_of_heap h1)).trans h1, hn⟩
  · by_cases e : g = g'
    · rw [e]; exact k3
    · exact ⟨p, c, k4.heap h1 e, hn⟩
end
theorem afull_set {W : World} {B g : Nat} {t : Al} {p : Option Addr} {c : Nat} (hg : ABox W g) (hn : AlNew W B t p c) :
    AFull (((W.setCell ⟨g, 0, none⟩ (.int .u32 t.high)).setCell ⟨g, 1, none⟩ (.int .u32 t.most)).setCell ⟨g, 2, none⟩ (.slice p t.l.length c)) B t g ∧
    Turned (· = g) W (((W.setCell ⟨g, 0, none⟩ (.int .u32 t.high)).setCell ⟨g, 1, none⟩ (.int .u32 t.most)).setCell ⟨g, 2, none⟩ (.slice p t.l.length c)) := by
  have hT := ((((Turned.refl (· = g) W).setCell (p := ⟨g, 0, none⟩) rfl (.int .u32 t.high)).setCell (p := ⟨g, 1, none⟩) rfl (.int .u32 t.most)).setCell (p := ⟨g, 2, none⟩) rfl (.slice p t.l.length c))
  have hg' := hg
  obtain ⟨x, y, z, h⟩ := hg
  exact ⟨⟨p, c, set3 h _ _ _, hn.box hg' hT⟩, hT⟩
/-- What an operation tells: a value; a value that the alloc is in; the box; that it is filled. -/
inductive AK where
  | any
  | is (v : Value)
  | al (f : Value → Value)
  | box
  | full
def AK.holds (B : Nat) (t : Al) : AK → Value → Value → World → Prop
  | .any, _, _, _ => True
  | .is x, v, _, _ => v = x
  | .al f, v, _, W => ∃ p c, v = f (.agg #[.int .u32 t.high, .int .u32 t.most, .slice p t.l.length c]) ∧ AlNew W B t p c
  | .box, v, _, W => ∃ g, B ≤ g ∧ v = .pointer (some ⟨g, 0, none⟩) ∧ ABox W g
  | .full, _, u, W => ∃ g, B ≤ g ∧ u = .pointer (some ⟨g, 0, none⟩) ∧ AFull W B t g
theorem AK.step {B : Nat} {t : Al} {W W' : World} (k : AK) (v u : Value) (h : StepA B t W W') (hk : k.holds B t v u W) : k.holds B t v u W' := by
  match k, hk with
  | .any, _ => exact trivial
  | .is x, hk => exact hk
  | .al f, ⟨p, c, h1, h2⟩ => exact ⟨p, c, h1, h.new h2⟩
  | .box, ⟨g, h1, h2, h3⟩ => exact ⟨g, h1, h2, h.box h3⟩
  | .full, ⟨g, h1, h2, h3⟩ => exact ⟨g, h1, h2, h.full h3⟩
def akAt (B : Nat) (t : Al) (ks : List AK) (i : Nat) (v u : Value) (W : World) : Prop := (ks.getD i .any).holds B t v u W
def pm18 (i : Nat) : Nat := if i = 18 then 17 else i
end Go.Proofs.YtokbmimbbeedcaaGreatDoor

/- Trees, by the program: a page taken. -/
namespace Go.Proofs.YtokbmimbbeedcaaGreatDoor
open Go Go.RowKit Sm
attribute [local go_sem] Oper.semAt_some

def fullV : Value := .iface 131 (.agg #[.int .i64 51])
/-- A change that has taken a page. -/
def Ch.took (k : Wk) (c : Ch) (p : Option Addr) (cp : Nat) : Ch := if (c.al.take k.old).err = 0 then { c with al := (c.al.take k.old).a, p := p, cp := cp } else { c with full := fullV }
def Ch.tookId (k : Wk) (c : Ch) : Nat := if (c.al.take k.old).err = 0 then (c.al.take k.old).page else 2
theorem ChAt.frame {w w' : World} {C Wb : Nat} {k : Wk} {c c' : Ch} {F : Nat → Prop} (h : ChAt w C Wb k c) (ht : Turned F w w') (hF : ∀ x, F x → x = C) (hc : w'.heap[C]? = some (.cells (chCells Wb c') 120 (0, 0))) (hal : AlAt w' c'.al c'.p c'.cp) (hold : ∀ a, c'.p = some a → a.block ≠ C ∧ a.block ≠ c.bp) (hp : c'.pages = c.pages) (hb : c'.bp = c.bp) : ChAt w' C Wb k c' := by
  obtain ⟨n1, n2, n3, n4, n5⟩ := h.ne
  refine ⟨hc, ?_, hal, ?_, h.own.turned ht (fun e => by have := hF _ e; omega), by rw [hb]; exact hold, ?_⟩
  · obtain ⟨root, al, p, cp, told, hw⟩ := h.wb
    exact ⟨root, al, p, cp, told, ht.heap hw (fun e => by have := hF _ e; omega)⟩
  · rw [hp, hb]
    exact h.pages.turned ht (fun e => by have := hF _ e; omega)
  · rw [hb]; exact h.ne
theorem AlAt.turnedC {w w' : World} {C : Nat} {a : Al} {p : Option Addr} {c : Nat} (h : AlAt w a p c) (ht : Turned (· = C) w w') (ho : ∀ b, p = some b → b.block ≠ C) : AlAt w' a p c :=
  ⟨h.s.turned ht ho, fun b hb => ⟨Nat.lt_of_lt_of_le (h.old b hb).1 ht.size, (h.old b hb).2⟩, h.len, h.few, h.none, h.ok⟩
theorem AlNew.block {w : World} {B : Nat} {a : Al} {p : Option Addr} {c : Nat} (h : AlNew w B a p c) : ∀ b, p = some b → B ≤ b.block := by
  intro b hb
  rcases h.f with ⟨-, h⟩ | ⟨g, hg, h, -⟩
  · rw [h] at hb; cases hb
  · rw [h] at hb; cases hb; exact hg

/-- A change behind a call: its spares lie where they lay, or in a new block. -/
structure ChN (w : World) (c0 : Ch) (w' : World) (C Wb : Nat) (k : Wk) (c : Ch) : Prop where
  it : ChAt w' C Wb k c
  new : ∀ a, c.p = some a → c0.p = some a ∨ w.heap.size ≤ a.block
theorem ChN.less {w W w' : World} {c0 c : Ch} {C Wb : Nat} {k : Wk} (h : ChN W c0 w' C Wb k c) (hs : w.heap.size ≤ W.heap.size) : ChN w c0 w' C Wb k c := ⟨h.it, fun a ha => (h.new a ha).imp id (Nat.le_trans hs)⟩
set_option maxRecDepth 20000 in
set_option maxHeartbeats 4000000 in
theorem ctake_new {w : World} {C Wb : Nat} {k : Wk} {c : Ch} (h : ChAt w C Wb k c) : Calls Tryz.prog 108 #[.pointer (some ⟨C, 0, none⟩)] w fun e w' => ∃ p cp, e = .returned (.int .u32 (c.tookId k)) ∧ ChN w c w' C Wb k (c.took k p cp) ∧ Turned (· = C) w w' := by
  obtain ⟨root, ral, rp, rcp, told, hwb⟩ := h.wb
  have hlc : C < w.heap.size := lt_of_heap h.cb
  have hlw : Wb < w.heap.size := lt_of_heap hwb
  have H : Veil _ := ⟨h⟩
  have HC0 : Veil (∀ W, Below w.heap.size w W → W.cell? ⟨C, 0, none⟩ = some (.pointer (some ⟨Wb, 0, none⟩))) := ⟨fun W hW => (ch_cells ((hW.block _ hlc).trans h.cb)).1 0⟩
  have HCC : Veil (∀ W, Below w.heap.size w W → W.cell? ⟨C, 2, none⟩ = some (.int .u32 c.al.high) ∧ W.cell? ⟨C, 3, none⟩ = some (.int .u32 c.al.most) ∧ W.cell? ⟨C, 4, none⟩ = some (.slice c.p c.al.l.length c.cp)) := ⟨fun W hW => ⟨(ch_cells ((hW.block _ hlc).trans h.cb)).1 2, (ch_cells ((hW.block _ hlc).trans h.cb)).1 3, (ch_cells ((hW.block _ hlc).trans h.cb)).1 4⟩⟩
  have HW6 : Veil (∀ W, Below w.heap.size w W → W.cell? ⟨Wb, 6, none⟩ = some (.int .u64 k.old)) := ⟨fun W hW => (wk_cells ((hW.block _ hlw).trans hwb)).1 6⟩
  have HC7 : Veil (∀ W, Below w.heap.size w W → W.cell? ⟨C, 7, none⟩ = some c.full) := ⟨fun W hW => (ch_cells ((hW.block _ hlc).trans h.cb)).1 7⟩
  have HCF : Veil (∀ W, Below w.heap.size w W → ∀ o, W.frozen? ⟨C, o, none⟩ = false) := ⟨fun W hW => (ch_cells ((hW.block _ hlc).trans h.cb)).2⟩
  have HT : Veil (∀ W, Below w.heap.size w W → Calls Tryz.prog 138 #[.agg #[.int .u32 c.al.high, .int .u32 c.al.most, .slice c.p c.al.l.length c.cp], .int .u64 k.old] W fun e w' => ∃ p' c', e = .returned (.tuple #[.agg #[.int .u32 (c.al.take k.old).a.high, .int .u32 (c.al.take k.old).a.most, .slice p' (c.al.take k.old).a.l.length c'], .int .u32 (c.al.take k.old).page, .int .i64 (c.al.take k.old).err]) ∧ AlNew w' w.heap.size (c.al.take k.old).a p' c' ∧ Below W.heap.size W w') := ⟨fun W hW => (take_any (h.al.below hW) k.old).mono (by
    rintro e w' ⟨p', c', h1, h2, h3⟩
    exact ⟨p', c', h1, h2.less hW.size, h3⟩)⟩
  have HE : Veil (∀ p' c' id W W', Below w.heap.size w W → AlNew W w.heap.size (c.al.take k.old).a p' c' → (c.al.take k.old).err = 0 → id = (c.al.take k.old).page → W' = (((W.setCell ⟨C, 2, none⟩ (.int .u32 (c.al.take k.old).a.high)).setCell ⟨C, 3, none⟩ (.int .u32 (c.al.take k.old).a.most)).setCell ⟨C, 4, none⟩ (.slice p' (c.al.take k.old).a.l.length c')) → ∃ p cp, Ending.returned (.int .u32 (id : Nat)) = .returned (.int .u32 (c.tookId k)) ∧ ChN w c W' C Wb k (c.took k p cp) ∧ Turned (· = C) w W') := ⟨by
    rintro p' c' id W W' hW hN he rfl rfl
    have hT : Turned (· = C) W (((W.setCell ⟨C, 2, none⟩ (.int .u32 (c.al.take k.old).a.high)).setCell ⟨C, 3, none⟩ (.int .u32 (c.al.take k.old).a.most)).setCell ⟨C, 4, none⟩ (.slice p' (c.al.take k.old).a.l.length c')) := ((((Turned.refl (· = C) W).setCell (p := ⟨C, 2, none⟩) rfl _).setCell (p := ⟨C, 3, none⟩) rfl _).setCell (p := ⟨C, 4, none⟩) rfl _)
    have hT2 := (Turned.new hW : Turned (· = C) w W).trans hT
    have hN2 := hN.turned hT (fun x hx e => by have e : x = C := e; omega)
    refine ⟨p', c', by unfold Ch.tookId; rw [if_pos he], ?_, hT2⟩
    unfold Ch.took
    rw [if_pos he]
    refine ⟨?_, fun a ha => .inr (hN2.block a ha)⟩
    refine h.frame hT2 (fun _ e => e) ?_ hN2.at' (fun a ha => by have := hN2.block a ha; have := h.pages.lt; omega) rfl rfl
    exact heap_setCell_at (heap_setCell_at (heap_setCell_at ((hW.block _ hlc).trans h.cb) 2 _) 3 _) 4 _⟩
  have HF : Veil (∀ W W', Below w.heap.size w W → (c.al.take k.old).err ≠ 0 → W' = W.setCell ⟨C, 7, none⟩ fullV → ∃ p cp, Ending.returned (.int .u32 2) = .returned (.int .u32 (c.tookId k)) ∧ ChN w c W' C Wb k (c.took k p cp) ∧ Turned (· = C) w W') := ⟨by
    rintro W W' hW he rfl
    have hT : Turned (· = C) W (W.setCell ⟨C, 7, none⟩ fullV) := ((Turned.refl (· = C) W).setCell (p := ⟨C, 7, none⟩) rfl _)
    have hT2 := (Turned.new hW : Turned (· = C) w W).trans hT
    refine ⟨none, 0, by unfold Ch.tookId; rw [if_neg he]; rfl, ?_, hT2⟩
    unfold Ch.took
    rw [if_neg he]
    refine ⟨?_, fun a ha => .inl ha⟩
    refine h.frame hT2 (fun _ e => e) ?_ (h.al.turnedC hT2 fun a ha => (h.old a ha).1) h.old rfl rfl
    exact heap_setCell_at ((hW.block _ hlc).trans h.cb) 7 _⟩
  clear h hwb
  revert HC0 HCC HW6 HCF HT HE HF
  generalize c.al.high = hi
  generalize c.al.most = mo
  generalize c.al.l.length = ln
  generalize c.p = cpp
  generalize c.cp = ccp
  generalize c.al.take k.old = tk
  generalize k.old = old
  obtain ⟨t, pg, er⟩ := tk
  dsimp only
  intro HC0 HCC HW6 HCF HT HE HF
  go_enter Tryz.func108, Tryz.ntmps108
  go_wp2
  refine region_pair 20
    [[], [(0, 7)], [(1, 8)], [(2, 9)], [(3, 10)], [], [(5, 12)], [(6, 13)], [(7, 14)], [(8, 15)], [(9, 16)], [(10, 17)], [(4, 11), (11, 18)], [(12, 19)], [(13, 6)], [(13, 6)], [(13, 6)], [], [(14, 20), (17, 3)], [(15, 21)]]
    [[], [0], [1], [2], [3], [], [5], [6], [7], [8], [9], [10], [4, 11], [12], [13], [13], [13], [], [0, 1, 2, 3, 4, 5, 6, 7, 8, 9, 10, 11, 12, 13, 14, 17], [0, 1, 2, 3, 4, 5, 6, 7, 8, 9, 10, 11, 12, 13, 14, 15, 17, 18]]
    [(0, 7), (1, 8), (2, 9), (3, 10), (4, 11), (5, 12), (6, 13), (7, 14), (8, 15), (9, 16), (10, 17), (11, 18), (12, 19), (13, 6), (14, 20), (15, 21), (16, 22), (17, 3), (19, 4)]
    (StepA w.heap.size t) (fun W => Below w.heap.size w W) (akAt w.heap.size t [.is (.pointer (some ⟨C, 0, none⟩)), .is (.pointer (some ⟨C, 0, none⟩)), .is (.pointer (some ⟨C, 1, none⟩)), .is (.pointer (some ⟨C, 2, none⟩)), .is (.agg #[.int .u32 hi, .int .u32 mo, .slice cpp ln ccp]), .is (.pointer (some ⟨C, 0, none⟩)), .is (.pointer (some ⟨C, 0, none⟩)), .is (.pointer (some ⟨C, 0, none⟩)), .is (.pointer (some ⟨Wb, 0, none⟩)), .is (.pointer (some ⟨Wb, 0, none⟩)), .is (.pointer (some ⟨Wb, 6, none⟩)), .is (.int .u64 old), .al (fun x => .tuple #[x, .int .u32 pg, .int .i64 er]), .al (fun x => .tuple #[x, .int .u32 pg, .int .i64 er]), .al (fun x => x), .is (.int .u32 pg), .is (.int .i64 er), .box, .full, .is (.int .u32 pg)]) pm18 (fun i => by by_cases e : i = 18; (subst e; exact .inr (by decide)); exact .inl (if_neg e)) rfl (by kernel_rfl) _ rfl (fun _ _ hI hR => StepA.below hI hR) (fun i v u W W' _ hR hf => AK.step _ v u hR hf) (Below.refl _ _).drew ⟨?_, ?_, ?_, ?_, ?_, ?_, ?_, ?_, ?_, ?_, ?_, ?_, ?_, ?_, ?_, ?_, ?_, ?_, ?_, ?_, trivial⟩ ?_
  · intro vals W hB _
    have hB : Below w.heap.size w W := hB
    dsimp only [putsL, slotOf]
    go_wp2
    exact ⟨rfl, .inl (Below.refl _ _), rfl⟩
  · intro vals W hB ⟨h0, _⟩
    have hB : Below w.heap.size w W := hB
    have h0 : vals 0 = _ := h0
    dsimp only [putsL, slotOf]
    rw [h0]
    go_wp2
    exact ⟨rfl, .inl (Below.refl _ _), rfl⟩
  · intro vals W hB ⟨h1, _⟩
    have hB : Below w.heap.size w W := hB
    have h1 : vals 1 = _ := h1
    dsimp only [putsL, slotOf]
    rw [h1]
    go_wp2
    exact ⟨rfl, .inl (Below.refl _ _), rfl⟩
  · intro vals W hB ⟨h2, _⟩
    have hB : Below w.heap.size w W := hB
    have h2 : vals 2 = _ := h2
    dsimp only [putsL, slotOf]
    rw [h2]
    go_wp2
    exact ⟨rfl, .inl (Below.refl _ _), rfl⟩
  · intro vals W hB ⟨h3, _⟩
    have hB : Below w.heap.size w W := hB
    have h3 : vals 3 = _ := h3
    obtain ⟨c2, c3, c4⟩ := HCC.out W hB
    dsimp only [putsL, slotOf]
    rw [h3]
    go_wp2
    exact ⟨rfl, .inl (Below.refl _ _), rfl⟩
  · intro vals W hB _
    have hB : Below w.heap.size w W := hB
    dsimp only [putsL, slotOf]
    go_wp2
    exact ⟨rfl, .inl (Below.refl _ _), rfl⟩
  · intro vals W hB ⟨h5, _⟩
    have hB : Below w.heap.size w W := hB
    have h5 : vals 5 = _ := h5
    dsimp only [putsL, slotOf]
    rw [h5]
    go_wp2
    exact ⟨rfl, .inl (Below.refl _ _), rfl⟩
  · intro vals W hB ⟨h6, _⟩
    have hB : Below w.heap.size w W := hB
    have h6 : vals 6 = _ := h6
    dsimp only [putsL, slotOf]
    rw [h6]
    go_wp2
    exact ⟨rfl, .inl (Below.refl _ _), rfl⟩
  · intro vals W hB ⟨h7, _⟩
    have hB : Below w.heap.size w W := hB
    have h7 : vals 7 = _ := h7
    have c0 := HC0.out W hB
    dsimp only [putsL, slotOf]
    rw [h7]
    go_wp2
    exact ⟨rfl, .inl (Below.refl _ _), rfl⟩
  · intro vals W hB ⟨h8, _⟩
    have hB : Below w.heap.size w W := hB
    have h8 : vals 8 = _ := h8
    dsimp only [putsL, slotOf]
    rw [h8]
    go_wp2
    exact ⟨rfl, .inl (Below.refl _ _), rfl⟩
  · intro vals W hB ⟨h9, _⟩
    have hB : Below w.heap.size w W := hB
    have h9 : vals 9 = _ := h9
    dsimp only [putsL, slotOf]
    rw [h9]
    go_wp2
    exact ⟨rfl, .inl (Below.refl _ _), rfl⟩
  · intro vals W hB ⟨h10, _⟩
    have hB : Below w.heap.size w W := hB
    have h10 : vals 10 = _ := h10
    have w6 := HW6.out W hB
    dsimp only [putsL, slotOf]
    rw [h10]
    go_wp2
    exact ⟨rfl, .inl (Below.refl _ _), rfl⟩
  · intro vals W hB ⟨h4, h11, _⟩
    have hB : Below w.heap.size w W := hB
    have h4 : vals 4 = _ := h4
    have h11 : vals 11 = _ := h11
    dsimp only [putsL, slotOf]
    rw [h4, h11]
    go_wp2_with (go_at_call 138; refine (HT.out _ hB).mono ?_; rintro e w4 ⟨p4, c4, rfl, hat4, hb4⟩)
    exact ⟨rfl, .inl hb4, p4, c4, rfl, hat4⟩
  · intro vals W hB ⟨h12, _⟩
    have hB : Below w.heap.size w W := hB
    obtain ⟨p12, c12, h12, hat12⟩ := h12
    have h12 : vals 12 = _ := h12
    dsimp only [putsL, slotOf]
    rw [h12]
    go_wp2
    exact ⟨rfl, .inl (Below.refl _ _), p12, c12, rfl, hat12⟩
  · intro vals W hB ⟨h13, _⟩
    have hB : Below w.heap.size w W := hB
    obtain ⟨p13, c13, h13, hat13⟩ := h13
    have h13 : vals 13 = _ := h13
    dsimp only [putsL, slotOf]
    rw [h13]
    go_wp2
    exact ⟨rfl, .inl (Below.refl _ _), p13, c13, rfl, hat13⟩
  · intro vals W hB ⟨h13, _⟩
    have hB : Below w.heap.size w W := hB
    obtain ⟨p13, c13, h13, hat13⟩ := h13
    have h13 : vals 13 = _ := h13
    dsimp only [putsL, slotOf]
    rw [h13]
    go_wp2
    exact ⟨rfl, .inl (Below.refl _ _), rfl⟩
  · intro vals W hB ⟨h13, _⟩
    have hB : Below w.heap.size w W := hB
    obtain ⟨p13, c13, h13, hat13⟩ := h13
    have h13 : vals 13 = _ := h13
    dsimp only [putsL, slotOf]
    rw [h13]
    go_wp2
    exact ⟨rfl, .inl (Below.refl _ _), rfl⟩
  · intro vals W hB _
    have hB : Below w.heap.size w W := hB
    dsimp only [putsL, slotOf]
    go_wp2
    exact ⟨rfl, .inl (below_al (Below.refl _ _) _), _, hB.size, rfl, _, _, _, heap_alloc_new _ _⟩
  · intro vals W hB ⟨_, _, _, _, _, _, _, _, _, _, _, _, _, _, h14, h17, _⟩
    have hB : Below w.heap.size w W := hB
    obtain ⟨p14, c14, h14, hat14⟩ := h14
    have h14 : vals 14 = _ := h14
    obtain ⟨g17, hg17, h17, hbox⟩ := h17
    have h17 : vals 17 = _ := h17
    have hbox2 := hbox
    obtain ⟨x0, x1, x2, hgx⟩ := hbox2
    obtain ⟨⟨b0, b1, b2⟩, k0, k1, k2⟩ := pack3 hgx
    dsimp only [putsL, slotOf]
    rw [h14, h17]
    go_wp2
    exact ⟨rfl, .inr ⟨g17, hg17, hbox, (afull_set hbox hat14).1, (afull_set hbox hat14).2⟩, g17, hg17, h17, (afull_set hbox hat14).1⟩
  · intro vals W hB ⟨_, _, _, _, _, _, _, _, _, _, _, _, _, _, _, h15, _, _, _⟩
    have hB : Below w.heap.size w W := hB
    have h15 : vals 15 = _ := h15
    dsimp only [putsL, slotOf]
    rw [h15]
    go_wp2
    exact ⟨rfl, .inl (Below.refl _ _), rfl⟩
  intro vals W hB hF
  have hB : Below w.heap.size w W := hB
  have h0 : vals 0 = _ := hF 0 (by decide)
  have h1 : vals 1 = _ := hF 1 (by decide)
  have h2 : vals 2 = _ := hF 2 (by decide)
  have h3 : vals 3 = _ := hF 3 (by decide)
  have h4 : vals 4 = _ := hF 4 (by decide)
  have h5 : vals 5 = _ := hF 5 (by decide)
  have h6 : vals 6 = _ := hF 6 (by decide)
  have h7 : vals 7 = _ := hF 7 (by decide)
  have h8 : vals 8 = _ := hF 8 (by decide)
  have h9 : vals 9 = _ := hF 9 (by decide)
  have h10 : vals 10 = _ := hF 10 (by decide)
  have h11 : vals 11 = _ := hF 11 (by decide)
  obtain ⟨p12, c12, h12, -⟩ := hF 12 (by decide)
  have h12 : vals 12 = _ := h12
  obtain ⟨p13, c13, h13, -⟩ := hF 13 (by decide)
  have h13 : vals 13 = _ := h13
  obtain ⟨p14, c14, h14, -⟩ := hF 14 (by decide)
  have h14 : vals 14 = _ := h14
  have h15 : vals 15 = _ := hF 15 (by decide)
  have h16 : vals 16 = _ := hF 16 (by decide)
  obtain ⟨g18, hg18, h17, hfull⟩ := hF 18 (by decide)
  have h17 : vals 17 = _ := h17
  have h19 : vals 19 = _ := hF 19 (by decide)
  dsimp only [putsL]
  rw [h0, h1, h2, h3, h4, h5, h6, h7, h8, h9, h10, h11, h12, h13, h14, h15, h16, h17, h19]
  clear hF h0 h1 h2 h3 h4 h5 h6 h7 h8 h9 h10 h11 h12 h13 h14 h15 h16 h17 h19
  simp only [List.drop_succ_cons, List.drop_zero, List.setIfInBounds_toArray, List.set_cons_succ, List.set_cons_zero]
  obtain ⟨p20, c20, hbx, hN⟩ := hfull
  have hlg : g18 < W.heap.size := lt_of_heap hbx
  obtain ⟨⟨b0, b1, b2⟩, k0, k1, k2⟩ := pack3 hbx
  have f2 := HCF.out W hB 2
  have f3 := HCF.out W hB 3
  have f4 := HCF.out W hB 4
  have f7 := HCF.out W hB 7
  obtain ⟨c2, c3, c4⟩ := HCC.out W hB
  have HN : Veil _ := ⟨hN⟩
  by_cases he : er = 0
  · subst he
    go_wp2
    go_ret
    obtain ⟨p, cp, e1, e2, e3⟩ := HE.out p20 c20 _ W _ hB HN.out trivial rfl rfl
    exact ⟨e1, ⟨p, cp, e2⟩, e3⟩
  · have hb : (er == 0) = false := by rw [beq_eq_false_iff_ne]; exact he
    have c7 := HC7.out W hB
    go_wp2
    go_ret
    obtain ⟨p, cp, e1, e2, e3⟩ := HF.out W _ hB he rfl
    exact ⟨e1, ⟨p, cp, e2⟩, e3⟩
end Go.Proofs.YtokbmimbbeedcaaGreatDoor

/- Trees, by the program: a page dropped. -/
namespace Go.Proofs.YtokbmimbbeedcaaGreatDoor
open Go Go.RowKit Sm
attribute [local go_sem] Oper.semAt_some

/-- A change that has dropped a page of the work. -/
def Ch.dropped (k : Wk) (c : Ch) (id : Nat) (p : Option Addr) (cp : Nat) : Ch := if (c.al.give id k.tx).2 = 0 then { c with al := (c.al.give id k.tx).1, p := p, cp := cp, pages := mput c.pages id Pg.zero } else { c with full := fullV }
theorem ChAt.frame2 {w w' : World} {C Wb : Nat} {k : Wk} {c c' : Ch} {F : Nat → Prop} (h : ChAt w C Wb k c) (ht : Turned F w w') (hF : ∀ x, F x → x = C ∨ x = c.bp) (hc : w'.heap[C]? = some (.cells (chCells Wb c') 120 (0, 0))) (hal : AlAt w' c'.al c'.p c'.cp) (hold : ∀ a, c'.p = some a → a.block ≠ C ∧ a.block ≠ c.bp) (hp : MapAt w' c.bp Pg.v c'.pages) (hb : c'.bp = c.bp) : ChAt w' C Wb k c' := by
  obtain ⟨n1, n2, n3, n4, n5⟩ := h.ne
  refine ⟨hc, ?_, hal, ?_, h.own.turned ht (fun e => by have := hF _ e; omega), by rw [hb]; exact hold, ?_⟩
  · obtain ⟨root, al, p, cp, told, hw⟩ := h.wb
    exact ⟨root, al, p, cp, told, ht.heap hw (fun e => by have := hF _ e; omega)⟩
  · rw [hb]; exact hp
  · rw [hb]; exact h.ne

set_option maxRecDepth 20000 in
set_option maxHeartbeats 4000000 in
theorem cdrop_new {w : World} {C Wb : Nat} {k : Wk} {c : Ch} (h : ChAt w C Wb k c) (id : Nat) (hm : mineC k c id = true) (hid : id < 4294967296) (htx : k.tx < 18446744073709551616) (hfew : c.al.l.length < 100000) : Calls Tryz.prog 67 #[.pointer (some ⟨C, 0, none⟩), .int .u32 id] w fun e w' => ∃ p cp, e = .returned (.tuple #[]) ∧ ChN w c w' C Wb k (c.dropped k id p cp) ∧ Turned (fun x => x = C ∨ x = c.bp) w w' := by
  obtain ⟨root, ral, rp, rcp, told, hwb⟩ := h.wb
  have hlc : C < w.heap.size := lt_of_heap h.cb
  have hlw : Wb < w.heap.size := lt_of_heap hwb
  have hlb : c.bp < w.heap.size := h.pages.lt
  obtain ⟨n1, n2, n3, n4, n5⟩ := h.ne
  have HMi : Veil (Calls Tryz.prog 91 #[.pointer (some ⟨C, 0, none⟩), .int .u32 id] w fun e w' => e = .returned (.bool true) ∧ Below w.heap.size w w') := ⟨by have := mine_any h id; rwa [hm] at this⟩
  have HC0 : Veil (∀ W, Below w.heap.size w W → W.cell? ⟨C, 0, none⟩ = some (.pointer (some ⟨Wb, 0, none⟩))) := ⟨fun W hW => (ch_cells ((hW.block _ hlc).trans h.cb)).1 0⟩
  have HCC : Veil (∀ W, Below w.heap.size w W → W.cell? ⟨C, 2, none⟩ = some (.int .u32 c.al.high) ∧ W.cell? ⟨C, 3, none⟩ = some (.int .u32 c.al.most) ∧ W.cell? ⟨C, 4, none⟩ = some (.slice c.p c.al.l.length c.cp)) := ⟨fun W hW => ⟨(ch_cells ((hW.block _ hlc).trans h.cb)).1 2, (ch_cells ((hW.block _ hlc).trans h.cb)).1 3, (ch_cells ((hW.block _ hlc).trans h.cb)).1 4⟩⟩
  have HW5 : Veil (∀ W, Below w.heap.size w W → W.cell? ⟨Wb, 5, none⟩ = some (.int .u64 k.tx)) := ⟨fun W hW => (wk_cells ((hW.block _ hlw).trans hwb)).1 5⟩
  have HC7 : Veil (∀ W, Below w.heap.size w W → W.cell? ⟨C, 7, none⟩ = some c.full) := ⟨fun W hW => (ch_cells ((hW.block _ hlc).trans h.cb)).1 7⟩
  have HC5 : Veil (∀ W, Below w.heap.size w W → W.cell? ⟨C, 5, none⟩ = some (.map (some c.bp))) := ⟨fun W hW => (ch_cells ((hW.block _ hlc).trans h.cb)).1 5⟩
  have HCF : Veil (∀ W, Below w.heap.size w W → ∀ o, W.frozen? ⟨C, o, none⟩ = false) := ⟨fun W hW => (ch_cells ((hW.block _ hlc).trans h.cb)).2⟩
  have HT : Veil (∀ W, Below w.heap.size w W → Calls Tryz.prog 92 #[.agg #[.int .u32 c.al.high, .int .u32 c.al.most, .slice c.p c.al.l.length c.cp], .int .u32 id, .int .u64 k.tx] W fun e w' => ∃ p' c', e = .returned (.tuple #[.agg #[.int .u32 (c.al.give id k.tx).1.high, .int .u32 (c.al.give id k.tx).1.most, .slice p' (c.al.give id k.tx).1.l.length c'], .int .i64 (c.al.give id k.tx).2]) ∧ AlNew w' w.heap.size (c.al.give id k.tx).1 p' c' ∧ Below W.heap.size W w') := ⟨fun W hW => (give_any (h.al.below hW) hfew id k.tx hid htx).mono (by
    rintro e w' ⟨p', c', h1, h2, h3⟩
    exact ⟨p', c', h1, h2.less hW.size, h3⟩)⟩
  have HM : Veil (∀ p' c' W, Below w.heap.size w W → MapAt (((W.setCell ⟨C, 2, none⟩ (.int .u32 (c.al.give id k.tx).1.high)).setCell ⟨C, 3, none⟩ (.int .u32 (c.al.give id k.tx).1.most)).setCell ⟨C, 4, none⟩ (.slice p' (c.al.give id k.tx).1.l.length c')) c.bp Pg.v c.pages) := ⟨fun p' c' W hW => (h.pages.below hW).turned ((((Turned.refl (· = C) W).setCell (p := ⟨C, 2, none⟩) rfl _).setCell (p := ⟨C, 3, none⟩) rfl _).setCell (p := ⟨C, 4, none⟩) rfl _) (fun e => by have e : c.bp = C := e; omega)⟩
  have HE : Veil (∀ p' c' W W', Below w.heap.size w W → AlNew W w.heap.size (c.al.give id k.tx).1 p' c' → MapAt W' c.bp Pg.v (mput c.pages id Pg.zero) → Turned (· = c.bp) (((W.setCell ⟨C, 2, none⟩ (.int .u32 (c.al.give id k.tx).1.high)).setCell ⟨C, 3, none⟩ (.int .u32 (c.al.give id k.tx).1.most)).setCell ⟨C, 4, none⟩ (.slice p' (c.al.give id k.tx).1.l.length c')) W' → (c.al.give id k.tx).2 = 0 → ∃ p cp, ChN w c W' C Wb k (c.dropped k id p cp) ∧ Turned (fun x => x = C ∨ x = c.bp) w W') := ⟨by
    rintro p' c' W W' hW hN hMa hTb he
    have hT : Turned (· = C) W (((W.setCell ⟨C, 2, none⟩ (.int .u32 (c.al.give id k.tx).1.high)).setCell ⟨C, 3, none⟩ (.int .u32 (c.al.give id k.tx).1.most)).setCell ⟨C, 4, none⟩ (.slice p' (c.al.give id k.tx).1.l.length c')) := ((((Turned.refl (· = C) W).setCell (p := ⟨C, 2, none⟩) rfl _).setCell (p := ⟨C, 3, none⟩) rfl _).setCell (p := ⟨C, 4, none⟩) rfl _)
    have hT2 : Turned (fun x => x = C ∨ x = c.bp) w W' := (Turned.new hW : Turned (fun x => x = C ∨ x = c.bp) w W).trans ((hT.wider fun _ _ e => .inl e).trans (hTb.wider fun _ _ e => .inr e))
    have hN2 := (hN.turned hT (fun x hx e => by have e : x = C := e; omega)).turned hTb (fun x hx e => by have e : x = c.bp := e; omega)
    refine ⟨p', c', ?_, hT2⟩
    unfold Ch.dropped
    rw [if_pos he]
    refine ⟨?_, fun a ha => .inr (hN2.block a ha)⟩
    refine h.frame2 hT2 (fun _ e => e) ?_ hN2.at' (fun a ha => by have := hN2.block a ha; omega) hMa rfl
    exact hTb.heap (heap_setCell_at (heap_setCell_at (heap_setCell_at ((hW.block _ hlc).trans h.cb) 2 _) 3 _) 4 _) (fun e => by have e : C = c.bp := e; omega)⟩
  have HF : Veil (∀ W W', Below w.heap.size w W → (c.al.give id k.tx).2 ≠ 0 → W' = W.setCell ⟨C, 7, none⟩ fullV → ∃ p cp, ChN w c W' C Wb k (c.dropped k id p cp) ∧ Turned (fun x => x = C ∨ x = c.bp) w W') := ⟨by
    rintro W W' hW he rfl
    have hT : Turned (· = C) W (W.setCell ⟨C, 7, none⟩ fullV) := ((Turned.refl (· = C) W).setCell (p := ⟨C, 7, none⟩) rfl _)
    have hT2 := (Turned.new hW : Turned (· = C) w W).trans hT
    refine ⟨none, 0, ?_, hT2.wider fun _ _ e => .inl e⟩
    unfold Ch.dropped
    rw [if_neg he]
    refine ⟨?_, fun a ha => .inl ha⟩
    refine h.frame hT2 (fun _ e => e) ?_ (h.al.turnedC hT2 fun a ha => (h.old a ha).1) h.old rfl rfl
    exact heap_setCell_at ((hW.block _ hlc).trans h.cb) 7 _⟩
  clear h hwb hm hfew
  revert HC0 HCC HW5 HC7 HC5 HCF HT HM HE HF
  generalize c.al.high = hi
  generalize c.al.most = mo
  generalize c.al.l.length = ln
  generalize c.p = cpp
  generalize c.cp = ccp
  generalize c.al.give id k.tx = tk
  generalize k.tx = tx at htx
  obtain ⟨t, er⟩ := tk
  dsimp only
  intro HC0 HCC HW5 HC7 HC5 HCF HT HM HE HF
  go_enter Tryz.func67, Tryz.ntmps67
  go_wp2_with (go_at_call 91; refine HMi.out.mono ?_; rintro e w1 ⟨rfl, hb1⟩; have HB1 : Veil _ := ⟨hb1⟩; clear hb1)
  refine region_pair 19
    [[], [(0, 21)], [(1, 22)], [(2, 23)], [(3, 24)], [], [], [(6, 27)], [(7, 28)], [(8, 29)], [(9, 30)], [(10, 31)], [(11, 32)], [(4, 25), (5, 26), (12, 33)], [(13, 34)], [(14, 20)], [(14, 20)], [], [(15, 35), (17, 4)]]
    [[], [0], [1], [2], [3], [], [], [6], [7], [8], [9], [10], [11], [4, 5, 12], [13], [14], [14], [], [0, 1, 2, 3, 4, 5, 6, 7, 8, 9, 10, 11, 12, 13, 14, 15, 17]]
    [(0, 21), (1, 22), (2, 23), (3, 24), (4, 25), (5, 26), (6, 27), (7, 28), (8, 29), (9, 30), (10, 31), (11, 32), (12, 33), (13, 34), (14, 20), (15, 35), (16, 36), (17, 4)]
    (StepA w.heap.size t) (fun W => Below w.heap.size w W) (akAt w.heap.size t [.is (.pointer (some ⟨C, 0, none⟩)), .is (.pointer (some ⟨C, 0, none⟩)), .is (.pointer (some ⟨C, 1, none⟩)), .is (.pointer (some ⟨C, 2, none⟩)), .is (.agg #[.int .u32 hi, .int .u32 mo, .slice cpp ln ccp]), .is (.int .u32 id), .is (.pointer (some ⟨C, 0, none⟩)), .is (.pointer (some ⟨C, 0, none⟩)), .is (.pointer (some ⟨C, 0, none⟩)), .is (.pointer (some ⟨Wb, 0, none⟩)), .is (.pointer (some ⟨Wb, 0, none⟩)), .is (.pointer (some ⟨Wb, 5, none⟩)), .is (.int .u64 tx), .al (fun x => .tuple #[x, .int .i64 er]), .al (fun x => .tuple #[x, .int .i64 er]), .al (fun x => x), .is (.int .i64 er), .box, .full]) pm18 (fun i => by by_cases e : i = 18; (subst e; exact .inr (by decide)); exact .inl (if_neg e)) rfl (by kernel_rfl) _ rfl (fun _ _ hI hR => StepA.below hI hR) (fun i v u W W' _ hR hf => AK.step _ v u hR hf) HB1.out.drew ⟨?_, ?_, ?_, ?_, ?_, ?_, ?_, ?_, ?_, ?_, ?_, ?_, ?_, ?_, ?_, ?_, ?_, ?_, ?_, trivial⟩ ?_
  · intro vals W hB _
    have hB : Below w.heap.size w W := hB
    dsimp only [putsL, slotOf]
    go_wp2
    exact ⟨rfl, .inl (Below.refl _ _), rfl⟩
  · intro vals W hB ⟨h0, _⟩
    have hB : Below w.heap.size w W := hB
    have h0 : vals 0 = _ := h0
    dsimp only [putsL, slotOf]
    rw [h0]
    go_wp2
    exact ⟨rfl, .inl (Below.refl _ _), rfl⟩
  · intro vals W hB ⟨h1, _⟩
    have hB : Below w.heap.size w W := hB
    have h1 : vals 1 = _ := h1
    dsimp only [putsL, slotOf]
    rw [h1]
    go_wp2
    exact ⟨rfl, .inl (Below.refl _ _), rfl⟩
  · intro vals W hB ⟨h2, _⟩
    have hB : Below w.heap.size w W := hB
    have h2 : vals 2 = _ := h2
    dsimp only [putsL, slotOf]
    rw [h2]
    go_wp2
    exact ⟨rfl, .inl (Below.refl _ _), rfl⟩
  · intro vals W hB ⟨h3, _⟩
    have hB : Below w.heap.size w W := hB
    have h3 : vals 3 = _ := h3
    obtain ⟨c2, c3, c4⟩ := HCC.out W hB
    dsimp only [putsL, slotOf]
    rw [h3]
    go_wp2
    exact ⟨rfl, .inl (Below.refl _ _), rfl⟩
  · intro vals W hB _
    have hB : Below w.heap.size w W := hB
    dsimp only [putsL, slotOf]
    go_wp2
    exact ⟨rfl, .inl (Below.refl _ _), rfl⟩
  · intro vals W hB _
    have hB : Below w.heap.size w W := hB
    dsimp only [putsL, slotOf]
    go_wp2
    exact ⟨rfl, .inl (Below.refl _ _), rfl⟩
  · intro vals W hB ⟨h6, _⟩
    have hB : Below w.heap.size w W := hB
    have h6 : vals 6 = _ := h6
    dsimp only [putsL, slotOf]
    rw [h6]
    go_wp2
    exact ⟨rfl, .inl (Below.refl _ _), rfl⟩
  · intro vals W hB ⟨h7, _⟩
    have hB : Below w.heap.size w W := hB
    have h7 : vals 7 = _ := h7
    dsimp only [putsL, slotOf]
    rw [h7]
    go_wp2
    exact ⟨rfl, .inl (Below.refl _ _), rfl⟩
  · intro vals W hB ⟨h8, _⟩
    have hB : Below w.heap.size w W := hB
    have h8 : vals 8 = _ := h8
    have c0 := HC0.out W hB
    dsimp only [putsL, slotOf]
    rw [h8]
    go_wp2
    exact ⟨rfl, .inl (Below.refl _ _), rfl⟩
  · intro vals W hB ⟨h9, _⟩
    have hB : Below w.heap.size w W := hB
    have h9 : vals 9 = _ := h9
    dsimp only [putsL, slotOf]
    rw [h9]
    go_wp2
    exact ⟨rfl, .inl (Below.refl _ _), rfl⟩
  · intro vals W hB ⟨h10, _⟩
    have hB : Below w.heap.size w W := hB
    have h10 : vals 10 = _ := h10
    dsimp only [putsL, slotOf]
    rw [h10]
    go_wp2
    exact ⟨rfl, .inl (Below.refl _ _), rfl⟩
  · intro vals W hB ⟨h11, _⟩
    have hB : Below w.heap.size w W := hB
    have h11 : vals 11 = _ := h11
    have w5 := HW5.out W hB
    dsimp only [putsL, slotOf]
    rw [h11]
    go_wp2
    exact ⟨rfl, .inl (Below.refl _ _), rfl⟩
  · intro vals W hB ⟨h4, h5, h12, _⟩
    have hB : Below w.heap.size w W := hB
    have h4 : vals 4 = _ := h4
    have h5 : vals 5 = _ := h5
    have h12 : vals 12 = _ := h12
    dsimp only [putsL, slotOf]
    rw [h4, h5, h12]
    go_wp2_with (go_at_call 92; refine (HT.out _ hB).mono ?_; rintro e w4 ⟨p4, c4, rfl, hat4, hb4⟩)
    exact ⟨rfl, .inl hb4, p4, c4, rfl, hat4⟩
  · intro vals W hB ⟨h13, _⟩
    have hB : Below w.heap.size w W := hB
    obtain ⟨p13, c13, h13, hat13⟩ := h13
    have h13 : vals 13 = _ := h13
    dsimp only [putsL, slotOf]
    rw [h13]
    go_wp2
    exact ⟨rfl, .inl (Below.refl _ _), p13, c13, rfl, hat13⟩
  · intro vals W hB ⟨h14, _⟩
    have hB : Below w.heap.size w W := hB
    obtain ⟨p14, c14, h14, hat14⟩ := h14
    have h14 : vals 14 = _ := h14
    dsimp only [putsL, slotOf]
    rw [h14]
    go_wp2
    exact ⟨rfl, .inl (Below.refl _ _), p14, c14, rfl, hat14⟩
  · intro vals W hB ⟨h14, _⟩
    have hB : Below w.heap.size w W := hB
    obtain ⟨p14, c14, h14, hat14⟩ := h14
    have h14 : vals 14 = _ := h14
    dsimp only [putsL, slotOf]
    rw [h14]
    go_wp2
    exact ⟨rfl, .inl (Below.refl _ _), rfl⟩
  · intro vals W hB _
    have hB : Below w.heap.size w W := hB
    dsimp only [putsL, slotOf]
    go_wp2
    exact ⟨rfl, .inl (below_al (Below.refl _ _) _), _, hB.size, rfl, _, _, _, heap_alloc_new _ _⟩
  · intro vals W hB ⟨_, _, _, _, _, _, _, _, _, _, _, _, _, _, _, h15, h17, _⟩
    have hB : Below w.heap.size w W := hB
    obtain ⟨p15, c15, h15, hat15⟩ := h15
    have h15 : vals 15 = _ := h15
    obtain ⟨g17, hg17, h17, hbox⟩ := h17
    have h17 : vals 17 = _ := h17
    have hbox2 := hbox
    obtain ⟨x0, x1, x2, hgx⟩ := hbox2
    obtain ⟨⟨b0, b1, b2⟩, k0, k1, k2⟩ := pack3 hgx
    dsimp only [putsL, slotOf]
    rw [h15, h17]
    go_wp2
    exact ⟨rfl, .inr ⟨g17, hg17, hbox, (afull_set hbox hat15).1, (afull_set hbox hat15).2⟩, g17, hg17, h17, (afull_set hbox hat15).1⟩
  intro vals W hB hF
  have hB : Below w.heap.size w W := hB
  have h0 : vals 0 = _ := hF 0 (by decide)
  have h1 : vals 1 = _ := hF 1 (by decide)
  have h2 : vals 2 = _ := hF 2 (by decide)
  have h3 : vals 3 = _ := hF 3 (by decide)
  have h4 : vals 4 = _ := hF 4 (by decide)
  have h5 : vals 5 = _ := hF 5 (by decide)
  have h6 : vals 6 = _ := hF 6 (by decide)
  have h7 : vals 7 = _ := hF 7 (by decide)
  have h8 : vals 8 = _ := hF 8 (by decide)
  have h9 : vals 9 = _ := hF 9 (by decide)
  have h10 : vals 10 = _ := hF 10 (by decide)
  have h11 : vals 11 = _ := hF 11 (by decide)
  have h12 : vals 12 = _ := hF 12 (by decide)
  obtain ⟨p13, c13, h13, -⟩ := hF 13 (by decide)
  have h13 : vals 13 = _ := h13
  obtain ⟨p14, c14, h14, -⟩ := hF 14 (by decide)
  have h14 : vals 14 = _ := h14
  obtain ⟨p15, c15, h15, -⟩ := hF 15 (by decide)
  have h15 : vals 15 = _ := h15
  have h16 : vals 16 = _ := hF 16 (by decide)
  obtain ⟨g18, hg18, h17, hfull⟩ := hF 18 (by decide)
  have h17 : vals 17 = _ := h17
  dsimp only [putsL]
  rw [h0, h1, h2, h3, h4, h5, h6, h7, h8, h9, h10, h11, h12, h13, h14, h15, h16, h17]
  clear hF h0 h1 h2 h3 h4 h5 h6 h7 h8 h9 h10 h11 h12 h13 h14 h15 h16 h17
  simp only [List.drop_succ_cons, List.drop_zero, List.setIfInBounds_toArray, List.set_cons_succ, List.set_cons_zero]
  obtain ⟨p20, c20, hbx, hN⟩ := hfull
  have hlg : g18 < W.heap.size := lt_of_heap hbx
  obtain ⟨⟨b0, b1, b2⟩, k0, k1, k2⟩ := pack3 hbx
  have f2 := HCF.out W hB 2
  have f3 := HCF.out W hB 3
  have f4 := HCF.out W hB 4
  have f7 := HCF.out W hB 7
  obtain ⟨c2, c3, c4⟩ := HCC.out W hB
  have c5 := HC5.out W hB
  have c7 := HC7.out W hB
  have HN : Veil _ := ⟨hN⟩
  have HME : Veil _ := ⟨HM.out p20 c20 W hB⟩
  by_cases he : er = 0
  · subst he
    go_wp2_with (at_mapUpdate; refine wpList_mput rfl _ _ _ 75 rfl _ _ Tryz.underlying75 Tryz.underlying23 rfl HME.out id rfl Pg.zero rfl ?_; intro w9 hM9 hT9)
    go_end0
    obtain ⟨p, cp, e2, e3⟩ := HE.out p20 c20 W _ hB HN.out hM9 hT9 trivial
    exact ⟨rfl, ⟨p, cp, e2⟩, e3⟩
  · have hb : (er == 0) = false := by rw [beq_eq_false_iff_ne]; exact he
    go_wp2
    refine bodyPost_ret (results_none rfl _ _ _) rfl ?_
    obtain ⟨p, cp, e2, e3⟩ := HF.out W _ hB he rfl
    exact ⟨rfl, ⟨p, cp, e2⟩, e3⟩
theorem cdrop_any {w : World} {C Wb : Nat} {k : Wk} {c : Ch} (h : ChAt w C Wb k c) (id : Nat) (hm : mineC k c id = true) (hid : id < 4294967296) (htx : k.tx < 18446744073709551616) (hfew : c.al.l.length < 100000) : Calls Tryz.prog 67 #[.pointer (some ⟨C, 0, none⟩), .int .u32 id] w fun e w' => ∃ p cp, e = .returned (.tuple #[]) ∧ ChAt w' C Wb k (c.dropped k id p cp) ∧ Turned (fun x => x = C ∨ x = c.bp) w w' := (cdrop_new h id hm hid htx hfew).mono fun _ _ ⟨p, cp, h1, h2, h3⟩ => ⟨p, cp, h1, h2.it, h3⟩
end Go.Proofs.YtokbmimbbeedcaaGreatDoor

/- Trees, by the program: a page of the work for what stands on another one. -/
namespace Go.Proofs.YtokbmimbbeedcaaGreatDoor
open Go Go.RowKit Sm
attribute [local go_sem] Oper.semAt_some

theorem took_pages (k : Wk) (c : Ch) (p : Option Addr) (cp : Nat) : (c.took k p cp).pages = c.pages ∧ (c.took k p cp).bp = c.bp ∧ (c.took k p cp).root = c.root ∧ (c.took k p cp).vg = c.vg := by
  unfold Ch.took
  split <;> exact ⟨rfl, rfl, rfl, rfl⟩
def Ch.copyId (k : Wk) (c : Ch) (id : Nat) : Nat := if mineC k c id then id else c.tookId k
def Ch.copied (k : Wk) (c : Ch) (id : Nat) (p : Option Addr) (cp : Nat) : Ch := if mineC k c id then c else { c.took k p cp with pages := mput c.pages (c.tookId k) ⟨0, c.tookId k, 0, []⟩ }
theorem ChAt.below {w w' : World} {C Wb : Nat} {k : Wk} {c : Ch} (h : ChAt w C Wb k c) (hb : Below w.heap.size w w') : ChAt w' C Wb k c := by
  obtain ⟨root, al, p, cp, told, hw⟩ := h.wb
  exact ⟨(hb.block _ (lt_of_heap h.cb)).trans h.cb, ⟨root, al, p, cp, told, (hb.block _ (lt_of_heap hw)).trans hw⟩, h.al.below hb, h.pages.below hb, h.own.below hb, h.old, h.ne⟩
/-- A page laid into the change's map. -/
theorem ChAt.put {w w' : World} {C Wb : Nat} {k : Wk} {c : Ch} (h : ChAt w C Wb k c) (ht : Turned (· = c.bp) w w') {m : List (Nat × Pg)} (hm : MapAt w' c.bp Pg.v m) : ChAt w' C Wb k { c with pages := m } := by
  obtain ⟨n1, n2, n3, n4, n5⟩ := h.ne
  exact h.frame2 (c' := { c with pages := m }) ht (fun _ e => .inr e) (ht.heap h.cb (fun e => by have e : C = c.bp := e; omega)) ⟨h.al.s.turned ht (fun a ha => (h.old a ha).2), fun b hb => ⟨Nat.lt_of_lt_of_le (h.al.old b hb).1 ht.size, (h.al.old b hb).2⟩, h.al.len, h.al.few, h.al.none, h.al.ok⟩ h.old hm rfl

set_option maxRecDepth 20000 in
set_option maxHeartbeats 2000000 in
theorem ccopied_new {w : World} {C Wb : Nat} {k : Wk} {c : Ch} (h : ChAt w C Wb k c) (id : Nat) (hm : mineC k c id = true ∨ id = 0) : Calls Tryz.prog 77 #[.pointer (some ⟨C, 0, none⟩), .int .u32 id] w fun e w' => ∃ p cp, e = .returned (.int .u32 (c.copyId k id)) ∧ ChN w c w' C Wb k (c.copied k id p cp) ∧ Turned (fun x => x = C ∨ x = c.bp) w w' := by
  have hmi := mine_any h id
  cases hb : mineC k c id with
  | true =>
    rw [hb] at hmi
    have HMi : Veil _ := ⟨hmi⟩
    have HE : Veil (∀ W, Below w.heap.size w W → ∃ p cp, Ending.returned (.int .u32 id) = .returned (.int .u32 (c.copyId k id)) ∧ ChN w c W C Wb k (c.copied k id p cp) ∧ Turned (fun x => x = C ∨ x = c.bp) w W) := ⟨fun W hW => ⟨none, 0, by unfold Ch.copyId; rw [if_pos hb], by unfold Ch.copied; rw [if_pos hb]; exact ⟨h.below hW, fun a ha => .inl ha⟩, Turned.new hW⟩⟩
    clear hmi hb hm h
    go_enter Tryz.func77, Tryz.ntmps77
    go_wp2_with (go_at_call 91; refine HMi.out.mono ?_; rintro e w1 ⟨rfl, hb1⟩; have HB1 : Veil _ := ⟨hb1⟩; clear hb1)
    go_ret
    obtain ⟨p, cp, e1, e2, e3⟩ := HE.out _ HB1.out
    exact ⟨p, cp, e1, e2, e3⟩
  | false =>
    have h0 : id = 0 := by rcases hm with hm | hm; (rw [hb] at hm; cases hm); exact hm
    subst h0
    rw [hb] at hmi
    have HMi : Veil _ := ⟨hmi⟩
    have HTk : Veil (∀ W, Below w.heap.size w W → Calls Tryz.prog 108 #[.pointer (some ⟨C, 0, none⟩)] W fun e w' => ∃ p cp, e = .returned (.int .u32 (c.tookId k)) ∧ ChN W c w' C Wb k (c.took k p cp) ∧ Turned (· = C) W w') := ⟨fun W hW => ctake_new (h.below hW)⟩
    have HC5 : Veil (∀ p cp W, ChAt W C Wb k (c.took k p cp) → W.cell? ⟨C, 5, none⟩ = some (.map (some c.bp)) ∧ MapAt W c.bp Pg.v c.pages) := ⟨fun p cp W hW => by
      obtain ⟨t1, t2, -, -⟩ := took_pages k c p cp
      have h1 := (ch_cells hW.cb).1 5
      have h2 := hW.pages
      rw [t2] at h2
      rw [t1] at h2
      refine ⟨?_, h2⟩
      rw [h1, t2]; rfl⟩
    have HE : Veil (∀ p cp W W' W'', Below w.heap.size w W → ChN W c W' C Wb k (c.took k p cp) → Turned (· = C) W W' → MapAt W'' c.bp Pg.v (mput c.pages (c.tookId k) ⟨0, c.tookId k, 0, []⟩) → Turned (· = c.bp) W' W'' → ∃ p cp, Ending.returned (.int .u32 (c.tookId k)) = .returned (.int .u32 (c.copyId k 0)) ∧ ChN w c W'' C Wb k (c.copied k 0 p cp) ∧ Turned (fun x => x = C ∨ x = c.bp) w W'') := ⟨by
      intro p cp W W' W'' hW hA hT hM hT2
      obtain ⟨t1, t2, -, -⟩ := took_pages k c p cp
      refine ⟨p, cp, by unfold Ch.copyId; rw [if_neg (by rw [hb]; decide)], ?_, ?_⟩
      · unfold Ch.copied
        rw [if_neg (by rw [hb]; decide)]
        exact ⟨hA.it.put (by rw [t2]; exact hT2) (by rw [t2]; exact hM), fun a ha => ((hA.less hW.size).new a ha)⟩
      · exact (Turned.new hW : Turned (fun x => x = C ∨ x = c.bp) w W).trans ((hT.wider fun _ _ e => .inl e).trans (hT2.wider fun _ _ e => .inr e))⟩
    clear hmi hb hm h
    revert HTk HC5 HE
    generalize c.tookId k = ti
    intro HTk HC5 HE
    go_enter Tryz.func77, Tryz.ntmps77
    go_wp2_with (first
      | (at_mapUpdate; refine wpList_mput rfl _ _ _ 75 rfl _ _ Tryz.underlying75 Tryz.underlying23 rfl HMp.out ti rfl (⟨0, ti, 0, []⟩ : Pg) rfl ?_; intro w9 hM9 hT9; have HM9 : Veil _ := ⟨hM9⟩; have HT9 : Veil _ := ⟨hT9⟩; clear hM9 hT9)
      | (go_at_call 108; refine (HTk.out _ HB1.out).mono ?_; rintro e w2 ⟨p2, cp2, rfl, hA2, hT2⟩; obtain ⟨c5, hmp⟩ := HC5.out p2 cp2 _ hA2.it; have HMp : Veil _ := ⟨hmp⟩; have HA2 : Veil _ := ⟨hA2⟩; have HT2 : Veil _ := ⟨hT2⟩; clear hmp hA2 hT2)
      | (go_at_call 91; refine HMi.out.mono ?_; rintro e w1 ⟨rfl, hb1⟩; have HB1 : Veil _ := ⟨hb1⟩; clear hb1))
    go_ret
    obtain ⟨p, cp, e1, e2, e3⟩ := HE.out p2 cp2 _ _ _ HB1.out HA2.out HT2.out HM9.out HT9.out
    exact ⟨p, cp, e1, e2, e3⟩
end Go.Proofs.YtokbmimbbeedcaaGreatDoor

/- Trees, by the program: a node written. -/
namespace Go.Proofs.YtokbmimbbeedcaaGreatDoor
open Go Go.RowKit Sm
attribute [local go_sem] Oper.semAt_some

theorem copied_bp (k : Wk) (c : Ch) (id : Nat) (p : Option Addr) (cp : Nat) : (c.copied k id p cp).bp = c.bp ∧ (c.copied k id p cp).root = c.root ∧ (c.copied k id p cp).vg = c.vg := by
  unfold Ch.copied
  obtain ⟨-, t2, t3, t4⟩ := took_pages k c p cp
  split
  · exact ⟨rfl, rfl, rfl⟩
  · exact ⟨t2, t3, t4⟩
/-- A change that has written a node. -/
def Ch.wrote (k : Wk) (c : Ch) (id : Nat) (n : Nd) (p : Option Addr) (cp : Nat) : Ch := { c.copied k id p cp with pages := mput (c.copied k id p cp).pages (c.copyId k id) ⟨(n.kind : Nat), c.copyId k id, k.tx, n.enc⟩ }

set_option maxRecDepth 20000 in
set_option maxHeartbeats 4000000 in
theorem cwrite_new {w : World} {C Wb : Nat} {k : Wk} {c : Ch} (h : ChAt w C Wb k c) (id : Nat) (hm : mineC k c id = true ∨ id = 0) {n : Nd} {a : NdP} (hn : NdAt w n a) (hf : SlOk a.pk n.ks.length a.ck) (hok : Veil n.Ok) (hfit : n.fits = true) : Calls Tryz.prog 66 #[.pointer (some ⟨C, 0, none⟩), .int .u32 id, n.v a] w fun e w' => ∃ p cp, e = .returned (.tuple #[.int .u32 (c.copyId k id), .nilIface]) ∧ ChN w c w' C Wb k (c.wrote k id n p cp) ∧ Turned (fun x => x = C ∨ x = c.bp) w w' := by
  have hlc : C < w.heap.size := lt_of_heap h.cb
  have HEn : Veil (∀ W, Below w.heap.size w W → Calls Tryz.prog 90 #[.agg #[.slice a.pp n.ps.length a.cp, .slice a.pk n.ks.length a.ck, .slice a.pd n.ds.length a.cd]] W fun e w' => e = .returned (.tuple #[.int .i64 (n.kind : Nat), .string ⟨n.enc.toArray⟩, .int .i64 0]) ∧ Below W.heap.size W w') := ⟨fun W hW => by
    have := encode_of (hn.below hW) hf hok
    unfold Nd.encR at this
    rw [if_pos hfit] at this
    exact this⟩
  have HCo : Veil (∀ W, Below w.heap.size w W → Calls Tryz.prog 77 #[.pointer (some ⟨C, 0, none⟩), .int .u32 id] W fun e w' => ∃ p cp, e = .returned (.int .u32 (c.copyId k id)) ∧ ChN W c w' C Wb k (c.copied k id p cp) ∧ Turned (fun x => x = C ∨ x = c.bp) W w') := ⟨fun W hW => ccopied_new (h.below hW) id hm⟩
  have HCells : Veil (∀ p cp w4, ChAt w4 C Wb k (c.copied k id p cp) → ∀ W, Below w4.heap.size w4 W → W.cell? ⟨C, 5, none⟩ = some (.map (some c.bp)) ∧ W.cell? ⟨C, 0, none⟩ = some (.pointer (some ⟨Wb, 0, none⟩)) ∧ W.cell? ⟨Wb, 5, none⟩ = some (.int .u64 k.tx) ∧ MapAt W c.bp Pg.v (c.copied k id p cp).pages) := ⟨fun p cp w4 hA W hW => by
    have hA := hA.below hW
    obtain ⟨root, ral, rp, rcp, told, hwb⟩ := hA.wb
    obtain ⟨t1, -, -⟩ := copied_bp k c id p cp
    have h1 := (ch_cells hA.cb).1 5
    have h2 := hA.pages
    rw [t1] at h2
    refine ⟨?_, (ch_cells hA.cb).1 0, (wk_cells hwb).1 5, h2⟩
    rw [h1, t1]; rfl⟩
  have HE : Veil (∀ p cp w2 w4 W W', Below w.heap.size w w2 → ChN w2 c w4 C Wb k (c.copied k id p cp) → Turned (fun x => x = C ∨ x = c.bp) w2 w4 → Below w4.heap.size w4 W → MapAt W' c.bp Pg.v (mput (c.copied k id p cp).pages (c.copyId k id) ⟨(n.kind : Nat), c.copyId k id, k.tx, n.enc⟩) → Turned (· = c.bp) W W' → ∃ p cp, ChN w c W' C Wb k (c.wrote k id n p cp) ∧ Turned (fun x => x = C ∨ x = c.bp) w W') := ⟨by
    intro p cp w2 w4 W W' hW hA hT hW4 hM hT2
    obtain ⟨t1, -, -⟩ := copied_bp k c id p cp
    refine ⟨p, cp, ?_, ?_⟩
    · exact ⟨(hA.it.below hW4).put (by rw [t1]; exact hT2) (by rw [t1]; exact hM), fun a ha => ((hA.less hW.size).new a ha)⟩
    · exact (Turned.new hW : Turned (fun x => x = C ∨ x = c.bp) w w2).trans (hT.trans ((Turned.new hW4 : Turned (fun x => x = C ∨ x = c.bp) w4 W).trans (hT2.wider fun _ _ e => .inr e)))⟩
  obtain ⟨b0, b1, b2⟩ := (NdBox.new hn).cells
  have HB0 : Veil (Below w.heap.size w (w.alloc (.cells #[.slice a.pp n.ps.length a.cp, .slice a.pk n.ks.length a.ck, .slice a.pd n.ds.length a.cd] 92))) := ⟨below_al (Below.refl _ _) _⟩
  clear h hm hf hok hfit
  unfold Nd.v
  revert HEn HCo HCells HE
  generalize c.copyId k id = ci
  generalize n.kind = kd
  generalize n.enc = en
  generalize c.bp = bp
  generalize k.tx = tx
  intro HEn HCo HCells HE
  go_enter Tryz.func66, Tryz.ntmps66
  go_wp2_with (first
    | (go_at_call 77; refine (HCo.out _ HB2.out).mono ?_; rintro e w4 ⟨p4, cp4, rfl, hA4, hT4⟩; have HA4 : Veil _ := ⟨hA4⟩; have HT4 : Veil _ := ⟨hT4⟩; clear hA4 hT4)
    | (go_at_call 90; refine (HEn.out _ HB0.out).mono ?_; rintro e w2 ⟨rfl, hb2⟩; have HB2 : Veil _ := ⟨alb_then HB0.out hb2⟩; clear hb2 b0 b1 b2))
  have HC5 : Veil _ := ⟨fun W hW => (HCells.out p4 cp4 w4 HA4.out.it W hW).1⟩
  have HC0 : Veil _ := ⟨fun W hW => (HCells.out p4 cp4 w4 HA4.out.it W hW).2.1⟩
  have HW5 : Veil _ := ⟨fun W hW => (HCells.out p4 cp4 w4 HA4.out.it W hW).2.2.1⟩
  refine region_new [.is (.pointer (some ⟨C, 0, none⟩)), .is (.pointer (some ⟨C, 0, none⟩)), .is (.pointer (some ⟨C, 5, none⟩)), .is (.map (some bp)), .is (.int .u32 ci), .is (.int .i64 kd), .is (.int .u32 ci), .is (.pointer (some ⟨C, 0, none⟩)), .is (.pointer (some ⟨C, 0, none⟩)), .is (.pointer (some ⟨C, 0, none⟩)), .is (.pointer (some ⟨Wb, 0, none⟩)), .is (.pointer (some ⟨Wb, 0, none⟩)), .is (.pointer (some ⟨Wb, 5, none⟩)), .is (.int .u64 tx), .is (.string ⟨en.toArray⟩), .is (.agg #[.int .i64 kd, .int .u32 ci, .int .u64 tx, .string ⟨en.toArray⟩])]
    [[], [(0, 24)], [(1, 25)], [(2, 26)], [], [], [], [], [(7, 31)], [(8, 32)], [(9, 33)], [(10, 34)], [(11, 35)], [(12, 36)], [], [(5, 29), (6, 30), (13, 37), (14, 38)]]
    [[], [0], [1], [2], [], [], [], [], [7], [8], [9], [10], [11], [12], [], [5, 6, 13, 14]]
    [(0, 24), (1, 25), (2, 26), (3, 27), (4, 28), (5, 29), (6, 30), (7, 31), (8, 32), (9, 33), (10, 34), (11, 35), (12, 36), (13, 37), (14, 38), (15, 39)] rfl (by kernel_rfl) ⟨?_, ?_, ?_, ?_, ?_, ?_, ?_, ?_, ?_, ?_, ?_, ?_, ?_, ?_, ?_, ?_, trivial⟩ ?_
  · intro vals W hB _
    dsimp only [putsL, slotOf]
    go_wp2
    exact ⟨rfl, Below.refl _ _, rfl⟩
  · intro vals W hB ⟨h0, _⟩
    have h0 : vals 0 = _ := h0
    dsimp only [putsL, slotOf]
    rw [h0]
    go_wp2
    exact ⟨rfl, Below.refl _ _, rfl⟩
  · intro vals W hB ⟨h1, _⟩
    have h1 : vals 1 = _ := h1
    dsimp only [putsL, slotOf]
    rw [h1]
    go_wp2
    exact ⟨rfl, Below.refl _ _, rfl⟩
  · intro vals W hB ⟨h2, _⟩
    have h2 : vals 2 = _ := h2
    have c5 := HC5.out W hB
    dsimp only [putsL, slotOf]
    rw [h2]
    go_wp2
    exact ⟨rfl, Below.refl _ _, rfl⟩
  · intro vals W hB _
    dsimp only [putsL, slotOf]
    go_wp2
    exact ⟨rfl, Below.refl _ _, rfl⟩
  · intro vals W hB _
    dsimp only [putsL, slotOf]
    go_wp2
    exact ⟨rfl, Below.refl _ _, rfl⟩
  · intro vals W hB _
    dsimp only [putsL, slotOf]
    go_wp2
    exact ⟨rfl, Below.refl _ _, rfl⟩
  · intro vals W hB _
    dsimp only [putsL, slotOf]
    go_wp2
    exact ⟨rfl, Below.refl _ _, rfl⟩
  · intro vals W hB ⟨h7, _⟩
    have h7 : vals 7 = _ := h7
    dsimp only [putsL, slotOf]
    rw [h7]
    go_wp2
    exact ⟨rfl, Below.refl _ _, rfl⟩
  · intro vals W hB ⟨h8, _⟩
    have h8 : vals 8 = _ := h8
    dsimp only [putsL, slotOf]
    rw [h8]
    go_wp2
    exact ⟨rfl, Below.refl _ _, rfl⟩
  · intro vals W hB ⟨h9, _⟩
    have h9 : vals 9 = _ := h9
    have c0 := HC0.out W hB
    dsimp only [putsL, slotOf]
    rw [h9]
    go_wp2
    exact ⟨rfl, Below.refl _ _, rfl⟩
  · intro vals W hB ⟨h10, _⟩
    have h10 : vals 10 = _ := h10
    dsimp only [putsL, slotOf]
    rw [h10]
    go_wp2
    exact ⟨rfl, Below.refl _ _, rfl⟩
  · intro vals W hB ⟨h11, _⟩
    have h11 : vals 11 = _ := h11
    dsimp only [putsL, slotOf]
    rw [h11]
    go_wp2
    exact ⟨rfl, Below.refl _ _, rfl⟩
  · intro vals W hB ⟨h12, _⟩
    have h12 : vals 12 = _ := h12
    have w5 := HW5.out W hB
    dsimp only [putsL, slotOf]
    rw [h12]
    go_wp2
    exact ⟨rfl, Below.refl _ _, rfl⟩
  · intro vals W hB _
    dsimp only [putsL, slotOf]
    go_wp2
    exact ⟨rfl, Below.refl _ _, rfl⟩
  · intro vals W hB ⟨h5, h6, h13, h14, _⟩
    have h5 : vals 5 = _ := h5
    have h6 : vals 6 = _ := h6
    have h13 : vals 13 = _ := h13
    have h14 : vals 14 = _ := h14
    dsimp only [putsL, slotOf]
    rw [h5, h6, h13, h14]
    go_wp2
    exact ⟨rfl, Below.refl _ _, rfl⟩
  rintro vals W hB ⟨q0, q1, q2, q3, q4, q5, q6, q7, q8, q9, q10, q11, q12, q13, q14, q15, -⟩
  have h0 : vals 0 = _ := q0
  have h1 : vals 1 = _ := q1
  have h2 : vals 2 = _ := q2
  have h3 : vals 3 = _ := q3
  have h4 : vals 4 = _ := q4
  have h5 : vals 5 = _ := q5
  have h6 : vals 6 = _ := q6
  have h7 : vals 7 = _ := q7
  have h8 : vals 8 = _ := q8
  have h9 : vals 9 = _ := q9
  have h10 : vals 10 = _ := q10
  have h11 : vals 11 = _ := q11
  have h12 : vals 12 = _ := q12
  have h13 : vals 13 = _ := q13
  have h14 : vals 14 = _ := q14
  have h15 : vals 15 = _ := q15
  dsimp only [putsL]
  rw [h0, h1, h2, h3, h4, h5, h6, h7, h8, h9, h10, h11, h12, h13, h14, h15]
  clear h0 q0 h1 q1 h2 q2 h3 q3 h4 q4 h5 q5 h6 q6 h7 q7 h8 q8 h9 q9 h10 q10 h11 q11 h12 q12 h13 q13 h14 q14 h15 q15
  simp only [List.length_cons, List.length_nil, Nat.reduceAdd, List.drop_succ_cons, List.drop_zero, List.setIfInBounds_toArray, List.set_cons_succ, List.set_cons_zero]
  have HMp : Veil _ := ⟨(HCells.out p4 cp4 w4 HA4.out.it W hB).2.2.2⟩
  have HBB : Veil _ := ⟨hB⟩
  go_wp2_with (at_mapUpdate; refine wpList_mput rfl _ _ _ 75 rfl _ _ Tryz.underlying75 Tryz.underlying23 rfl HMp.out ci rfl (⟨kd, ci, tx, en⟩ : Pg) rfl ?_; intro w9 hM9 hT9; have HM9 : Veil _ := ⟨hM9⟩; have HT9 : Veil _ := ⟨hT9⟩; clear hM9 hT9)
  refine bodyPost_ret (results_two rfl rfl rfl) rfl ?_
  obtain ⟨p, cp, e2, e3⟩ := HE.out p4 cp4 _ _ _ _ HB2.out HA4.out HT4.out HBB.out HM9.out HT9.out
  exact ⟨p, cp, rfl, e2, e3⟩
theorem cwrite_any {w : World} {C Wb : Nat} {k : Wk} {c : Ch} (h : ChAt w C Wb k c) (id : Nat) (hm : mineC k c id = true ∨ id = 0) {n : Nd} {a : NdP} (hn : NdAt w n a) (hf : SlOk a.pk n.ks.length a.ck) (hok : Veil n.Ok) (hfit : n.fits = true) : Calls Tryz.prog 66 #[.pointer (some ⟨C, 0, none⟩), .int .u32 id, n.v a] w fun e w' => ∃ p cp, e = .returned (.tuple #[.int .u32 (c.copyId k id), .nilIface]) ∧ ChAt w' C Wb k (c.wrote k id n p cp) ∧ Turned (fun x => x = C ∨ x = c.bp) w w' := (cwrite_new h id hm hn hf hok hfit).mono fun _ _ ⟨p, cp, h1, h2, h3⟩ => ⟨p, cp, h1, h2.it, h3⟩
end Go.Proofs.YtokbmimbbeedcaaGreatDoor

/- Trees, by the program: a node, or its halves. -/
namespace Go.Proofs.YtokbmimbbeedcaaGreatDoor
open Go Go.RowKit Sm
attribute [local go_sem] Oper.semAt_some

theorem NdNew.less {w W : World} {n : Nd} {a : NdP} (h : NdNew W n a) (hs : w.heap.size ≤ W.heap.size) : NdNew w n a := ⟨h.fit, fun b hb => Nat.le_trans hs (h.p b hb), fun b hb => Nat.le_trans hs (h.k b hb), fun b hb => Nat.le_trans hs (h.d b hb)⟩
set_option maxRecDepth 20000 in
set_option maxHeartbeats 4000000 in
theorem fit_one {w : World} {n : Nd} {a : NdP} (h : NdAt w n a) (hf : SlOk a.pk n.ks.length a.ck) (hok : Veil n.Ok) (hs : n.size ≤ 237) : Calls Tryz.prog 65 #[n.v a] w fun e w' => ∃ g, e = .returned (.tuple #[.slice (some ⟨g, 0, none⟩) 1 1, .slice none 0 0, .nilIface]) ∧ NBox w' g n a ∧ Below w.heap.size w w' := by
  have HSz : Veil (∀ w, NdAt w n a → Calls Tryz.prog 78 #[.agg #[.slice a.pp n.ps.length a.cp, .slice a.pk n.ks.length a.ck, .slice a.pd n.ds.length a.cd]] w fun e w' => e = .returned (.int .i64 n.size) ∧ Below w.heap.size w w') := ⟨fun w h => size_of h hf hok⟩
  have HB : Veil _ := ⟨NdBox.new h⟩
  obtain ⟨b0, b1, b2⟩ := HB.out.cells
  have HE : Veil (∀ W W1, NdBox w n a W → W1 = W.alloc (.cells #[.slice a.pp n.ps.length a.cp, .slice a.pk n.ks.length a.ck, .slice a.pd n.ds.length a.cd] 92) → NBox W1 W.heap.size n a ∧ Below w.heap.size w W1) := ⟨by
    rintro W W1 hW rfl
    exact ⟨NBox.new hW.s, below_al hW.x _⟩⟩
  clear h hf hok
  unfold Nd.v
  revert hs HSz
  generalize n.size = sz
  intro hs HSz
  have hs' : (sz : Int) ≤ 237 := by omega
  clear hs
  go_enter Tryz.func65, Tryz.ntmps65
  go_wp2_with (go_at_call 78; refine (HSz.out _ HB.out.s).mono ?_; rintro e w2 ⟨rfl, hb⟩; replace HB : Veil _ := ⟨HB.out.below hb⟩; clear hb b0 b1 b2; obtain ⟨b0, b1, b2⟩ := HB.out.cells)
  refine bodyPost_ret (results_three rfl rfl rfl rfl) rfl ?_
  obtain ⟨e1, e2⟩ := HE.out _ _ HB.out rfl
  exact ⟨_, rfl, e1, e2⟩

set_option maxRecDepth 20000 in
set_option maxHeartbeats 4000000 in
theorem fit_two {w : World} {n : Nd} {a : NdP} (h : NdAt w n a) (hf : NdFit n a) (hok : Veil n.Ok) (hs : 237 < n.size) (hsm : n.size ≤ 1000000) (hc : n.splE = 0) : Calls Tryz.prog 65 #[n.v a] w fun e w' => ∃ g g2 x y, e = .returned (.tuple #[.slice (some ⟨g, 0, none⟩) 2 2, .slice (some ⟨g2, 0, none⟩) 1 1, .nilIface]) ∧ w'.heap[g]? = some (.cells #[.slice x.pp n.splA.ps.length x.cp, .slice x.pk n.splA.ks.length x.ck, .slice x.pd n.splA.ds.length x.cd, .slice y.pp n.splB.ps.length y.cp, .slice y.pk n.splB.ks.length y.ck, .slice y.pd n.splB.ds.length y.cd] 92 (0, 0)) ∧ w'.heap[g2]? = some (.cells #[.string ⟨n.splK.toArray⟩] 9 (0, 0)) ∧ NdAt w' n.splA x ∧ NdAt w' n.splB y ∧ NdNew w n.splA x ∧ NdNew w n.splB y ∧ (w.heap.size ≤ g ∧ w.heap.size ≤ g2) ∧ Below w.heap.size w w' := by
  have HSz : Veil (∀ w, NdAt w n a → Calls Tryz.prog 78 #[.agg #[.slice a.pp n.ps.length a.cp, .slice a.pk n.ks.length a.ck, .slice a.pd n.ds.length a.cd]] w fun e w' => e = .returned (.int .i64 n.size) ∧ Below w.heap.size w w') := ⟨fun w h => size_of h hf.k hok⟩
  have HSp : Veil (∀ w, NdAt w n a → Calls Tryz.prog 89 #[.agg #[.slice a.pp n.ps.length a.cp, .slice a.pk n.ks.length a.ck, .slice a.pd n.ds.length a.cd]] w (SplPostF w n.splA n.splB n.splK 0)) := ⟨fun w h => by
    have := split_new h hf hok
    rwa [hc] at this⟩
  have HTo : Veil (∀ W, Calls Tryz.prog 45 #[.int .i64 0] W fun e w' => e = .returned .nilIface ∧ w' = W) := ⟨fun W => torn_any 0 W⟩
  unfold SplPostF at HSp
  have HL : Veil _ := ⟨NdBox.new h⟩
  obtain ⟨b0, b1, b2⟩ := HL.out.cells
  clear h hf hok hc
  unfold Nd.v
  revert hs hsm HSz HSp
  generalize n.size = sz
  generalize n.splA = A
  generalize n.splB = B
  generalize n.splK = key
  intro hs hsm HSz HSp
  have hs' : ¬ (sz : Int) ≤ 237 := by omega
  clear hs
  go_enter Tryz.func65, Tryz.ntmps65
  go_wp2_with (first
    | (go_at_call 89; refine (HSp.out _ HL.out.s).mono ?_; rintro e w5 ⟨x, y, rfl, hx, hy, fx0, fy0, hb⟩; have fx := fx0.less HL.out.x.size; have fy := fy0.less HL.out.x.size; clear fx0 fy0; obtain ⟨u1, u2, u3, u4, hu1, hu2, hu3, hu4, hz1, hz2, HU⟩ := two_box w5 (.slice x.pp A.ps.length x.cp) (.slice x.pk A.ks.length x.ck) (.slice x.pd A.ds.length x.cd) (.slice y.pp B.ps.length y.cp) (.slice y.pk B.ks.length y.ck) (.slice y.pd B.ds.length y.cd); obtain ⟨⟨i0, i1, i2⟩, j0, j1, j2⟩ := box3 hz1; obtain ⟨⟨p0, p1, p2⟩, q0, q1, q2⟩ := box3 hz2; replace HL : Veil _ := ⟨(HL.out.below hb).below HU.out.2.2.1⟩; have HLx : Veil (NBox u4 w5.heap.size A x) := ⟨⟨HU.out.1, hx.below HU.out.2.2.1⟩⟩; have HLy : Veil (NBox u4 u1.heap.size B y) := ⟨⟨HU.out.2.1, hy.below HU.out.2.2.1⟩⟩; have HFx : Veil (NdNew w A x) := ⟨fx⟩; have HFy : Veil (NdNew w B y) := ⟨fy⟩; clear hb hx hy fx fy hz1 hz2 b0 b1 b2)
    | (go_at_call 78; refine (HSz.out _ HL.out.s).mono ?_; rintro e w2 ⟨rfl, hb⟩; replace HL : Veil _ := ⟨HL.out.below hb⟩; clear hb b0 b1 b2; obtain ⟨b0, b1, b2⟩ := HL.out.cells))
  clear i0 i1 i2 j0 j1 j2 p0 p1 p2 q0 q1 q2
  refine region_new [.is (.agg #[.slice x.pp A.ps.length x.cp, .slice x.pk A.ks.length x.ck, .slice x.pd A.ds.length x.cd]), .is (.agg #[.slice y.pp B.ps.length y.cp, .slice y.pk B.ks.length y.ck, .slice y.pd B.ds.length y.cd]), .row w.heap.size (fun g => .slice (some ⟨g, 0, none⟩) 2 2) #[.slice x.pp A.ps.length x.cp, .slice x.pk A.ks.length x.ck, .slice x.pd A.ds.length x.cd, .slice y.pp B.ps.length y.cp, .slice y.pk B.ks.length y.ck, .slice y.pd B.ds.length y.cd] 92, .is (.string ⟨key.toArray⟩), .row w.heap.size (fun g => .slice (some ⟨g, 0, none⟩) 1 1) #[.string ⟨key.toArray⟩] 9, .is (.int .i64 0), .is .nilIface, .row w.heap.size (fun g => .slice (some ⟨g, 0, none⟩) 2 2) #[.slice x.pp A.ps.length x.cp, .slice x.pk A.ks.length x.ck, .slice x.pd A.ds.length x.cd, .slice y.pp B.ps.length y.cp, .slice y.pk B.ks.length y.ck, .slice y.pd B.ds.length y.cd] 92, .row w.heap.size (fun g => .slice (some ⟨g, 0, none⟩) 1 1) #[.string ⟨key.toArray⟩] 9]
    [[], [], [(0, 21), (1, 22)], [], [(3, 24)], [], [(5, 26)], [(2, 23)], [(4, 25)]]
    [[], [], [0, 1], [], [3], [], [5], [0, 1, 2, 6], [0, 1, 2, 3, 4, 7]]
    [(0, 21), (1, 22), (2, 23), (3, 24), (4, 25), (5, 26), (6, 27), (7, 2), (8, 3)] rfl (by kernel_rfl) ⟨?_, ?_, ?_, ?_, ?_, ?_, ?_, ?_, ?_, trivial⟩ ?_
  · intro vals W hB _
    obtain ⟨x0, x1, x2⟩ := (HLx.out.below hB).cells
    dsimp only [putsL, slotOf]
    go_wp2
    exact ⟨rfl, Below.refl _ _, rfl⟩
  · intro vals W hB _
    obtain ⟨y0, y1, y2⟩ := (HLy.out.below hB).cells
    dsimp only [putsL, slotOf]
    go_wp2
    exact ⟨rfl, Below.refl _ _, rfl⟩
  · intro vals W hB ⟨h0, h1, _⟩
    have h0 : vals 0 = _ := h0
    have h1 : vals 1 = _ := h1
    dsimp only [putsL, slotOf]
    rw [h0, h1]
    go_wp2
    exact ⟨rfl, below_al (Below.refl _ _) _, _, Nat.le_trans HL.out.x.size hB.size, rfl, heap_alloc_new _ _⟩
  · intro vals W hB _
    dsimp only [putsL, slotOf]
    go_wp2
    exact ⟨rfl, Below.refl _ _, rfl⟩
  · intro vals W hB ⟨h3, _⟩
    have h3 : vals 3 = _ := h3
    dsimp only [putsL, slotOf]
    rw [h3]
    go_wp2
    exact ⟨rfl, below_al (Below.refl _ _) _, _, Nat.le_trans HL.out.x.size hB.size, rfl, heap_alloc_new _ _⟩
  · intro vals W hB _
    dsimp only [putsL, slotOf]
    go_wp2
    exact ⟨rfl, Below.refl _ _, rfl⟩
  · intro vals W hB ⟨h5, _⟩
    have h5 : vals 5 = _ := h5
    dsimp only [putsL, slotOf]
    rw [h5]
    go_wp2_with (go_at_call 45; refine (HTo.out _).mono ?_; rintro e w4 ⟨rfl, rfl⟩; have hb4 := Below.refl w4.heap.size w4)
    exact ⟨rfl, hb4, rfl⟩
  · intro vals W hB ⟨h0, h1, ⟨g2, hw2, h2, hg2⟩, h6, _⟩
    have h2 : vals 2 = _ := h2
    dsimp only [putsL, slotOf]
    rw [h2]
    go_wp2
    exact ⟨rfl, Below.refl _ _, _, hw2, rfl, hg2⟩
  · intro vals W hB ⟨h0, h1, ⟨g2, _, h2, hg2⟩, h3, ⟨g4, hw4, h4, hg4⟩, ⟨g7, _, h7, hg7⟩, _⟩
    have h4 : vals 4 = _ := h4
    dsimp only [putsL, slotOf]
    rw [h4]
    go_wp2
    exact ⟨rfl, Below.refl _ _, _, hw4, rfl, hg4⟩
  rintro vals W hB ⟨q0, q1, ⟨g2, hw2, q2, hg2⟩, q3, ⟨g4, hw4, q4, hg4⟩, q5, q6, ⟨g7, hw7, q7, hg7⟩, ⟨g8, hw8, q8, hg8⟩, -⟩
  have h0 : vals 0 = _ := q0
  have h1 : vals 1 = _ := q1
  have h2 : vals 2 = _ := q2
  have h3 : vals 3 = _ := q3
  have h4 : vals 4 = _ := q4
  have h5 : vals 5 = _ := q5
  have h6 : vals 6 = _ := q6
  have h7 : vals 7 = _ := q7
  have h8 : vals 8 = _ := q8
  dsimp only [putsL]
  rw [h0, h1, h2, h3, h4, h5, h6, h7, h8]
  clear h0 q0 h1 q1 h2 q2 h3 q3 h4 q4 h5 q5 h6 q6 h7 q7 h8 q8
  simp only [List.length_cons, List.length_nil, Nat.reduceAdd, List.drop_succ_cons, List.drop_zero, List.setIfInBounds_toArray, List.set_cons_succ, List.set_cons_zero]
  have HEND : Veil _ := ⟨And.intro hg7 (And.intro hg8 (And.intro (HLx.out.below hB).s (And.intro (HLy.out.below hB).s (alb_then HL.out.x hB))))⟩
  have HGs : Veil _ := ⟨And.intro hw7 hw8⟩
  clear hg2 hg4 hg7 hg8
  go_wp2
  refine bodyPost_ret (results_three rfl rfl rfl rfl) rfl ?_
  obtain ⟨e1, e2, e3, e4, e5⟩ := HEND.out
  exact ⟨_, _, x, y, rfl, e1, e2, e3, e4, HFx.out, HFy.out, HGs.out, e5⟩
end Go.Proofs.YtokbmimbbeedcaaGreatDoor
