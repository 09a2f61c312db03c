/- Spares in memory; the iterator over them; a list of them cut. -/
import Derived.Test.YtokbmimbbeedcaaGreatDoorKD0
import Derived.Test.YtokbmimbbeedcaaGreatDoorKD8
import Derived.Test.YtokbmimbbeedcaaGreatDoorKS3
namespace Go.Proofs.YtokbmimbbeedcaaGreatDoor
open Go Go.RowKit Sm

def Sp.v (s : Sp) : Value := .agg #[.int .u32 s.page, .int .u64 s.tx]
def Sp.cells (s : Sp) : List Value := [.int .u32 s.page, .int .u64 s.tx]
def spCells (L : List Sp) : List Value := L.flatMap Sp.cells
theorem length_spCells (L : List Sp) : (spCells L).length = L.length * 2 := by
  unfold spCells
  induction L with
  | nil => rfl
  | cons s r ih => rw [List.flatMap_cons, List.length_append, ih]; simp [Sp.cells]; omega
theorem spCells_append (L M : List Sp) : spCells (L ++ M) = spCells L ++ spCells M := by simp [spCells]
theorem spCells_at : ∀ (L : List Sp) (i : Nat), i < L.length → (spCells L)[i * 2]? = some (.int .u32 (L.getD i Sp.zero).page) ∧ (spCells L)[i * 2 + 1]? = some (.int .u64 (L.getD i Sp.zero).tx)
  | [], i, h => by simp at h
  | s :: r, 0, _ => ⟨rfl, rfl⟩
  | s :: r, i + 1, h => by
    have ih := spCells_at r i (by simpa using h)
    have e : ∀ j, (spCells (s :: r))[j + 2]? = (spCells r)[j]? := fun j => rfl
    rw [show (i + 1) * 2 = i * 2 + 2 by omega, e, show i * 2 + 2 + 1 = (i * 2 + 1) + 2 by omega, e]
    simpa using ih
theorem oneCell_spCells (L : List Sp) : ∀ v ∈ spCells L, v.oneCell' = true := fun v hv => by
  obtain ⟨s, _, hs⟩ := List.mem_flatMap.1 hv
  simp only [Sp.cells, List.mem_cons, List.not_mem_nil, or_false] at hs
  rcases hs with rfl | rfl <;> rfl

/-- A slice that reads as spares. -/
def Sps (w : World) (p : Option Addr) (L : List Sp) : Prop :=
  L ≠ [] → ∃ b o, p = some ⟨b, o, none⟩ ∧ ∀ i, i < L.length → w.cell? ⟨b, o + i * 2, none⟩ = some (.int .u32 (L.getD i Sp.zero).page) ∧ w.cell? ⟨b, o + i * 2 + 1, none⟩ = some (.int .u64 (L.getD i Sp.zero).tx)
theorem Sps.nil (w : World) (p : Option Addr) : Sps w p [] := fun h => absurd rfl h
theorem Sps.cells {w w' : World} {p : Option Addr} {L : List Sp} (h : Sps w p L) (hc : ∀ b o x, p.isSome → w.cell? ⟨b, o, none⟩ = some x → (∀ a, p = some a → a.block = b) → w'.cell? ⟨b, o, none⟩ = some x) : Sps w' p L := fun hn => by
  obtain ⟨b, o, rfl, hr⟩ := h hn
  refine ⟨b, o, rfl, fun i hi => ?_⟩
  obtain ⟨h1, h2⟩ := hr i hi
  exact ⟨hc _ _ _ rfl h1 (fun a ha => by cases ha; rfl), hc _ _ _ rfl h2 (fun a ha => by cases ha; rfl)⟩
theorem Sps.turned {F : Nat → Prop} {w w' : World} {p : Option Addr} {L : List Sp} (h : Sps w p L) (ht : Turned F w w') (hF : ∀ a, p = some a → ¬ F a.block) : Sps w' p L :=
  h.cells fun b o x hs hx hb => by
    obtain ⟨a, rfl⟩ := Option.isSome_iff_exists.1 hs
    exact ht.cell hx (by rw [← hb a rfl]; exact hF a rfl)
theorem Sps.below {w w' : World} {p : Option Addr} {L : List Sp} (h : Sps w p L) (hb : Below w.heap.size w w') : Sps w' p L :=
  h.turned (Turned.new hb : Turned (fun _ => False) w w') (fun _ _ h => h)
theorem Booked.cell {B : Nat} {w w' : World} (h : Booked B w w') {a : Addr} {x : Value} (hx : w.cell? a = some x) : w'.cell? a = some x := by
  unfold World.cell? at hx ⊢
  cases hk : w.heap[a.block]? with
  | none => rw [hk] at hx; cases hx
  | some o =>
    rw [hk] at hx
    cases o with
    | cells c t fr => rw [h.heap hk]; exact hx
    | _ => cases hx
theorem Sps.booked {B : Nat} {w w' : World} {p : Option Addr} {L : List Sp} (h : Sps w p L) (hb : Booked B w w') : Sps w' p L := h.cells fun _ _ _ _ hx _ => hb.cell hx

/-- Spares in new memory. -/
def Made (w : World) (B : Nat) (p : Option Addr) (L : List Sp) : Prop := ∃ g, B ≤ g ∧ p = some ⟨g, 0, none⟩ ∧ w.heap[g]? = some (.cells (spCells L).toArray 70 (0, 0))
theorem Made.sps {w : World} {B : Nat} {p : Option Addr} {L : List Sp} (h : Made w B p L) : Sps w p L := fun _ => by
  obtain ⟨g, -, rfl, hg⟩ := h
  refine ⟨g, 0, rfl, fun i hi => ?_⟩
  obtain ⟨h1, h2⟩ := spCells_at L i hi
  rw [cell_whole hg, cell_whole hg, Nat.zero_add]
  exact ⟨h1, h2⟩
theorem Made.below {w w' : World} {B : Nat} {p : Option Addr} {L : List Sp} (h : Made w B p L) (hb : Below w.heap.size w w') : Made w' B p L := by
  obtain ⟨g, h1, h2, h3⟩ := h
  exact ⟨g, h1, h2, (Turned.new hb : Turned (fun _ => False) w w').heap h3 (fun h => h)⟩
/-- What a call answers: no list, or one in new memory. -/
def Fresh (w : World) (B : Nat) (p : Option Addr) (L : List Sp) : Prop := L = [] ∧ p = none ∨ Made w B p L
theorem Fresh.sps {w : World} {B : Nat} {p : Option Addr} {L : List Sp} (h : Fresh w B p L) : Sps w p L := by
  rcases h with ⟨rfl, -⟩ | h
  · exact Sps.nil _ _
  · exact h.sps
theorem Fresh.below {w w' : World} {B : Nat} {p : Option Addr} {L : List Sp} (h : Fresh w B p L) (hb : Below w.heap.size w w') : Fresh w' B p L := h.imp (fun h => h) fun h => h.below hb

theorem cell_row1 {w : World} {b : Nat} {x : Value} {t : TypeId} {fr : Nat × Nat} (h : w.heap[b]? = some (.cells #[x] t fr)) : w.cell? ⟨b, 0, none⟩ = some x := by simp [World.cell?, h]
theorem info_spare : (Tryz.prog.info? 70).map (fun i => (i.zero, i.size, i.bytes)) = some (some (.agg #[.int .u32 0, .int .u64 0]), 2, 16) := by kernel_rfl
theorem size_spare : (Tryz.prog.info? 70).map (·.size) = some 2 := by kernel_rfl

/-! ### The iterator -/
theorem aeach_any (p : Option Addr) (n c : Nat) (w : World) : Calls Tryz.prog 42 #[.slice p n c] w fun e w' => e = .returned (.func (.func 60) #[] #[.pointer (some ⟨w.heap.size, 0, none⟩)]) ∧ w.alloc (.cells #[.slice p n c] 32) = w' := by
  go_enter Tryz.func42, Tryz.ntmps42
  go_wp2
  go_ret
  exact ⟨rfl, rfl⟩
/-- What the iterator hands over. -/
def handsA (L : List Sp) (k : Nat) : Array Value := #[.int .i64 k, .agg #[.int .u32 (L.getD k Sp.zero).page, .int .u64 (L.getD k Sp.zero).tx]]
def ReadsA (Bx : Nat) (p : Option Addr) (L : List Sp) (cap : Nat) (W : World) : Prop := W.cell? ⟨Bx, 0, none⟩ = some (.slice p L.length cap) ∧ Sps W p L

set_option maxRecDepth 20000 in
set_option maxHeartbeats 1000000 in
theorem aeach_seq (Bx : Nat) (p : Option Addr) (L : List Sp) (cap : Nat) (hl : L.length ≤ 1000000) :
    Seq Tryz.prog 60 #[.pointer (some ⟨Bx, 0, none⟩)] (handsA L) L.length (ReadsA Bx p L cap) := by
  intro l n J Jx W hJ hJx hF hY h0
  obtain ⟨hf1, -⟩ := hF 0 W h0
  refine callsIn_of_wp Tryz.func60 rfl trivial ?_
  simp only [Tryz.ntmps60, List.size_toArray, List.length_cons, List.length_nil, Nat.reduceAdd, Nat.reduceSub, Array.replicate_succ, Array.replicate_zero, List.push_toArray, List.append_toArray, List.nil_append, List.cons_append]
  gi_wp2
  gi_loopw [7] (fun i wr => ∃ k : Nat, k ≤ L.length ∧ i = .int .i64 k ∧ J k wr) (fun i _ => L.length - (intOf i).toNat)
  case atStart => exact ⟨0, Nat.zero_le _, rfl, h0⟩
  case round =>
    obtain ⟨k, hk, rfl, hj⟩ := hrel
    clear hf1
    by_cases hlt : k < L.length
    · obtain ⟨-, hs⟩ := hF k wr hj
      obtain ⟨b, o, rfl, hc⟩ := hs (by intro e; simp [e] at hlt)
      obtain ⟨c1, c2⟩ := hc k hlt
      have hYk := fun A hA => hY k A hlt hA
      simp only [handsA] at hYk
      have HY := Lib.hid hYk
      have HJ := Lib.hid hJ
      clear hc hY hF hYk hJ hJx
      revert c1 c2 HY
      generalize L.getD k Sp.zero = s
      obtain ⟨pg, tx⟩ := s
      intro c1 c2 HY
      have hb3 : Below wr.heap.size wr (wr.alloc (.cells #[.int .u32 pg, .int .u64 tx] 70)) := below_al (Below.refl _ _) _
      obtain ⟨fn, tmps, assign, body, hy, hR⟩ := HY.out _ (HJ.out k wr _ hj hb3)
      clear hb3
      gi_wp2
      refine hR.mono ?_
      rintro e W3 (⟨rfl, hj'⟩ | ⟨rfl, hjx⟩)
      · gi_wp2
        go_roundw
        case rel => exact ⟨k + 1, by omega, by go_num, hj'⟩
        case measure => simp [intOf]; omega
      · gi_wp2
        refine bodyPost_ret (results_none rfl _ _ _) rfl ?_
        exact ⟨⟨_, rfl⟩, .inr ⟨k, hlt, hjx⟩⟩
    · obtain rfl : k = L.length := by omega
      gi_wp2
      go_end0
      exact ⟨⟨_, rfl⟩, .inl hj⟩
end Go.Proofs.YtokbmimbbeedcaaGreatDoor

/- The walks of cut and joined. -/
namespace Go.Proofs.YtokbmimbbeedcaaGreatDoor
open Go Go.RowKit Sm
attribute [local go_sem] Oper.semAt_some

/-! ### copy of elements of more cells than one -/
theorem run_copy_sized {P : Program} (w : World) (dT sT ty elem : TypeId) (z g o dLen dCap : Nat) (a : Addr) (sLen sCap : Nat) (cur : Array Value) (t : TypeId) (cs : List Value) (m : Nat)
    (hu : P.underlying dT = some (.slice elem)) (hs : (P.info? elem).map (·.size) = some z)
    (hg : w.heap[g]? = some (.cells cur t (0, 0))) (hm : Nat.min sLen dLen = m) (hn : cs.length = m * z)
    (hsrc : ∀ j v, cs[j]? = some v → w.cell? (a.add j) = some v) (hfit : o + cs.length ≤ cur.size) (h1 : ∀ v ∈ cs, v.oneCell' = true) :
    (Builtin.copy_ #[dT, sT] ty #[.slice (some ⟨g, o, none⟩) dLen dCap, .slice (some a) sLen sCap]).run P w =
      .ok (goInt m) (w.setRow g (cur.toList.take o ++ cs ++ cur.toList.drop (o + cs.length)).toArray) := by
  have hl := run_loadCells_list (P := P) w a cs hsrc
  have hst := run_storeCells_at P g o t cs 0 cur w hg (by simpa using hfit) h1
  cases hq : P.info? elem with
  | none => simp [hq] at hs
  | some i =>
    have hi : i.size = z := by simpa [hq] using hs
    rw [hn] at hl
    simp [Builtin.copy_, run_underlying hu, Builtin.lenOf, Builtin.firstCells, sizeOf, typeInfo, hq, hi, hm, hl, hst]
theorem run_copy_sized_none {P : Program} (w : World) (dT sT ty elem : TypeId) (z : Nat) (d a : Option Addr) (dLen dCap sLen sCap : Nat) (hu : P.underlying dT = some (.slice elem)) (hs : (P.info? elem).map (·.size) = some z) (hn : Nat.min sLen dLen = 0) :
    (Builtin.copy_ #[dT, sT] ty #[.slice d dLen dCap, .slice a sLen sCap]).run P w = .ok (goInt 0) w := by
  cases hq : P.info? elem with
  | none => simp [hq] at hs
  | some i =>
    have hl : ∀ (x : Addr), (loadCells x 0).run P w = .ok #[] w := fun x => by simpa using run_loadCells_list (P := P) w x [] (by simp)
    cases d <;> cases a <;> simp [Builtin.copy_, run_underlying hu, Builtin.lenOf, Builtin.firstCells, sizeOf, typeInfo, hq, hn, storeCells, hl]
theorem wpList_copy_sized {P : Program} {w : World} {ops : Array Oper} {rest : List Oper} {o : Oper} {a : Act} {Q : Exit → Act → World → Prop} (hgd : o.guard = none) (d s : Operand) (dT sT : TypeId)
    (ho : o.op = .call { callee := .builtin .copy, args := #[d, s], argTypes := #[dT, sT] }) (elem : TypeId) (z : Nat) (hu : P.underlying dT = some (.slice elem)) (hsz : (P.info? elem).map (·.size) = some z)
    (dp sp : Option Addr) (dLen dCap sLen sCap : Nat) (hd : a.eval d = .slice dp dLen dCap) (hs : a.eval s = .slice sp sLen sCap)
    (g off : Nat) (cur : List Value) (t : TypeId) (hg : w.heap[g]? = some (.cells cur.toArray t (0, 0))) (m : Nat) (hm : Nat.min sLen dLen = m) (cs : List Value) (hn : cs.length = m * z)
    (hpos : 0 < m → dp = some ⟨g, off, none⟩ ∧ ∃ ad, sp = some ad ∧ ∀ j v, cs[j]? = some v → w.cell? (ad.add j) = some v)
    (hfit : off + cs.length ≤ cur.length) (h1 : ∀ v ∈ cs, v.oneCell' = true)
    (h : ∀ w', Hid (w'.heap[g]? = some (.cells (splice cur off cs).toArray t (0, 0))) → Turned (· = g) w w' → wpList P ops Q rest (a.put o.dst (goInt m)) w') :
    wpList P ops Q (o :: rest) a w := by
  by_cases h0 : m = 0
  · subst h0
    obtain rfl : cs = [] := List.eq_nil_of_length_eq_zero (by omega)
    refine wpList_plain hgd fun K hK => ?_
    have hrun := run_copy_sized_none (P := P) w dT sT o.type elem z dp sp dLen dCap sLen sCap hu hsz hm
    unfold Oper.wp
    simp [execOp, ho, resolve, invoke, builtin, hd, hs, hrun, Result.andThen]
    exact hK _ _ (h w (show _ = _ by simpa [splice] using hg) (Turned.refl _ _))
  · obtain ⟨rfl, ad, rfl, hsrc⟩ := hpos (by omega)
    refine wpList_plain hgd fun K hK => ?_
    have hrun := run_copy_sized (P := P) w dT sT o.type elem z g off dLen dCap ad sLen sCap cur.toArray t cs m hu hsz hg hm hn hsrc (by simpa using hfit) h1
    unfold Oper.wp
    simp [execOp, ho, resolve, invoke, builtin, hd, hs, hrun, Result.andThen]
    refine hK _ _ (h _ (show _ = _ by simpa [splice] using setRow_heap w g _ _ t _ hg) (turned_setRow (F := (· = g)) (Turned.refl _ _) rfl _))

/-! ### cut -/
/-- Where a list that was cut lies. -/
def cutP (p : Option Addr) (f n : Nat) : Option Addr := if n = 0 then p else p.map fun a => ⟨a.block, a.off + f * 2, none⟩
theorem cutP_sps {w : World} {p : Option Addr} {L : List Sp} (h : Sps w p L) (f n : Nat) (hfn : f + n ≤ L.length) : Sps w (cutP p f n) ((L.drop f).take n) := fun hne => by
  have hn : n ≠ 0 := by rintro rfl; simp at hne
  obtain ⟨b, o, rfl, hr⟩ := h (by rintro rfl; simp at hfn; omega)
  refine ⟨b, o + f * 2, by simp [cutP, hn], fun i hi => ?_⟩
  have hi' : i < n := by simp at hi; omega
  have e : ((L.drop f).take n).getD i Sp.zero = L.getD (f + i) Sp.zero := by simp [List.getD, hi']
  obtain ⟨h1, h2⟩ := hr (f + i) (by omega)
  rw [e, show o + f * 2 + i * 2 = o + (f + i) * 2 by omega]
  exact ⟨h1, h2⟩
set_option maxRecDepth 20000 in
theorem acut_any {p : Option Addr} (len cap f n : Nat) (hfn : f + n ≤ len) (hlc : len ≤ cap) (hc : cap ≤ 1000000) (hp : p = none → cap = 0) (hs : ∀ a, p = some a → a.spot = none) (w : World) :
    Calls Tryz.prog 131 #[.slice p len cap, .int .i64 f, .int .i64 ((f + n : Nat) : Int)] w fun e w' => e = .returned (.slice (cutP p f n) n n) ∧ w = w' := by
  by_cases hn : n = 0
  · subst hn
    have e : cutP p f 0 = p := rfl
    rw [e, Nat.add_zero]
    rw [Nat.add_zero] at hfn
    cases p with
    | none =>
      obtain rfl : cap = 0 := hp rfl
      obtain rfl : len = 0 := by omega
      obtain rfl : f = 0 := by omega
      clear hfn hlc hc hp
      go_enter Tryz.func131, Tryz.ntmps131
      go_wp2
      go_ret
      exact ⟨rfl, rfl⟩
    | some a =>
      have hl0 : f ≤ cap := by omega
      clear hfn hp e
      go_enter Tryz.func131, Tryz.ntmps131
      go_wp2
      go_ret
      exact ⟨by simp, rfl⟩
  · cases p with
    | none =>
      have := hp rfl
      omega
    | some a =>
      obtain ⟨b, o, sp⟩ := a
      obtain rfl : sp = none := hs _ rfl
      have e : cutP (some ⟨b, o, none⟩) f n = some ⟨b, o + f * 2, none⟩ := by simp [cutP, hn]
      rw [e]
      obtain ⟨t, ht⟩ : ∃ t, f + n = t := ⟨_, rfl⟩
      rw [ht]
      have hnt : t - f = n := by omega
      have HNT : Veil _ := ⟨hnt⟩
      have hlt : f < t := by omega
      have hl0 : t ≤ cap := by omega
      clear hn e hfn hp ht hnt hs
      go_enter Tryz.func131, Tryz.ntmps131
      go_wp2
      go_ret
      exact ⟨by rw [HNT.out]; rfl, rfl⟩
end Go.Proofs.YtokbmimbbeedcaaGreatDoor

/- The walk of joined: all spares of some lists, in new memory. -/
namespace Go.Proofs.YtokbmimbbeedcaaGreatDoor
open Go Go.RowKit Sm
attribute [local go_sem] Oper.semAt_some

/-- One list among some: where it lies, its room, its spares. -/
structure Ls where
  p : Option Addr
  c : Nat
  l : List Sp
def Ls.zero : Ls := ⟨none, 0, []⟩
def flat (ls : List Ls) (k : Nat) : List Sp := (ls.take k).flatMap Ls.l
theorem flat_succ (ls : List Ls) (k : Nat) (h : k < ls.length) : flat ls (k + 1) = flat ls k ++ (ls.getD k Ls.zero).l := by
  unfold flat
  rw [List.take_succ_eq_append_getElem h, List.flatMap_append]
  simp [List.getD, h]
theorem flat_le (ls : List Ls) (k : Nat) : (flat ls k).length ≤ (flat ls ls.length).length := by
  unfold flat
  rw [List.take_length]
  conv => rhs; rw [← List.take_append_drop k ls]
  rw [List.flatMap_append, List.length_append]
  omega
def LsAt (w : World) (b : Nat) (ls : List Ls) : Prop := ∀ i, i < ls.length → w.cell? ⟨b, i, none⟩ = some (.slice (ls.getD i Ls.zero).p (ls.getD i Ls.zero).l.length (ls.getD i Ls.zero).c) ∧ Sps w (ls.getD i Ls.zero).p (ls.getD i Ls.zero).l
/-- What joined leaves. -/
def AJoinPost (w : World) (M : List Sp) (e : Ending) (w' : World) : Prop := ∃ g, e = .returned (.slice (some ⟨g, 0, none⟩) M.length M.length) ∧ (w.heap.size ≤ g ∧ w'.heap[g]? = some (.cells (spCells M).toArray 70 (0, 0))) ∧ Below w.heap.size w w'

/-- Between two rounds of the second loop. -/
def JoinI (w : World) (g n : Nat) (M : List Sp) (A : World) : Prop := w.heap.size ≤ g ∧ Below w.heap.size w A ∧ ∃ cur : List Value, A.heap[g]? = some (.cells cur.toArray 70 (0, 0)) ∧ cur.length = n * 2 ∧ cur.take (M.length * 2) = spCells M
theorem splice_take {α : Type} (cur cs : List α) (o : Nat) (h : o + cs.length ≤ cur.length) : (splice cur o cs).take (o + cs.length) = cur.take o ++ cs := by
  unfold splice
  rw [← List.append_assoc, List.take_append_of_le_length (by simp; omega), List.take_of_length_le (by simp; omega)]

set_option maxRecDepth 20000 in
set_option maxHeartbeats 2000000 in
theorem joined_any (b cap : Nat) (ls : List Ls) (w : World) (hc : LsAt w b ls) (hb : b < w.heap.size) (hls : ls.length ≤ 10) (htot : (flat ls ls.length).length ≤ 1000000) :
    Calls Tryz.prog 130 #[.slice (some ⟨b, 0, none⟩) ls.length cap] w (AJoinPost w (flat ls ls.length)) := by
  obtain ⟨n, hn⟩ : ∃ n, (flat ls ls.length).length = n := ⟨_, rfl⟩
  have HN : Veil _ := ⟨hn⟩
  rw [hn] at htot
  clear hn
  have HC := Lib.hid hc
  clear hc
  go_enter Tryz.func130, Tryz.ntmps130
  go_wp2
  go_loop [3, 12] (fun s i => ∃ k : Nat, k ≤ ls.length ∧ i = .int .i64 k ∧ s = .int .i64 (flat ls k).length) (fun _ i => ls.length - (intOf i).toNat)
  case atStart => exact ⟨0, Nat.zero_le _, rfl, rfl⟩
  case round =>
    obtain ⟨k, hk, rfl, rfl⟩ := hrel
    by_cases hlt : k < ls.length
    · obtain ⟨c1, -⟩ := HC.out k hlt
      have hs : Veil _ := ⟨congrArg List.length (flat_succ ls k hlt)⟩
      have hb1 : (flat ls (k + 1)).length ≤ n := by rw [← HN.out]; exact flat_le _ _
      have HB1 : Veil _ := ⟨hb1⟩
      clear hb1
      have HM : Veil _ := ⟨congrArg List.length (rfl : flat ls (k + 1) = flat ls (k + 1))⟩
      revert c1 hs HB1 HM
      generalize ls.getD k Ls.zero = x
      generalize hM' : flat ls (k + 1) = M'
      generalize flat ls k = M
      intro c1 hs HB1 _
      have HM : Veil _ := ⟨hM'⟩
      clear hM'
      have hle : M.length + x.l.length ≤ n := by have := hs.out; have := HB1.out; simp at *; omega
      go_wp2
      refine ⟨⟨k + 1, by omega, by go_num, by rw [HM.out, hs.out, List.length_append]; go_num⟩, ?_⟩
      simp only [intOf]; omega
    · obtain rfl : k = ls.length := by omega
      rw [HN.out]
      obtain ⟨i0, hi0, hz0, hz1, hz2⟩ := info_parts info_spare
      have HI : Veil (Tryz.prog.info? 70 = some i0 ∧ i0.zero = some (.agg #[.int .u32 0, .int .u64 0]) ∧ i0.size = 2 ∧ i0.bytes = 16) := ⟨hi0, hz0, hz1, hz2⟩
      clear hi0 hz0 hz1 hz2
      go_wp2_with (refine wpList_make_full _ rfl (.tmp 21) (.tmp 21) 32 rfl w.heap.size 70 i0 _ 2 Tryz.underlying32 HI.out.1 HI.out.2.1 HI.out.2.2.1 .i64 .i64 _ _ n rfl rfl rfl rfl (by rw [HI.out.2.2.2]; omega) (by unfold maxLen; omega) (Nat.le_refl _) ?_; intro w1 hown hgrow)
      have hJ : JoinI w w.heap.size n [] w1 := by
        have hT : Turned (fun _ => False) w w1 := Turned.grown hgrow (fun k hk => by cases hk)
        refine ⟨Nat.le_refl _, hT.toBelow (Nat.le_refl _) (fun _ _ h => h.elim), ?_⟩
        obtain ⟨-, h2⟩ := hown
        rcases h2 with ⟨h, -⟩ | ⟨g, cap', cur, hv, hg, hh, hn, hcap, hsz, ht⟩
        · cases h
        · simp only [Value.slice.injEq, Option.some.injEq, Addr.mk.injEq] at hv
          obtain ⟨⟨rfl, -⟩, -, rfl⟩ := hv
          refine ⟨cur.toList, by simpa using hh, by simp; omega, by simp [spCells]⟩
      have HJ : Veil _ := ⟨hJ⟩
      have hgr : w.heap.size < w1.heap.size := by
        obtain ⟨-, -, cur, hg, -⟩ := hJ
        exact lt_of_heap hg
      have hb1 : b < w1.heap.size := by omega
      clear hJ hown hgrow HI
      have HJ' := HJ
      go_wp2
      go_loopw [7, 9, 25] (fun a _ i wr => ∃ k : Nat, k ≤ ls.length ∧ i = .int .i64 k ∧ a = .int .i64 (flat ls k).length ∧ Veil (JoinI w w.heap.size n (flat ls k) wr)) (fun _ _ i _ => ls.length - (intOf i).toNat)
      case atStart => exact ⟨0, Nat.zero_le _, rfl, rfl, HJ'⟩
      case round =>
        obtain ⟨k, hk, rfl, rfl, hJk⟩ := hrel
        clear HJ HJ'
        by_cases hlt : k < ls.length
        · obtain ⟨c0, hS0⟩ := HC.out k hlt
          have c1 := (hJk.out.2.1.cell (p := ⟨b, k, none⟩) hb).trans c0
          have HS : Veil _ := ⟨hS0.below hJk.out.2.1⟩
          have hs : Veil _ := ⟨flat_succ ls k hlt⟩
          have hb1 : (flat ls (k + 1)).length ≤ n := by rw [← HN.out]; exact flat_le _ _
          have HB1 : Veil _ := ⟨hb1⟩
          clear hb1 hS0 c0
          revert c1 hs HB1 HS hJk
          generalize ls.getD k Ls.zero = x
          generalize hM' : flat ls (k + 1) = M'
          generalize flat ls k = M
          intro hJk c1 HS hs HB1
          have HM : Veil _ := ⟨hM'⟩
          clear hM'
          obtain ⟨hwg, hB, cur, hg, hl, ht⟩ := hJk.out
          have hle : M.length + x.l.length ≤ n := by have h1 := congrArg List.length hs.out; have h2 := HB1.out; rw [List.length_append] at h1; omega
          have HG : Veil _ := ⟨hg⟩
          have HB : Veil _ := ⟨hB⟩
          have HL : Veil _ := ⟨hl⟩
          have HT : Veil _ := ⟨ht⟩
          have hmin : Nat.min x.l.length (n - M.length) = x.l.length := Nat.min_eq_left (by omega)
          have HMI : Veil _ := ⟨hmin⟩
          have hfit : Veil (M.length * 2 + (spCells x.l).length ≤ cur.length) := ⟨by rw [length_spCells, hl]; omega⟩
          have hsrc : Veil (0 < x.l.length → ∃ ad, x.p = some ad ∧ ∀ j v, (spCells x.l)[j]? = some v → wr.cell? (ad.add j) = some v) := ⟨fun h0 => by
            obtain ⟨b', o', hp, hr⟩ := HS.out (by intro e; rw [e] at h0; simp at h0)
            refine ⟨_, hp, fun j v hj => ?_⟩
            have hjl : j < x.l.length * 2 := by have := (List.getElem?_eq_some_iff.1 hj).1; rwa [length_spCells] at this
            rw [Addr.add_mid]
            have hi : j / 2 < x.l.length := by omega
            obtain ⟨r1, r2⟩ := hr (j / 2) hi
            obtain ⟨s1, s2⟩ := spCells_at x.l (j / 2) hi
            rcases Nat.mod_two_eq_zero_or_one j with hm | hm
            · rw [show j = j / 2 * 2 by omega] at hj ⊢
              rw [s1] at hj; cases hj; exact r1
            · rw [show j = j / 2 * 2 + 1 by omega] at hj ⊢
              rw [s2] at hj; cases hj; exact r2⟩
          clear hg hB hl ht hwg hmin
          by_cases hm : M.length < n
          · go_wp2_with (with_reducible refine wpList_copy_sized rfl (.tmp 32) (.tmp 33) 32 32 rfl 70 2 Tryz.underlying32 size_spare _ _ _ _ _ _ rfl rfl w.heap.size (M.length * 2) cur 70 HG.out x.l.length HMI.out (spCells x.l) (length_spCells _) (fun h0 => ⟨by simp, hsrc.out h0⟩) hfit.out (oneCell_spCells _) ?_; intro w2 hw2 hT2)
            have hB2 := HB.out.trans (hT2.toBelow HB.out.size (fun j _ e => Nat.le_of_eq e.symm))
            have hl2 := length_splice cur (M.length * 2) (spCells x.l) hfit.out
            have ht2 := splice_take cur (spCells x.l) (M.length * 2) hfit.out
            rw [HT.out, length_spCells, ← Nat.add_mul, ← spCells_append] at ht2
            refine ⟨⟨k + 1, by omega, by go_num, ?_, ⟨hJk.out.1, hB2, _, hw2.out, by rw [hl2, HL.out], ?_⟩⟩, ?_⟩
            · rw [HM.out, hs.out, List.length_append]; go_num
            · rw [HM.out, hs.out, List.length_append]; exact ht2
            · simp only [intOf]; omega
          · obtain ⟨hm, h0⟩ : M.length = n ∧ x.l.length = 0 := by omega
            have HX : Veil (x.l = []) := ⟨List.eq_nil_of_length_eq_zero h0⟩
            have hf1 : Veil (Nat.min 0 0 = 0 ∧ ([] : List Value).length = 0 * 2) := ⟨rfl, rfl⟩
            have hf2 : Veil (∀ v ∈ ([] : List Value), v.oneCell' = true) := ⟨fun _ h => by cases h⟩
            have hf0 : Veil (0 + ([] : List Value).length ≤ cur.length) := ⟨by simp⟩
            go_wp2_with (with_reducible refine wpList_copy_sized rfl (.tmp 32) (.tmp 33) 32 32 rfl 70 2 Tryz.underlying32 size_spare _ _ _ _ _ _ rfl rfl w.heap.size 0 cur 70 HG.out 0 hf1.out.1 [] hf1.out.2 (fun h0' => absurd h0' (Nat.lt_irrefl 0)) hf0.out hf2.out ?_; intro w2 hw2 hT2)
            have hB2 := HB.out.trans (hT2.toBelow HB.out.size (fun j _ e => Nat.le_of_eq e.symm))
            refine ⟨⟨k + 1, by omega, by go_num, ?_, ⟨hJk.out.1, hB2, cur, by simpa [splice] using hw2.out, HL.out, ?_⟩⟩, ?_⟩
            · rw [HM.out, hs.out, HX.out, List.append_nil]; go_num
            · rw [HM.out, hs.out, HX.out, List.append_nil]; exact HT.out
            · simp only [intOf]; omega
        · obtain rfl : k = ls.length := by omega
          obtain ⟨hwg, hB, cur, hg, hl, ht⟩ := hJk.out
          rw [HN.out, ← hl, List.take_length] at ht
          subst ht
          have HG : Veil _ := ⟨hg⟩
          have HB : Veil _ := ⟨hB⟩
          clear hg hB hl hwg
          go_wp2
          go_ret
          exact ⟨w.heap.size, by rw [HN.out]; rfl, ⟨hJk.out.1, HG.out⟩, HB.out⟩
end Go.Proofs.YtokbmimbbeedcaaGreatDoor
