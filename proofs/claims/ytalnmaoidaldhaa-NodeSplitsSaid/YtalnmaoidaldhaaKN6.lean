/- The walks of Size, Encode, Place (the document's own). -/
import Derived.Test.YtalnmaoidaldhaaKN1
import Derived.Test.YtalnmaoidaldhaaKN4
import Derived.Test.YtalnmaoidaldhaaKR
namespace Go.Proofs.Ytalnmaoidaldhaa
open Go Go.RowKit Sm
attribute [local go_sem] Oper.semAt_some

theorem Nd.right_kd {n : Nd} (h : n.right = true) : n.ds.length = 0 ∨ n.ks.length + 1 = n.ds.length := by
  rcases Bool.or_eq_true_iff.1 h with h | h
  · exact Or.inl (n.leaf_iff.1 h).1.2.1
  · exact Or.inr (n.branch_iff.1 h).1.2.2.2
theorem Nd.enc_pos (n : Nd) : 1 ≤ n.enc.length := by
  unfold Nd.enc psB bsB
  split <;> simp only [List.length_append, putB_length] <;> omega
theorem Nd.enc_le {n : Nd} (hok : n.Ok) : n.enc.length ≤ 9000000000000 := by
  unfold Nd.enc
  have := hok.p; have := hok.k
  split
  · have := psB_len hok.pt n.ps.length (Nat.le_refl _); omega
  · have := bsB_len hok.kt n.ks.length (Nat.le_refl _); omega
def Nd.size (n : Nd) : Nat := if n.right then n.enc.length else 0
def Nd.fits (n : Nd) : Bool := n.right && decide (n.enc.length ≤ 237)
def Nd.kind (n : Nd) : Nat := if n.ds.length = 0 then 1 else 2
def Nd.encR (n : Nd) : Value := if n.fits then .tuple #[.int .i64 n.kind, .string ⟨n.enc.toArray⟩, .int .i64 0] else .tuple #[.int .i64 0, .string ⟨#[]⟩, .int .i64 60]

/-- A box that holds a node, and what stands in it. -/
structure NdBox (w : World) (n : Nd) (a : NdP) (W1 : World) : Prop where
  b : W1.heap[w.heap.size]? = some (.cells #[.slice a.pp n.ps.length a.cp, .slice a.pk n.ks.length a.ck, .slice a.pd n.ds.length a.cd] 26 (0, 0))
  x : Below w.heap.size w W1
  s : NdAt W1 n a
theorem NdBox.new {w : World} {n : Nd} {a : NdP} (h : NdAt w n a) : NdBox w n a (w.alloc (.cells #[.slice a.pp n.ps.length a.cp, .slice a.pk n.ks.length a.ck, .slice a.pd n.ds.length a.cd] 26)) :=
  ⟨heap_alloc_new _ _, below_al (Below.refl _ _) _, h.below (below_al (Below.refl _ _) _)⟩
theorem NdBox.below {w : World} {n : Nd} {a : NdP} {W1 W2 : World} (h : NdBox w n a W1) (hb : Below W1.heap.size W1 W2) : NdBox w n a W2 :=
  ⟨(hb.block _ (lt_of_heap h.b)).trans h.b, bn_then h.x hb, h.s.below hb⟩
theorem NdBox.cells {w : World} {n : Nd} {a : NdP} {W1 : World} (h : NdBox w n a W1) : W1.cell? ⟨w.heap.size, 0, none⟩ = some (.slice a.pp n.ps.length a.cp) ∧ W1.cell? ⟨w.heap.size, 1, none⟩ = some (.slice a.pk n.ks.length a.ck) ∧ W1.cell? ⟨w.heap.size, 2, none⟩ = some (.slice a.pd n.ds.length a.cd) := (box3 h.b).1

end Go.Proofs.Ytalnmaoidaldhaa

/- Nodes that a call makes of its own; the law's text. -/
namespace Go.Proofs.Ytalnmaoidaldhaa
open Go Go.RowKit Sm
attribute [local go_sem] Oper.semAt_some

/-- A slice as Go has them. -/
structure SlOk (p : Option Addr) (n c : Nat) : Prop where
  le : n ≤ c
  few : c ≤ 9223372036854775807
  none : p = none → c = 0
  spot : ∀ a, p = some a → a.spot = Option.none
structure NdFit (n : Nd) (a : NdP) : Prop where
  p : SlOk a.pp n.ps.length a.cp
  k : SlOk a.pk n.ks.length a.ck
  d : SlOk a.pd n.ds.length a.cd
/-- A node whose lists lie in blocks of its own, from base on. -/
structure NdOwn (w : World) (base : Nat) (v1 v2 v3 : Value) (n : Nd) : Prop where
  p : OwnE elP w base v1 n.ps
  k : OwnE elK w base v2 n.ks
  d : OwnE elD w base v3 n.ds
  pk : ∀ j, v1.ownBlock = some j → v2.ownBlock ≠ some j
  pd : ∀ j, v1.ownBlock = some j → v3.ownBlock ≠ some j
  kd : ∀ j, v2.ownBlock = some j → v3.ownBlock ≠ some j
theorem NdOwn.zero (w : World) (base : Nat) : NdOwn w base (.slice none 0 0) (.slice none 0 0) (.slice none 0 0) Nd.zero :=
  ⟨OwnE.nil _ _ _, OwnE.nil _ _ _, OwnE.nil _ _ _, fun _ h => (by cases h), fun _ h => (by cases h), fun _ h => (by cases h)⟩
section
variable {w w' : World} {base : Nat} {v1 v2 v3 v' : Value} {n : Nd}
theorem NdOwn.kept {F : Nat → Prop} (h : NdOwn w base v1 v2 v3 n) (ht : Turned F w w') (hF : ∀ k, base ≤ k → ¬ F k) : NdOwn w' base v1 v2 v3 n :=
  ⟨h.p.kept ht (fun k hk => hF k (h.p.lt hk).1), h.k.kept ht (fun k hk => hF k (h.k.lt hk).1), h.d.kept ht (fun k hk => hF k (h.d.lt hk).1), h.pk, h.pd, h.kd⟩
theorem NdOwn.below (h : NdOwn w base v1 v2 v3 n) (hb : Below w.heap.size w w') : NdOwn w' base v1 v2 v3 n := ⟨h.p.below hb, h.k.below hb, h.d.below hb, h.pk, h.pd, h.kd⟩
theorem NdOwn.putP {L : List Pr} (h : NdOwn w base v1 v2 v3 n) (hg : w.grownBy w' v1.ownBlock) (ho : OwnE elP w' base v' L) (hv : ∀ k, v'.ownBlock = some k → v1.ownBlock = some k ∨ w.heap.size ≤ k) : NdOwn w' base v' v2 v3 { n with ps := L } := by
  have ht : Turned (fun j => v1.ownBlock = some j) w w' := Turned.grown hg (fun j hj _ => hj)
  refine ⟨ho, h.k.kept ht (fun k hk e => h.pk k e hk), h.d.kept ht (fun k hk e => h.pd k e hk), fun j hj e => ?_, fun j hj e => ?_, h.kd⟩
  · rcases hv j hj with h1 | h1
    · exact h.pk j h1 e
    · have := (h.k.lt e).2; omega
  · rcases hv j hj with h1 | h1
    · exact h.pd j h1 e
    · have := (h.d.lt e).2; omega
theorem NdOwn.putK {L : List (List UInt8)} (h : NdOwn w base v1 v2 v3 n) (hg : w.grownBy w' v2.ownBlock) (ho : OwnE elK w' base v' L) (hv : ∀ k, v'.ownBlock = some k → v2.ownBlock = some k ∨ w.heap.size ≤ k) : NdOwn w' base v1 v' v3 { n with ks := L } := by
  have ht : Turned (fun j => v2.ownBlock = some j) w w' := Turned.grown hg (fun j hj _ => hj)
  refine ⟨h.p.kept ht (fun k hk e => h.pk k hk e), ho, h.d.kept ht (fun k hk e => h.kd k e hk), fun j hj e => ?_, h.pd, fun j hj e => ?_⟩
  · rcases hv j e with h1 | h1
    · exact h.pk j hj h1
    · have := (h.p.lt hj).2; omega
  · rcases hv j hj with h1 | h1
    · exact h.kd j h1 e
    · have := (h.d.lt e).2; omega
theorem NdOwn.putD {L : List Nat} (h : NdOwn w base v1 v2 v3 n) (hg : w.grownBy w' v3.ownBlock) (ho : OwnE elD w' base v' L) (hv : ∀ k, v'.ownBlock = some k → v3.ownBlock = some k ∨ w.heap.size ≤ k) : NdOwn w' base v1 v2 v' { n with ds := L } := by
  have ht : Turned (fun j => v3.ownBlock = some j) w w' := Turned.grown hg (fun j hj _ => hj)
  refine ⟨h.p.kept ht (fun k hk e => h.pd k hk e), h.k.kept ht (fun k hk e => h.kd k hk e), ho, h.pk, fun j hj e => ?_, fun j hj e => ?_⟩
  · rcases hv j e with h1 | h1
    · exact h.pd j hj h1
    · have := (h.p.lt hj).2; omega
  · rcases hv j e with h1 | h1
    · exact h.kd j hj h1
    · have := (h.k.lt hj).2; omega
theorem OwnE.fit {α : Type} {E : El α} {v : Value} {L : List α} (h : OwnE E w base v L) : ∃ p c, v = .slice p L.length c ∧ Els E w p L ∧ SlOk p L.length c ∧ ∀ a, p = some a → base ≤ a.block ∧ a.block < w.heap.size ∧ v.ownBlock = some a.block := by
  have hlt := World.ownsRow.lt h
  obtain ⟨h1, h2⟩ := h
  rcases h2 with ⟨rfl, h0⟩ | ⟨g, cap, cur, rfl, hg, hh, hn, hc, hs, ht⟩
  · obtain rfl : L = [] := List.eq_nil_of_length_eq_zero h0
    exact ⟨none, 0, rfl, Els.nil _ _, ⟨Nat.le_refl _, by decide, fun _ => rfl, fun a ha => (by cases ha)⟩, fun a ha => (by cases ha)⟩
  · exact ⟨_, _, rfl, els_of_block hh ht, ⟨by omega, by first | exact hc | (unfold maxLen at hc; omega), fun h => (by cases h), fun a ha => (by cases ha; rfl)⟩, fun a ha => by cases ha; exact ⟨hg, lt_of_heap hh, rfl⟩⟩
/-- Read as any node. -/
theorem NdOwn.at (h : NdOwn w base v1 v2 v3 n) : ∃ a, .agg #[v1, v2, v3] = n.v a ∧ NdAt w n a ∧ NdFit n a := by
  obtain ⟨p1, c1, e1, r1, f1, -⟩ := h.p.fit
  obtain ⟨p2, c2, e2, r2, f2, -⟩ := h.k.fit
  obtain ⟨p3, c3, e3, r3, f3, -⟩ := h.d.fit
  exact ⟨⟨p1, c1, p2, c2, p3, c3⟩, by rw [e1, e2, e3]; rfl, ⟨r1, r2, r3⟩, ⟨f1, f2, f3⟩⟩
end

theorem min_len6 (n k : Nat) (W : World) : (Builtin.min_ #[3, 3] 3 #[.int .i64 (n : Int), .int .i64 (k : Int)]).run Try.prog W = .ok (.int .i64 ((min n k : Nat) : Int)) W := by
  rw [run_min_int2]
  by_cases h : (k : Int) < n
  · rw [if_pos h, show min n k = k by omega]
  · rw [if_neg h, show min n k = n by omega]
set_option maxRecDepth 20000 in
theorem lawtext_any (s : List UInt8) (hs : s.length ≤ 9223372036854775807) (w : World) : Calls Try.prog 9 #[.string ⟨s.toArray⟩] w fun e w' => e = .returned (.string ⟨(s.take 70).toArray⟩) ∧ w' = w := by
  obtain ⟨m, hm⟩ : ∃ m, min s.length 70 = m := ⟨_, rfl⟩
  have hmin : ∀ W, (Builtin.min_ #[3, 3] 3 #[.int .i64 (s.length : Int), .int .i64 70]).run Try.prog W = .ok (.int .i64 (m : Int)) W := by rw [← hm]; exact min_len6 s.length 70
  have hml : m ≤ s.length := by omega
  have hT : Veil ((⟨s.toArray⟩ : ByteArray).extract 0 m = ⟨(s.take 70).toArray⟩) := ⟨by
    apply ByteArray.ext
    simp [← hm, List.take_eq_take_iff]
    omega⟩
  clear hm
  go_enter Try.func9, Try.ntmps9
  go_wp2
  go_ret
  exact ⟨congrArg (fun x => Ending.returned (Value.string x)) hT.out, rfl⟩
end Go.Proofs.Ytalnmaoidaldhaa

/- The walk of the law's cut. -/
namespace Go.Proofs.Ytalnmaoidaldhaa
open Go Go.RowKit Sm
attribute [local go_sem] Oper.semAt_some

def cutPr (p : Pr) : Pr := ⟨p.k.take 70, p.v.take 70⟩
/-- The law's node. -/
def Nd.cut (n : Nd) : Nd := ⟨(n.ps.take 260).map cutPr, (n.ks.take 260).map (·.take 70), n.ds.take 260⟩
/-- Between the rounds: the node's box, the answer's, the one that is built. -/
structure CutI (w : World) (n : Nd) (a : NdP) (m : Nd) (v1 v2 v3 : Value) (W : World) : Prop where
  b : W.heap[w.heap.size]? = some (.cells #[.slice a.pp n.ps.length a.cp, .slice a.pk n.ks.length a.ck, .slice a.pd n.ds.length a.cd] 26 (0, 0))
  r : W.heap[w.heap.size + 1]? = some (.cells #[.slice none 0 0, .slice none 0 0, .slice none 0 0] 26 (0, 0))
  o : W.heap[w.heap.size + 2]? = some (.cells #[v1, v2, v3] 26 (0, 0))
  x : Below w.heap.size w W
  m : NdOwn W (w.heap.size + 3) v1 v2 v3 m
  s : NdAt W n a
section
variable {w W W' : World} {n m : Nd} {a : NdP} {v1 v2 v3 v' : Value}
theorem CutI.below (h : CutI w n a m v1 v2 v3 W) (hb : Below W.heap.size W W') : CutI w n a m v1 v2 v3 W' :=
  ⟨(hb.block _ (lt_of_heap h.b)).trans h.b, (hb.block _ (lt_of_heap h.r)).trans h.r, (hb.block _ (lt_of_heap h.o)).trans h.o, bn_then h.x hb, h.m.below hb, h.s.below hb⟩
theorem NdAt.turned {F : Nat → Prop} (h : NdAt W n a) (ht : Turned F W W') (hF : ∀ k, F k → w.heap.size ≤ k) (hn : NdAt w n a) : NdAt W' n a := by
  have hl : ∀ {α : Type} {E : El α} {p : Option Addr} {L : List α}, Els E w p L → L ≠ [] → ∀ x, p = some x → x.block < w.heap.size := fun {α E p L} h hne x hx => by
    obtain ⟨b, o, rfl, hc⟩ := h hne
    cases hx
    have hz := E.pos
    have hlt : 0 < L.length := List.length_pos_iff.2 hne
    have := hc 0 0 hlt hz
    have h2 : 0 < (E.enc (L.getD 0 E.d)).length := by rw [E.len]; exact hz
    rw [List.getElem?_eq_getElem h2] at this
    exact World.block_lt_of_cell? w ⟨b, o + 0 * E.z + 0, none⟩ this
  have hk : ∀ {α : Type} {E : El α} {p : Option Addr} {L : List α}, Els E w p L → Els E W p L → Els E W' p L := fun {α E p L} h0 h1 hne =>
    (h1.turned ht fun x hx hf => by have := hl h0 hne x hx; have := hF _ hf; omega) hne
  exact ⟨hk hn.p h.p, hk hn.k h.k, hk hn.d h.d⟩
/-- What was turned: new blocks, and the box that is built. -/
theorem CutI.put (h : CutI w n a m v1 v2 v3 W) (h0 : NdAt w n a) {F : Nat → Prop} (ht : Turned F W W') (hF : ∀ k, F k → w.heap.size + 2 ≤ k) {u1 u2 u3 : Value} {m' : Nd}
    (ho : W'.heap[w.heap.size + 2]? = some (.cells #[u1, u2, u3] 26 (0, 0))) (hm : NdOwn W' (w.heap.size + 3) u1 u2 u3 m') : CutI w n a m' u1 u2 u3 W' :=
  ⟨ht.heap h.b (fun hf => by have := hF _ hf; omega), ht.heap h.r (fun hf => by have := hF _ hf; omega), ho, h.x.trans (ht.toBelow h.x.size (fun k _ hf => by have := hF k hf; omega)), hm, h.s.turned ht (fun k hf => by have := hF k hf; omega) h0⟩
theorem CutI.grown (h : CutI w n a m v1 v2 v3 W) {v : Value} (hv : ∀ j, v.ownBlock = some j → w.heap.size + 3 ≤ j) (hg : W.grownBy W' v.ownBlock) : W'.heap[w.heap.size + 2]? = some (.cells #[v1, v2, v3] 26 (0, 0)) :=
  (Turned.grown (F := fun j => v.ownBlock = some j) hg (fun j hj _ => hj)).heap h.o (fun hf => by have := hv _ hf; omega)
theorem CutI.grownR (h : CutI w n a m v1 v2 v3 W) {v : Value} (hv : ∀ j, v.ownBlock = some j → w.heap.size + 3 ≤ j) (hg : W.grownBy W' v.ownBlock) : W'.heap[w.heap.size + 1]? = some (.cells #[.slice none 0 0, .slice none 0 0, .slice none 0 0] 26 (0, 0)) :=
  (Turned.grown (F := fun j => v.ownBlock = some j) hg (fun j hj _ => hj)).heap h.r (fun hf => by have := hv _ hf; omega)
end

theorem results_node1 {fn : Func} {p : Tmp} {tmps : Array Value} {w : World} {g : Nat} {x0 x1 x2 : Value} (h : fn.results = #[.cell p 26]) (hp : tmps.getD p undef = .pointer (some ⟨g, 0, none⟩)) (hg : w.heap[g]? = some (.cells #[x0, x1, x2] 26 (0, 0))) :
    (results fn tmps).run Try.prog w = .ok (.agg #[x0, x1, x2]) w := by
  have hp' : tmps[p]?.getD undef = .pointer (some ⟨g, 0, none⟩) := by simpa using hp
  obtain ⟨⟨c0, c1, c2⟩, -⟩ := box3 hg
  simp [results, h, go_sem, hp', c0, c1, c2]
theorem OwnE.less {α : Type} {E : El α} {w : World} {B B' : Nat} {v : Value} {L : List α} (h : OwnE E w B v L) (hB : B' ≤ B) : OwnE E w B' v L := by
  obtain ⟨h1, h2⟩ := h
  refine ⟨h1, ?_⟩
  rcases h2 with h2 | ⟨g, cap, cur, hv, hg, h3⟩
  · exact .inl h2
  · exact .inr ⟨g, cap, cur, hv, Nat.le_trans hB hg, h3⟩
theorem NdOwn.less {w : World} {B B' : Nat} {v1 v2 v3 : Value} {n : Nd} (h : NdOwn w B v1 v2 v3 n) (hB : B' ≤ B) : NdOwn w B' v1 v2 v3 n := ⟨h.p.less hB, h.k.less hB, h.d.less hB, h.pk, h.pd, h.kd⟩

theorem cut_take (P : List Pr) (k : Nat) (h : k < P.length) : (P.take (k + 1)).map cutPr = (P.take k).map cutPr ++ [cutPr (P.getD k Pr.zero)] := by
  have e : P.take (k + 1) = P.take k ++ [P.getD k Pr.zero] := by
    rw [List.take_add_one]; simp [List.getD, h]
  rw [e]; simp
theorem cut_takeK (K : List (List UInt8)) (k : Nat) (h : k < K.length) : (K.take (k + 1)).map (·.take 70) = (K.take k).map (·.take 70) ++ [(K.getD k []).take 70] := by
  have e : K.take (k + 1) = K.take k ++ [K.getD k []] := by
    rw [List.take_add_one]; simp [List.getD, h]
  rw [e]; simp

set_option maxRecDepth 20000 in
set_option maxHeartbeats 4000000 in
theorem lawcut_of {w : World} {n : Nd} {a : NdP} (h : NdAt w n a) (hf : NdFit n a) (hp : ∀ p ∈ n.ps, p.k.length ≤ 9223372036854775807 ∧ p.v.length ≤ 9223372036854775807) (hk : ∀ s ∈ n.ks, s.length ≤ 9223372036854775807) :
    Calls Try.prog 5 #[n.v a] w fun e w' => ∃ v1 v2 v3, e = .returned (.agg #[v1, v2, v3]) ∧ NdOwn w' w.heap.size v1 v2 v3 n.cut ∧ Below w.heap.size w w' := by
  have HH : Veil _ := ⟨h⟩
  have HFT : Veil _ := ⟨hf⟩
  have HPT : Veil _ := ⟨hp⟩
  have HKT : Veil _ := ⟨hk⟩
  have hPl : n.ps.length ≤ 9223372036854775807 := Nat.le_trans hf.p.le hf.p.few
  have hKl : n.ks.length ≤ 9223372036854775807 := Nat.le_trans hf.k.le hf.k.few
  have hDl : n.ds.length ≤ 9223372036854775807 := Nat.le_trans hf.d.le hf.d.few
  clear h hf hp hk
  obtain ⟨W3, hW3⟩ : ∃ W3, ((w.alloc (.cells #[.slice a.pp n.ps.length a.cp, .slice a.pk n.ks.length a.ck, .slice a.pd n.ds.length a.cd] 26)).alloc (.cells #[.slice none 0 0, .slice none 0 0, .slice none 0 0] 26)).alloc (.cells #[.slice none 0 0, .slice none 0 0, .slice none 0 0] 26) = W3 := ⟨_, rfl⟩
  have HI : Veil (CutI w n a Nd.zero (.slice none 0 0) (.slice none 0 0) (.slice none 0 0) W3) := ⟨by
    have hb : Below w.heap.size w W3 := by rw [← hW3]; exact below_al (below_al (below_al (Below.refl _ _) _) _) _
    refine ⟨?_, ?_, ?_, hb, NdOwn.zero _ _, HH.out.below hb⟩
    all_goals
      rw [← hW3]
      simp only [heap_alloc_if, World.size_alloc]
      repeat (first | rw [if_neg (by omega)] | rw [if_pos (by first | trivial | omega)])⟩
  unfold Nd.v
  go_enter Try.func5, Try.ntmps5
  go_wp2
  clear hW3
  obtain ⟨P, K, D⟩ := n
  obtain ⟨pp, cp, pk, ck, pd, cd⟩ := a
  dsimp only at *
  obtain ⟨G0, hG0⟩ : ∃ G0, w.heap.size = G0 := ⟨_, rfl⟩
  obtain ⟨G2, hG2⟩ : ∃ G2, w.heap.size + 1 + 1 = G2 := ⟨_, rfl⟩
  rw [hG2, hG0]
  go_loopw [4] (fun i wr => ∃ k : Nat, k ≤ P.length ∧ k ≤ 260 ∧ i = .int .i64 k ∧ Veil (∃ v1, CutI w ⟨P, K, D⟩ ⟨pp, cp, pk, ck, pd, cd⟩ ⟨(P.take k).map cutPr, [], []⟩ v1 (.slice none 0 0) (.slice none 0 0) wr)) (fun i _ => 260 - (intOf i).toNat)
  case atStart => exact ⟨0, Nat.zero_le _, by omega, rfl, ⟨_, HI.out⟩⟩
  case round =>
    obtain ⟨k, hk, hk2, rfl, hJ⟩ := hrel
    obtain ⟨v1, hJ1⟩ := hJ.out
    have HJ : Veil _ := ⟨hJ1⟩
    clear hJ hJ1
    obtain ⟨⟨a0, a1, a2⟩, -⟩ := box3 HJ.out.b
    dsimp only at a0 a1 a2
    rw [hG0] at a0 a1 a2
    by_cases hcond : k < P.length ∧ k < 260
    · obtain ⟨hlt, hl2⟩ := hcond
      obtain ⟨b, o, hpe, hc⟩ := HJ.out.s.pair (by rintro he; dsimp only at he; simp [he] at hlt)
      dsimp only at hpe hc
      subst hpe
      obtain ⟨d1, d2⟩ := hc k hlt
      have hkI : (0 : Int) ≤ k := by omega
      obtain ⟨hpk, hpv⟩ := HPT.out _ (getD_mem hlt Pr.zero)
      have HTK : Veil _ := ⟨cut_take P k hlt⟩
      clear hc
      revert d1 d2 hpk hpv HTK
      generalize P.getD k Pr.zero = s
      obtain ⟨sk, sv⟩ := s
      dsimp only
      intro d1 d2 hpk hpv HTK
      have HTk : Veil (∀ w, Calls Try.prog 9 #[.string ⟨sk.toArray⟩] w fun e w' => e = .returned (.string ⟨(sk.take 70).toArray⟩) ∧ Below w.heap.size w w') := ⟨fun w => (lawtext_any sk hpk w).mono fun e w' ⟨h1, h2⟩ => ⟨h1, by rw [h2]; exact Below.refl _ _⟩⟩
      have HTv : Veil (∀ w, Calls Try.prog 9 #[.string ⟨sv.toArray⟩] w fun e w' => e = .returned (.string ⟨(sv.take 70).toArray⟩) ∧ Below w.heap.size w w') := ⟨fun w => (lawtext_any sv hpv w).mono fun e w' ⟨h1, h2⟩ => ⟨h1, by rw [h2]; exact Below.refl _ _⟩⟩
      have e0 := (box3 HJ.out.o).1.1
      have HY : Veil (∀ W, Below wr.heap.size wr W → W.cell? ⟨G2, 0, none⟩ = some v1 ∧ W.cell? ⟨G0, 0, none⟩ = some (.slice (some ⟨b, o, none⟩) P.length cp) ∧ W.cell? ⟨b, o + k * 2, none⟩ = some (.string ⟨sk.toArray⟩) ∧ W.cell? ⟨b, o + k * 2 + 1, none⟩ = some (.string ⟨sv.toArray⟩)) := ⟨fun W hb => by
        rw [← hG2]
        exact ⟨(hb.cell (World.block_lt_of_cell? wr _ e0)).trans e0, (hb.cell (World.block_lt_of_cell? wr _ a0)).trans a0, (hb.cell (World.block_lt_of_cell? wr _ d1)).trans d1, (hb.cell (World.block_lt_of_cell? wr _ d2)).trans d2⟩⟩
      clear hpk hpv e0 d1 d2
      go_wp2
      clear a0 a1 a2
      refine region_new [.is (.pointer (some ⟨G2, 0, none⟩)), .is v1, .is (.pointer (some ⟨G0, 0, none⟩)), .is (.slice (some ⟨b, o, none⟩) P.length cp), .is (.int .i64 k), .is (.pointer (some ⟨b, o + k * 2, none⟩)), .is (.pointer (some ⟨b, o + k * 2, none⟩)), .is (.string ⟨sk.toArray⟩), .is (.string ⟨(sk.take 70).toArray⟩), .is (.pointer (some ⟨G0, 0, none⟩)), .is (.slice (some ⟨b, o, none⟩) P.length cp), .is (.int .i64 k), .is (.pointer (some ⟨b, o + k * 2, none⟩)), .is (.pointer (some ⟨b, o + k * 2 + 1, none⟩)), .is (.string ⟨sv.toArray⟩), .is (.string ⟨(sv.take 70).toArray⟩), .is (.agg #[.string ⟨(sk.take 70).toArray⟩, .string ⟨(sv.take 70).toArray⟩]), .row 0 (fun g => .slice (some ⟨g, 0, none⟩) 1 1) #[.string ⟨(sk.take 70).toArray⟩, .string ⟨(sv.take 70).toArray⟩] 39]
        [[], [(0, 17)], [], [(2, 19)], [], [(3, 20), (4, 21)], [(5, 22)], [(6, 23)], [(7, 24)], [], [(9, 26)], [], [(10, 27), (11, 28)], [(12, 29)], [(13, 30)], [(14, 31)], [(8, 25), (15, 32)], [(16, 33)]]
        [[], [0], [], [2], [], [3, 4], [5], [6], [7], [], [9], [], [10, 11], [12], [13], [8, 14], [8, 15], [16]]
        [(0, 17), (1, 18), (2, 19), (3, 20), (4, 21), (5, 22), (6, 23), (7, 24), (8, 25), (9, 26), (10, 27), (11, 28), (12, 29), (13, 30), (14, 31), (15, 32), (16, 33), (17, 34)] rfl (by kernel_rfl) ⟨?_, ?_, ?_, ?_, ?_, ?_, ?_, ?_, ?_, ?_, ?_, ?_, ?_, ?_, ?_, ?_, ?_, ?_, trivial⟩ ?_
      · intro vals W hB _
        dsimp only [putsL, slotOf]
        go_wp2
        exact ⟨rfl, Below.refl _ _, rfl⟩
      · intro vals W hB ⟨h0, _⟩
        have h0 : vals 0 = _ := h0
        have c1 := (HY.out W hB).1
        dsimp only [putsL, slotOf]
        rw [h0]
        go_wp2
        exact ⟨rfl, Below.refl _ _, rfl⟩
      · intro vals W hB _
        dsimp only [putsL, slotOf]
        go_wp2
        exact ⟨rfl, Below.refl _ _, rfl⟩
      · intro vals W hB ⟨h2, _⟩
        have h2 : vals 2 = _ := h2
        have c1 := (HY.out W hB).2.1
        dsimp only [putsL, slotOf]
        rw [h2]
        go_wp2
        exact ⟨rfl, Below.refl _ _, rfl⟩
      · intro vals W hB _
        dsimp only [putsL, slotOf]
        go_wp2
        exact ⟨rfl, Below.refl _ _, rfl⟩
      · intro vals W hB ⟨h3, h4, _⟩
        have h3 : vals 3 = _ := h3
        have h4 : vals 4 = _ := h4
        dsimp only [putsL, slotOf]
        rw [h3, h4]
        go_wp2
        exact ⟨rfl, Below.refl _ _, rfl⟩
      · intro vals W hB ⟨h5, _⟩
        have h5 : vals 5 = _ := h5
        dsimp only [putsL, slotOf]
        rw [h5]
        go_wp2
        exact ⟨rfl, Below.refl _ _, rfl⟩
      · intro vals W hB ⟨h6, _⟩
        have h6 : vals 6 = _ := h6
        have c1 := (HY.out W hB).2.2.1
        dsimp only [putsL, slotOf]
        rw [h6]
        go_wp2
        exact ⟨rfl, Below.refl _ _, rfl⟩
      · intro vals W hB ⟨h7, _⟩
        have h7 : vals 7 = _ := h7
        dsimp only [putsL, slotOf]
        rw [h7]
        go_wp2_with ((go_at_call 9; (with_reducible refine (HTk.out _).mono ?_); rintro e w4 ⟨rfl, hb4⟩))
        exact ⟨rfl, hb4, rfl⟩
      · intro vals W hB _
        dsimp only [putsL, slotOf]
        go_wp2
        exact ⟨rfl, Below.refl _ _, rfl⟩
      · intro vals W hB ⟨h9, _⟩
        have h9 : vals 9 = _ := h9
        have c1 := (HY.out W hB).2.1
        dsimp only [putsL, slotOf]
        rw [h9]
        go_wp2
        exact ⟨rfl, Below.refl _ _, rfl⟩
      · intro vals W hB _
        dsimp only [putsL, slotOf]
        go_wp2
        exact ⟨rfl, Below.refl _ _, rfl⟩
      · intro vals W hB ⟨h10, h11, _⟩
        have h10 : vals 10 = _ := h10
        have h11 : vals 11 = _ := h11
        dsimp only [putsL, slotOf]
        rw [h10, h11]
        go_wp2
        exact ⟨rfl, Below.refl _ _, rfl⟩
      · intro vals W hB ⟨h12, _⟩
        have h12 : vals 12 = _ := h12
        dsimp only [putsL, slotOf]
        rw [h12]
        go_wp2
        exact ⟨rfl, Below.refl _ _, rfl⟩
      · intro vals W hB ⟨h13, _⟩
        have h13 : vals 13 = _ := h13
        have c1 := (HY.out W hB).2.2.2
        dsimp only [putsL, slotOf]
        rw [h13]
        go_wp2
        exact ⟨rfl, Below.refl _ _, rfl⟩
      · intro vals W hB ⟨h8, h14, _⟩
        have h14 : vals 14 = _ := h14
        dsimp only [putsL, slotOf]
        rw [h14]
        go_wp2_with ((go_at_call 9; (with_reducible refine (HTv.out _).mono ?_); rintro e w4 ⟨rfl, hb4⟩))
        exact ⟨rfl, hb4, rfl⟩
      · intro vals W hB ⟨h8, h15, _⟩
        have h8 : vals 8 = _ := h8
        have h15 : vals 15 = _ := h15
        dsimp only [putsL, slotOf]
        rw [h8, h15]
        go_wp2
        exact ⟨rfl, Below.refl _ _, rfl⟩
      · intro vals W hB ⟨h16, _⟩
        have h16 : vals 16 = _ := h16
        dsimp only [putsL, slotOf]
        rw [h16]
        go_wp2
        exact ⟨rfl, below_al (Below.refl _ _) _, _, Nat.zero_le _, rfl, heap_alloc_new _ _⟩
      rintro vals W hB ⟨q0, q1, q2, q3, q4, q5, q6, q7, q8, q9, q10, q11, q12, q13, q14, q15, q16, ⟨g17, hw17, q17, hg17⟩, -⟩
      have h0 : vals 0 = _ := q0
      have h1 : vals 1 = _ := q1
      have h2 : vals 2 = _ := q2
      have h3 : vals 3 = _ := q3
      have h4 : vals 4 = _ := q4
      have h5 : vals 5 = _ := q5
      have h6 : vals 6 = _ := q6
      have h7 : vals 7 = _ := q7
      have h8 : vals 8 = _ := q8
      have h9 : vals 9 = _ := q9
      have h10 : vals 10 = _ := q10
      have h11 : vals 11 = _ := q11
      have h12 : vals 12 = _ := q12
      have h13 : vals 13 = _ := q13
      have h14 : vals 14 = _ := q14
      have h15 : vals 15 = _ := q15
      have h16 : vals 16 = _ := q16
      have h17 : vals 17 = _ := q17
      dsimp only [putsL]
      rw [h0, h1, h2, h3, h4, h5, h6, h7, h8, h9, h10, h11, h12, h13, h14, h15, h16, h17]
      clear h0 q0 h1 q1 h2 q2 h3 q3 h4 q4 h5 q5 h6 q6 h7 q7 h8 q8 h9 q9 h10 q10 h11 q11 h12 q12 h13 q13 h14 q14 h15 q15 h16 q16 h17 q17
      simp only [List.length_cons, List.length_nil, Nat.reduceAdd, List.drop_succ_cons, List.drop_zero, List.setIfInBounds_toArray, List.set_cons_succ, List.set_cons_zero]
      have HJ3 : Veil _ := ⟨HJ.out.below hB⟩
      have HG17 : Veil _ := ⟨hg17⟩
      clear hB hg17 hw17
      have hz2 : w.heap.size + 3 ≤ W.heap.size := by have := lt_of_heap HJ3.out.o; omega
      have hzz : Veil _ := ⟨hz2⟩
      clear hz2
      go_wp2_with (at_builtin; refine wpList_append_el elP rfl (.tmp 18) (.tmp 34) rfl (w.heap.size + 3) v1 _ ⟨sk.take 70, sv.take 70⟩ rfl HJ3.out.m.p g17 rfl HG17.out (by simp; omega) hzz.out ?_; intro v' w5 hown5 hgrow5 hv5; have HOG : Veil _ := ⟨HJ3.out.grown (fun j hj => (HJ3.out.m.p.lt hj).1) hgrow5⟩; obtain ⟨p5, c5, rfl, -, -⟩ := hown5.fit; obtain ⟨⟨y0, y1, y2⟩, g0, g1, g2⟩ := box3 HOG.out; rw [show w.heap.size + 2 = G2 from hG2] at y0 g0; have HV5 : Veil _ := ⟨hv5⟩; clear y1 y2 g1 g2 hv5)
      have HLN : Veil ((List.map cutPr (List.take k P) ++ [(⟨sk.take 70, sv.take 70⟩ : Pr)]).length = k + 1) := ⟨by simp; omega⟩
      have hown6 : OwnE elP w5 (w.heap.size + 3) (.slice p5 (k + 1) c5) (List.map cutPr (List.take k P) ++ [(⟨sk.take 70, sv.take 70⟩ : Pr)]) := by rw [← HLN.out]; exact hown5
      have hts : Turned (· = G2) w5 (w5.setCell ⟨G2, 0, none⟩ (.slice p5 (k + 1) c5)) := (Turned.refl (· = G2) w5).setCell (p := ⟨G2, 0, none⟩) rfl _
      refine ⟨⟨k + 1, by omega, by omega, by go_num, ⟨.slice p5 (k + 1) c5, HJ3.out.put HH.out (u1 := .slice p5 (k + 1) c5) (F := fun j => v1.ownBlock = some j ∨ j = G2) (((Turned.grown hgrow5 (fun j hj _ => .inl hj)).setCell (p := ⟨G2, 0, none⟩) (.inr rfl) (.slice p5 (k + 1) c5))) (fun j hj => ?_) ?_ ?_⟩⟩, ?_⟩
      · rcases hj with hj | hj
        · have := (HJ3.out.m.p.lt hj).1; omega
        · omega
      · exact hG2 ▸ heap_setCell_at HOG.out 0 _
      · rw [HTK.out]
        exact ((HJ3.out.m.putP hgrow5 hown6 (by have := HV5.out; rwa [HLN.out] at this)).kept hts (fun j hj e => by omega))
      · simp only [intOf]; omega
    · have HTK : Veil (P.take k = P.take 260) := ⟨by
        by_cases hlt : k < P.length
        · rw [show k = 260 by omega]
        · rw [List.take_of_length_le (by omega), List.take_of_length_le (by omega)]⟩
      go_wp2
      all_goals
        have HJ6 : Veil (CutI w ⟨P, K, D⟩ ⟨pp, cp, pk, ck, pd, cd⟩ ⟨(P.take 260).map cutPr, [], []⟩ v1 (.slice none 0 0) (.slice none 0 0) wr) := ⟨by rw [← HTK.out]; exact HJ.out⟩
        generalize hW6 : wr = W6 at *
        clear HJ HTK HI a0 a1 a2 hW6 hk2 hcond
        go_loopw [5] (fun i wr => ∃ j : Nat, j ≤ K.length ∧ j ≤ 260 ∧ i = .int .i64 j ∧ Veil (∃ v2, CutI w ⟨P, K, D⟩ ⟨pp, cp, pk, ck, pd, cd⟩ ⟨(P.take 260).map cutPr, (K.take j).map (·.take 70), []⟩ v1 v2 (.slice none 0 0) wr)) (fun i _ => 260 - (intOf i).toNat)
        case atStart => exact ⟨0, Nat.zero_le _, by omega, rfl, ⟨_, HJ6.out⟩⟩
        case round =>
          obtain ⟨j, hj, hj2, rfl, hJ⟩ := hrel
          obtain ⟨v2, hJ1⟩ := hJ.out
          have HJ : Veil _ := ⟨hJ1⟩
          clear hJ hJ1
          obtain ⟨⟨a0, a1, a2⟩, -⟩ := box3 HJ.out.b
          dsimp only at a0 a1 a2
          rw [hG0] at a0 a1 a2
          by_cases hcond2 : j < K.length ∧ j < 260
          · obtain ⟨hlt, hl2⟩ := hcond2
            obtain ⟨b, o, hpe, hc⟩ := HJ.out.s.key (by rintro he; dsimp only at he; simp [he] at hlt)
            dsimp only at hpe hc
            subst hpe
            have d1 := hc j hlt
            have hkI : (0 : Int) ≤ j := by omega
            have hpk := HKT.out _ (getD_mem hlt [])
            have HTK : Veil _ := ⟨cut_takeK K j hlt⟩
            clear hc
            revert d1 hpk HTK
            generalize K.getD j [] = sk
            intro d1 hpk HTK
            have HTk : Veil (∀ w, Calls Try.prog 9 #[.string ⟨sk.toArray⟩] w fun e w' => e = .returned (.string ⟨(sk.take 70).toArray⟩) ∧ Below w.heap.size w w') := ⟨fun w => (lawtext_any sk hpk w).mono fun e w' ⟨h1, h2⟩ => ⟨h1, by rw [h2]; exact Below.refl _ _⟩⟩
            have e0 := (box3 HJ.out.o).1.2.1
            have HY : Veil (∀ W, Below wr.heap.size wr W → W.cell? ⟨G2, 1, none⟩ = some v2 ∧ W.cell? ⟨G0, 1, none⟩ = some (.slice (some ⟨b, o, none⟩) K.length ck) ∧ W.cell? ⟨b, o + j, none⟩ = some (.string ⟨sk.toArray⟩)) := ⟨fun W hb => by
              rw [← hG2]
              exact ⟨(hb.cell (World.block_lt_of_cell? wr _ e0)).trans e0, (hb.cell (World.block_lt_of_cell? wr _ a1)).trans a1, (hb.cell (World.block_lt_of_cell? wr _ d1)).trans d1⟩⟩
            clear hpk e0 d1
            go_wp2
            clear a0 a1 a2
            refine region_new [.is (.pointer (some ⟨G2, 1, none⟩)), .is v2, .is (.pointer (some ⟨G0, 1, none⟩)), .is (.slice (some ⟨b, o, none⟩) K.length ck), .is (.int .i64 j), .is (.pointer (some ⟨b, o + j, none⟩)), .is (.string ⟨sk.toArray⟩), .is (.string ⟨(sk.take 70).toArray⟩), .row 0 (fun g => .slice (some ⟨g, 0, none⟩) 1 1) #[.string ⟨(sk.take 70).toArray⟩] 9]
              [[], [(0, 48)], [], [(2, 50)], [], [(3, 51), (4, 52)], [(5, 53)], [(6, 54)], [(7, 55)]]
              [[], [0], [], [2], [], [3, 4], [5], [6], [7]]
              [(0, 48), (1, 49), (2, 50), (3, 51), (4, 52), (5, 53), (6, 54), (7, 55), (8, 56)] rfl (by kernel_rfl) ⟨?_, ?_, ?_, ?_, ?_, ?_, ?_, ?_, ?_, trivial⟩ ?_
            · intro vals W hB _
              dsimp only [putsL, slotOf]
              go_wp2
              exact ⟨rfl, Below.refl _ _, rfl⟩
            · intro vals W hB ⟨h0, _⟩
              have h0 : vals 0 = _ := h0
              have c1 := (HY.out W hB).1
              dsimp only [putsL, slotOf]
              rw [h0]
              go_wp2
              exact ⟨rfl, Below.refl _ _, rfl⟩
            · intro vals W hB _
              dsimp only [putsL, slotOf]
              go_wp2
              exact ⟨rfl, Below.refl _ _, rfl⟩
            · intro vals W hB ⟨h2, _⟩
              have h2 : vals 2 = _ := h2
              have c1 := (HY.out W hB).2.1
              dsimp only [putsL, slotOf]
              rw [h2]
              go_wp2
              exact ⟨rfl, Below.refl _ _, rfl⟩
            · intro vals W hB _
              dsimp only [putsL, slotOf]
              go_wp2
              exact ⟨rfl, Below.refl _ _, rfl⟩
            · intro vals W hB ⟨h3, h4, _⟩
              have h3 : vals 3 = _ := h3
              have h4 : vals 4 = _ := h4
              dsimp only [putsL, slotOf]
              rw [h3, h4]
              go_wp2
              exact ⟨rfl, Below.refl _ _, rfl⟩
            · intro vals W hB ⟨h5, _⟩
              have h5 : vals 5 = _ := h5
              have c1 := (HY.out W hB).2.2
              dsimp only [putsL, slotOf]
              rw [h5]
              go_wp2
              exact ⟨rfl, Below.refl _ _, rfl⟩
            · intro vals W hB ⟨h6, _⟩
              have h6 : vals 6 = _ := h6
              dsimp only [putsL, slotOf]
              rw [h6]
              go_wp2_with ((go_at_call 9; (with_reducible refine (HTk.out _).mono ?_); rintro e w4 ⟨rfl, hb4⟩))
              exact ⟨rfl, hb4, rfl⟩
            · intro vals W hB ⟨h7, _⟩
              have h7 : vals 7 = _ := h7
              dsimp only [putsL, slotOf]
              rw [h7]
              go_wp2
              exact ⟨rfl, below_al (Below.refl _ _) _, _, Nat.zero_le _, rfl, heap_alloc_new _ _⟩
            rintro vals W hB ⟨q0, q1, q2, q3, q4, q5, q6, q7, ⟨g8, hw8, q8, hg8⟩, -⟩
            have h0 : vals 0 = _ := q0
            have h1 : vals 1 = _ := q1
            have h2 : vals 2 = _ := q2
            have h3 : vals 3 = _ := q3
            have h4 : vals 4 = _ := q4
            have h5 : vals 5 = _ := q5
            have h6 : vals 6 = _ := q6
            have h7 : vals 7 = _ := q7
            have h8 : vals 8 = _ := q8
            dsimp only [putsL]
            rw [h0, h1, h2, h3, h4, h5, h6, h7, h8]
            clear h0 q0 h1 q1 h2 q2 h3 q3 h4 q4 h5 q5 h6 q6 h7 q7 h8 q8
            simp only [List.length_cons, List.length_nil, Nat.reduceAdd, List.drop_succ_cons, List.drop_zero, List.setIfInBounds_toArray, List.set_cons_succ, List.set_cons_zero]
            have HJ3 : Veil _ := ⟨HJ.out.below hB⟩
            have HG8 : Veil _ := ⟨hg8⟩
            clear hB hg8 hw8
            have hzz : Veil (w.heap.size + 3 ≤ W.heap.size) := ⟨by have := lt_of_heap HJ3.out.o; omega⟩
            go_wp2_with (at_builtin; refine wpList_append_el elK rfl (.tmp 49) (.tmp 56) rfl (w.heap.size + 3) v2 _ (sk.take 70) rfl HJ3.out.m.k g8 rfl HG8.out (by simp; omega) hzz.out ?_; intro v' w5 hown5 hgrow5 hv5; have HOG : Veil _ := ⟨HJ3.out.grown (fun j hj => (HJ3.out.m.k.lt hj).1) hgrow5⟩; obtain ⟨p5, c5, rfl, -, -⟩ := hown5.fit; obtain ⟨⟨y0, y1, y2⟩, g0, g1, g2⟩ := box3 HOG.out; rw [show w.heap.size + 2 = G2 from hG2] at y1 g1; have HV5 : Veil _ := ⟨hv5⟩; clear y0 y2 g0 g2 hv5)
            have HLN : Veil ((List.map (·.take 70) (List.take j K) ++ [sk.take 70]).length = j + 1) := ⟨by simp; omega⟩
            have hown6 : OwnE elK w5 (w.heap.size + 3) (.slice p5 (j + 1) c5) (List.map (·.take 70) (List.take j K) ++ [sk.take 70]) := by rw [← HLN.out]; exact hown5
            have hts : Turned (· = G2) w5 (w5.setCell ⟨G2, 1, none⟩ (.slice p5 (j + 1) c5)) := (Turned.refl (· = G2) w5).setCell (p := ⟨G2, 1, none⟩) rfl _
            refine ⟨⟨j + 1, by omega, by omega, by go_num, ⟨.slice p5 (j + 1) c5, HJ3.out.put HH.out (u2 := .slice p5 (j + 1) c5) (F := fun j => v2.ownBlock = some j ∨ j = G2) (((Turned.grown hgrow5 (fun j hj _ => .inl hj)).setCell (p := ⟨G2, 1, none⟩) (.inr rfl) (.slice p5 (j + 1) c5))) (fun j hj => ?_) ?_ ?_⟩⟩, ?_⟩
            · rcases hj with hj | hj
              · have := (HJ3.out.m.k.lt hj).1; omega
              · omega
            · exact hG2 ▸ heap_setCell_at HOG.out 1 _
            · rw [HTK.out]
              exact ((HJ3.out.m.putK hgrow5 hown6 (by have := HV5.out; rwa [HLN.out] at this)).kept hts (fun j hj e => by omega))
            · simp only [intOf]; omega
          · have HTK : Veil (K.take j = K.take 260) := ⟨by
              by_cases hlt : j < K.length
              · rw [show j = 260 by omega]
              · rw [List.take_of_length_le (by omega), List.take_of_length_le (by omega)]⟩
            have HJ7 : Veil (CutI w ⟨P, K, D⟩ ⟨pp, cp, pk, ck, pd, cd⟩ ⟨(P.take 260).map cutPr, (K.take 260).map (·.take 70), []⟩ v1 v2 (.slice none 0 0) wr) := ⟨by rw [← HTK.out]; exact HJ.out⟩
            clear HJ HTK HJ6
            obtain ⟨q1, c1, hv1, -, -, -⟩ := HJ7.out.m.p.fit
            obtain ⟨q2, c2, hv2, -, -, -⟩ := HJ7.out.m.k.fit
            have hne1 : G0 + 1 ≠ G2 := by omega
            have hne2 : G2 ≠ G0 + 1 := by omega
            generalize hl1 : (Nd.mk ((P.take 260).map cutPr) ((K.take 260).map (·.take 70)) []).ps.length = l1 at hv1
            generalize hl2 : (Nd.mk ((P.take 260).map cutPr) ((K.take 260).map (·.take 70)) []).ks.length = l2 at hv2
            subst hv1
            subst hv2
            clear hl1 hl2
            go_wp2
            all_goals
              clear hcond2 hj hj2 a0 a1 a2
              have e0 := (box3 HJ7.out.o).1.2.2
              have e1 := (box3 HJ7.out.b).1.2.2
              dsimp only at e1
              have HY : Veil (∀ W, Below wr.heap.size wr W → W.cell? ⟨G2, 2, none⟩ = some (.slice none 0 0) ∧ W.cell? ⟨G0, 2, none⟩ = some (.slice pd D.length cd)) := ⟨fun W hb => by
                rw [← hG2, ← hG0]
                exact ⟨(hb.cell (World.block_lt_of_cell? wr _ e0)).trans e0, (hb.cell (World.block_lt_of_cell? wr _ e1)).trans e1⟩⟩
              obtain ⟨m, hm⟩ : ∃ m, min D.length 260 = m := ⟨_, rfl⟩
              have HMIN : Veil (∀ W, (Builtin.min_ #[3, 3] 3 #[.int .i64 (D.length : Int), .int .i64 260]).run Try.prog W = .ok (.int .i64 (m : Int)) W) := ⟨by rw [← hm]; exact min_len6 D.length 260⟩
              have HML : Veil (m ≤ D.length) := ⟨by omega⟩
              have HM : Veil ((D.take 260).length = m) := ⟨by rw [List.length_take, Nat.min_comm]; exact hm⟩
              clear hm e0 e1
              refine region_new [.is (.pointer (some ⟨G2, 2, none⟩)), .is (.slice none 0 0), .is (.pointer (some ⟨G0, 2, none⟩)), .is (.slice pd D.length cd), .is (.pointer (some ⟨G0, 2, none⟩)), .is (.slice pd D.length cd), .is (.int .i64 D.length), .is (.int .i64 m), .is (.slice pd m cd)]
                [[], [(0, 59)], [], [(2, 61)], [], [(4, 63)], [(5, 64)], [(6, 65)], [(3, 62), (7, 66)]]
                [[], [0], [], [2], [], [4], [5], [6], [3, 7]]
                [(0, 59), (1, 60), (2, 61), (3, 62), (4, 63), (5, 64), (6, 65), (7, 66), (8, 67)] rfl (by kernel_rfl) ⟨?_, ?_, ?_, ?_, ?_, ?_, ?_, ?_, ?_, trivial⟩ ?_
              · intro vals W hB _
                dsimp only [putsL, slotOf]
                go_wp2
                exact ⟨rfl, Below.refl _ _, rfl⟩
              · intro vals W hB ⟨h0, _⟩
                have h0 : vals 0 = _ := h0
                have c1 := (HY.out W hB).1
                dsimp only [putsL, slotOf]
                rw [h0]
                go_wp2
                exact ⟨rfl, Below.refl _ _, rfl⟩
              · intro vals W hB _
                dsimp only [putsL, slotOf]
                go_wp2
                exact ⟨rfl, Below.refl _ _, rfl⟩
              · intro vals W hB ⟨h2, _⟩
                have h2 : vals 2 = _ := h2
                have c1 := (HY.out W hB).2
                dsimp only [putsL, slotOf]
                rw [h2]
                go_wp2
                exact ⟨rfl, Below.refl _ _, rfl⟩
              · intro vals W hB _
                dsimp only [putsL, slotOf]
                go_wp2
                exact ⟨rfl, Below.refl _ _, rfl⟩
              · intro vals W hB ⟨h4, _⟩
                have h4 : vals 4 = _ := h4
                have c1 := (HY.out W hB).2
                dsimp only [putsL, slotOf]
                rw [h4]
                go_wp2
                exact ⟨rfl, Below.refl _ _, rfl⟩
              · intro vals W hB ⟨h5, _⟩
                have h5 : vals 5 = _ := h5
                dsimp only [putsL, slotOf]
                rw [h5]
                go_wp2
                exact ⟨rfl, Below.refl _ _, rfl⟩
              · intro vals W hB ⟨h6, _⟩
                have h6 : vals 6 = _ := h6
                have hmin := HMIN.out
                dsimp only [putsL, slotOf]
                rw [h6]
                go_wp2
                exact ⟨rfl, Below.refl _ _, rfl⟩
              · intro vals W hB ⟨h3, h7, _⟩
                have h3 : vals 3 = _ := h3
                have h7 : vals 7 = _ := h7
                dsimp only [putsL, slotOf]
                rw [h3, h7]
                have hFT := HFT.out.d
                dsimp only at hFT
                have hml := HML.out
                cases pd with
                | none =>
                  have hc0 : cd = 0 := hFT.none rfl
                  have hm0 : m = 0 := by have := hFT.le; omega
                  subst hc0
                  subst hm0
                  go_wp2
                  exact ⟨rfl, Below.refl _ _, rfl⟩
                | some x =>
                  have hmc : m ≤ cd := Nat.le_trans hml hFT.le
                  clear hFT hml
                  go_wp2
                  exact ⟨rfl, Below.refl _ _, rfl⟩
              rintro vals W hB ⟨q0, q1, q2, q3, q4, q5, q6, q7, q8, -⟩
              have h0 : vals 0 = _ := q0
              have h1 : vals 1 = _ := q1
              have h2 : vals 2 = _ := q2
              have h3 : vals 3 = _ := q3
              have h4 : vals 4 = _ := q4
              have h5 : vals 5 = _ := q5
              have h6 : vals 6 = _ := q6
              have h7 : vals 7 = _ := q7
              have h8 : vals 8 = _ := q8
              dsimp only [putsL]
              rw [h0, h1, h2, h3, h4, h5, h6, h7, h8]
              clear h0 q0 h1 q1 h2 q2 h3 q3 h4 q4 h5 q5 h6 q6 h7 q7 h8 q8
              simp only [List.length_cons, List.length_nil, Nat.reduceAdd, List.drop_succ_cons, List.drop_zero, List.setIfInBounds_toArray, List.set_cons_succ, List.set_cons_zero]
              have HJ3 : Veil _ := ⟨HJ7.out.below hB⟩
              clear hB
              have hzz : Veil (w.heap.size + 3 ≤ W.heap.size) := ⟨by have := lt_of_heap HJ3.out.o; omega⟩
              go_wp2_with (at_builtin; refine wpList_append_els elD rfl (.tmp 60) (.tmp 67) rfl (w.heap.size + 3) (.slice none 0 0) [] (D.take 260) rfl HJ3.out.m.d pd cd (by rw [HM.out]; rfl) (HJ3.out.s.d.take 260) (by simp; omega) hzz.out ?_; intro v' w5 hown5 hgrow5 hv5; have HOG : Veil _ := ⟨HJ3.out.grown (fun j hj => (HJ3.out.m.d.lt hj).1) hgrow5⟩; obtain ⟨p5, c5, rfl, -, -⟩ := hown5.fit; obtain ⟨⟨y0, y1, y2⟩, g0, g1, g2⟩ := box3 HOG.out; rw [show w.heap.size + 2 = G2 from hG2] at y0 y1 y2 g0 g1 g2; have HRG : Veil _ := ⟨HJ3.out.grownR (fun j hj => (HJ3.out.m.d.lt hj).1) hgrow5⟩; obtain ⟨⟨z0, z1, z2⟩, k0, k1, k2⟩ := box3 HRG.out; rw [hG0] at z0 z1 z2 k0 k1 k2; have HV5 : Veil _ := ⟨hv5⟩; clear hv5)
              have HLN : Veil (([] ++ List.take 260 D).length = min 260 D.length) := ⟨by simp⟩
              generalize hmn : min 260 D.length = mn at *
              have hown6 : OwnE elD w5 (w.heap.size + 3) (.slice p5 mn c5) ([] ++ List.take 260 D) := by rw [← HLN.out]; exact hown5
              have hmm := HJ3.out.m.putD hgrow5 hown6 (by have := HV5.out; rwa [HLN.out] at this)
              have hT : Turned (fun j => j = G2 ∨ j = G0 + 1) w5 ((((w5.setCell ⟨G2, 2, none⟩ (.slice p5 mn c5)).setCell ⟨G0 + 1, 0, none⟩ (.slice q1 l1 c1)).setCell ⟨G0 + 1, 1, none⟩ (.slice q2 l2 c2)).setCell ⟨G0 + 1, 2, none⟩ (.slice p5 mn c5)) :=
                ((((Turned.refl _ w5).setCell (p := ⟨G2, 2, none⟩) (.inl rfl) _).setCell (p := ⟨G0 + 1, 0, none⟩) (.inr rfl) _).setCell (p := ⟨G0 + 1, 1, none⟩) (.inr rfl) _).setCell (p := ⟨G0 + 1, 2, none⟩) (.inr rfl) _
              have hrr : (w5.setCell ⟨G2, 2, none⟩ (.slice p5 mn c5)).heap[G0 + 1]? = some (.cells #[.slice none 0 0, .slice none 0 0, .slice none 0 0] 26 (0, 0)) :=
                ((Turned.refl (· = G2) w5).setCell (p := ⟨G2, 2, none⟩) rfl _).heap (hG0 ▸ HRG.out) hne1
              have hX5 : Below w.heap.size w w5 := HJ3.out.x.trans ((Turned.grown (F := fun j => (Value.slice none 0 0).ownBlock = some j) hgrow5 (fun j hj _ => hj)).toBelow HJ3.out.x.size (fun k _ hf => by have := (HJ3.out.m.d.lt hf).1; omega))
              refine bodyPost_ret (results_node1 (g := G0 + 1) rfl rfl (heap_setCell_at (heap_setCell_at (heap_setCell_at hrr 0 _) 1 _) 2 _)) rfl ⟨.slice q1 l1 c1, .slice q2 l2 c2, .slice p5 mn c5, rfl, ?_, ?_⟩
              · exact (hmm.kept hT (fun k hk hf => by rcases hf with hf | hf <;> omega)).less (by omega)
              · exact hX5.trans (hT.toBelow hX5.size (fun k _ hf => by rcases hf with hf | hf <;> omega))
end Go.Proofs.Ytalnmaoidaldhaa

/- A node that is built in a box: what stands in it, what was there ahead of it. -/
namespace Go.Proofs.Ytalnmaoidaldhaa
open Go Go.RowKit Sm

/-- The box of number G, made behind W0; its lists lie behind it. -/
structure Bld (W0 : World) (G : Nat) (m : Nd) (v1 v2 v3 : Value) (W : World) : Prop where
  z : G = W0.heap.size
  o : W.heap[G]? = some (.cells #[v1, v2, v3] 26 (0, 0))
  x : Below W0.heap.size W0 W
  m : NdOwn W (G + 1) v1 v2 v3 m
section
variable {W0 W W' : World} {G : Nat} {m : Nd} {v1 v2 v3 v' : Value}
theorem Bld.new (W0 : World) : Bld W0 W0.heap.size Nd.zero (.slice none 0 0) (.slice none 0 0) (.slice none 0 0) (W0.alloc (.cells #[.slice none 0 0, .slice none 0 0, .slice none 0 0] 26)) :=
  ⟨rfl, heap_alloc_new _ _, below_al (Below.refl _ _) _, NdOwn.zero _ _⟩
theorem Bld.below (h : Bld W0 G m v1 v2 v3 W) (hb : Below W.heap.size W W') : Bld W0 G m v1 v2 v3 W' := ⟨h.z, (hb.block _ (lt_of_heap h.o)).trans h.o, bn_then h.x hb, h.m.below hb⟩
theorem Bld.lt (h : Bld W0 G m v1 v2 v3 W) : G + 1 ≤ W.heap.size := lt_of_heap h.o
/-- Ahead of the store, behind an append to one of its own lists. -/
theorem Bld.grown (h : Bld W0 G m v1 v2 v3 W) {v : Value} (hv : ∀ j, v.ownBlock = some j → G + 1 ≤ j) (hg : W.grownBy W' v.ownBlock) : W'.heap[G]? = some (.cells #[v1, v2, v3] 26 (0, 0)) ∧ Below W0.heap.size W0 W' := by
  have ht : Turned (fun j => v.ownBlock = some j) W W' := Turned.grown hg (fun j hj _ => hj)
  exact ⟨ht.heap h.o (fun hf => by have := hv _ hf; omega), h.x.trans (ht.toBelow h.x.size (fun k _ hf => by have := hv k hf; have := h.z; omega))⟩
theorem Bld.own1 (h : Bld W0 G m v1 v2 v3 W) : ∀ j, v1.ownBlock = some j → G + 1 ≤ j := fun _ hj => (h.m.p.lt hj).1
theorem Bld.own2 (h : Bld W0 G m v1 v2 v3 W) : ∀ j, v2.ownBlock = some j → G + 1 ≤ j := fun _ hj => (h.m.k.lt hj).1
theorem Bld.own3 (h : Bld W0 G m v1 v2 v3 W) : ∀ j, v3.ownBlock = some j → G + 1 ≤ j := fun _ hj => (h.m.d.lt hj).1
theorem bld_set (W' : World) (G o : Nat) (v : Value) (hx : Below W0.heap.size W0 W') (hz : G = W0.heap.size) : Below W0.heap.size W0 (W'.setCell ⟨G, o, none⟩ v) :=
  hx.trans (((Turned.refl (· = G) W').setCell (p := ⟨G, o, none⟩) rfl v).toBelow hx.size (fun k _ hf => by omega))
theorem Bld.putP (h : Bld W0 G m v1 v2 v3 W) {L : List Pr} (hg : W.grownBy W' v1.ownBlock) (ho : OwnE elP W' (G + 1) v' L) (hv : ∀ k, v'.ownBlock = some k → v1.ownBlock = some k ∨ W.heap.size ≤ k) : Bld W0 G { m with ps := L } v' v2 v3 (W'.setCell ⟨G, 0, none⟩ v') := by
  obtain ⟨h1, h2⟩ := h.grown h.own1 hg
  exact ⟨h.z, heap_setCell_at h1 0 v', bld_set W' G 0 v' h2 h.z, (h.m.putP hg ho hv).kept ((Turned.refl (· = G) W').setCell (p := ⟨G, 0, none⟩) rfl v') (fun k hk e => by omega)⟩
theorem Bld.putK (h : Bld W0 G m v1 v2 v3 W) {L : List (List UInt8)} (hg : W.grownBy W' v2.ownBlock) (ho : OwnE elK W' (G + 1) v' L) (hv : ∀ k, v'.ownBlock = some k → v2.ownBlock = some k ∨ W.heap.size ≤ k) : Bld W0 G { m with ks := L } v1 v' v3 (W'.setCell ⟨G, 1, none⟩ v') := by
  obtain ⟨h1, h2⟩ := h.grown h.own2 hg
  exact ⟨h.z, heap_setCell_at h1 1 v', bld_set W' G 1 v' h2 h.z, (h.m.putK hg ho hv).kept ((Turned.refl (· = G) W').setCell (p := ⟨G, 1, none⟩) rfl v') (fun k hk e => by omega)⟩
theorem Bld.putD (h : Bld W0 G m v1 v2 v3 W) {L : List Nat} (hg : W.grownBy W' v3.ownBlock) (ho : OwnE elD W' (G + 1) v' L) (hv : ∀ k, v'.ownBlock = some k → v3.ownBlock = some k ∨ W.heap.size ≤ k) : Bld W0 G { m with ds := L } v1 v2 v' (W'.setCell ⟨G, 2, none⟩ v') := by
  obtain ⟨h1, h2⟩ := h.grown h.own3 hg
  exact ⟨h.z, heap_setCell_at h1 2 v', bld_set W' G 2 v' h2 h.z, (h.m.putD hg ho hv).kept ((Turned.refl (· = G) W').setCell (p := ⟨G, 2, none⟩) rfl v') (fun k hk e => by omega)⟩
/-- What stood ahead of it. -/
theorem Bld.block (h : Bld W0 G m v1 v2 v3 W) {k : Nat} {ob : Obj} (hk : W0.heap[k]? = some ob) : W.heap[k]? = some ob := (h.x.block k (lt_of_heap hk)).trans hk
theorem Bld.cell (h : Bld W0 G m v1 v2 v3 W) {b o : Nat} {x : Value} (hc : W0.cell? ⟨b, o, none⟩ = some x) : W.cell? ⟨b, o, none⟩ = some x := (h.x.cell (World.block_lt_of_cell? W0 _ hc)).trans hc
theorem Bld.old (h : Bld W0 G m v1 v2 v3 W) {n : Nd} {a : NdP} (hn : NdAt W0 n a) : NdAt W n a := hn.below h.x
theorem Bld.cells (h : Bld W0 G m v1 v2 v3 W) : (W.cell? ⟨G, 0, none⟩ = some v1 ∧ W.cell? ⟨G, 1, none⟩ = some v2 ∧ W.cell? ⟨G, 2, none⟩ = some v3) ∧ (W.frozen? ⟨G, 0, none⟩ = false ∧ W.frozen? ⟨G, 1, none⟩ = false ∧ W.frozen? ⟨G, 2, none⟩ = false) := box3 h.o
/-- Two built at once: one's puts leave the other as it is. -/
theorem NdOwn.apart {B : Nat} {u1 u2 u3 : Value} {n' : Nd} (h : NdOwn W B u1 u2 u3 n') {F : Nat → Prop} (ht : Turned F W W') (hF : ∀ k, (u1.ownBlock = some k ∨ u2.ownBlock = some k ∨ u3.ownBlock = some k) → ¬ F k) : NdOwn W' B u1 u2 u3 n' :=
  ⟨h.p.kept ht (fun k hk => hF k (.inl hk)), h.k.kept ht (fun k hk => hF k (.inr (.inl hk))), h.d.kept ht (fun k hk => hF k (.inr (.inr hk))), h.pk, h.pd, h.kd⟩
end
theorem results_node3 {fn : Func} {p q r : Tmp} {tmps : Array Value} {w : World} {g : Nat} {x0 x1 x2 y z : Value} (h : fn.results = #[.cell p 26, .tmp q, .tmp r]) (hp : tmps.getD p undef = .pointer (some ⟨g, 0, none⟩)) (hq : tmps.getD q undef = y) (hr : tmps.getD r undef = z) (hg : w.heap[g]? = some (.cells #[x0, x1, x2] 26 (0, 0))) :
    (results fn tmps).run Try.prog w = .ok (.tuple #[.agg #[x0, x1, x2], y, z]) w := by
  have hp' : tmps[p]?.getD undef = .pointer (some ⟨g, 0, none⟩) := by simpa using hp
  have hq' : tmps[q]?.getD undef = y := by simpa using hq
  have hr' : tmps[r]?.getD undef = z := by simpa using hr
  obtain ⟨⟨c0, c1, c2⟩, -⟩ := box3 hg
  simp [results, h, go_sem, hp', hq', hr', c0, c1, c2]
theorem results_node2 {fn : Func} {p q : Tmp} {tmps : Array Value} {w : World} {g : Nat} {x0 x1 x2 y : Value} (h : fn.results = #[.cell p 26, .tmp q]) (hp : tmps.getD p undef = .pointer (some ⟨g, 0, none⟩)) (hq : tmps.getD q undef = y) (hg : w.heap[g]? = some (.cells #[x0, x1, x2] 26 (0, 0))) :
    (results fn tmps).run Try.prog w = .ok (.tuple #[.agg #[x0, x1, x2], y]) w := by
  have hp' : tmps[p]?.getD undef = .pointer (some ⟨g, 0, none⟩) := by simpa using hp
  have hq' : tmps[q]?.getD undef = y := by simpa using hq
  obtain ⟨⟨c0, c1, c2⟩, -⟩ := box3 hg
  simp [results, h, go_sem, hp', hq', c0, c1, c2]
end Go.Proofs.Ytalnmaoidaldhaa

/- A node's keys: the order of texts; the iterator over them. -/
namespace Go.Proofs.Ytalnmaoidaldhaa
open Go Go.RowKit Sm
attribute [local go_sem] Oper.semAt_some

theorem bytesLess_lessB : ∀ (a b : List UInt8), Op.bytesLess a b = lessB a b
  | [], [] => rfl
  | [], _ :: _ => by simp [Op.bytesLess, lessB]
  | _ :: _, [] => by simp [Op.bytesLess, lessB]
  | x :: r, y :: s => by
    have ih := bytesLess_lessB r s
    by_cases h : x = y
    · subst h
      simp [Op.bytesLess, lessB, ih]
    · have hn : x.toNat ≠ y.toNat := fun e => h (UInt8.toNat_inj.1 e)
      simp [Op.bytesLess, lessB, UInt8.lt_iff_toNat_lt, h]
theorem lessB_irrefl (a : List UInt8) : lessB a a = false := by
  induction a with
  | nil => rfl
  | cons x r ih => simp [lessB, ih]
theorem lessB_trans : ∀ (a b c : List UInt8), lessB a b = true → lessB b c = true → lessB a c = true := by
  intro a
  induction a with
  | nil =>
    intro b c _ h2
    cases c with
    | nil => cases b <;> simp [lessB] at h2
    | cons _ _ => simp [lessB]
  | cons x r ih =>
    intro b c h1 h2
    cases b with
    | nil => simp [lessB] at h1
    | cons y s =>
      cases c with
      | nil => simp [lessB] at h2
      | cons z t =>
        simp only [lessB] at h1 h2 ⊢
        by_cases e1 : x = y
        · subst e1
          simp only [if_true] at h1
          by_cases e2 : x = z
          · subst e2
            simp only [if_true] at h2 ⊢
            exact ih s t h1 h2
          · simp only [if_neg e2] at h2 ⊢
            exact h2
        · simp only [if_neg e1, decide_eq_true_eq] at h1
          by_cases e2 : y = z
          · subst e2
            simp only [if_neg e1, decide_eq_true_eq]
            exact h1
          · simp only [if_neg e2, decide_eq_true_eq] at h2
            have : x ≠ z := by rintro rfl; omega
            simp only [if_neg this, decide_eq_true_eq]
            omega
theorem lessB_total : ∀ (a b : List UInt8), lessB a b = false → a ≠ b → lessB b a = true := by
  intro a
  induction a with
  | nil => intro b h hne; cases b with
    | nil => exact absurd rfl hne
    | cons _ _ => simp [lessB] at h
  | cons x r ih =>
    intro b h hne
    cases b with
    | nil => simp [lessB]
    | cons y s =>
      simp only [lessB] at h ⊢
      by_cases e : x = y
      · subst e
        simp only [if_true] at h ⊢
        exact ih s h (fun e => hne (by rw [e]))
      · have hn : x.toNat ≠ y.toNat := fun e' => e (UInt8.toNat_inj.1 e')
        simp only [if_neg e, decide_eq_false_iff_not] at h
        simp only [if_neg (fun e' : y = x => e e'.symm), decide_eq_true_eq]
        omega
theorem lessB_asymm {a b : List UInt8} (h : lessB a b = true) : lessB b a = false := by
  cases hb : lessB b a with
  | false => rfl
  | true => have := lessB_trans a b a h hb; rw [lessB_irrefl] at this; cases this

def Nd.keys (n : Nd) : List (List UInt8) := n.ps.map (·.k) ++ n.ks
def handsK (n : Nd) (k : Nat) : Array Value := #[.string ⟨(n.keys.getD k []).toArray⟩]
theorem keys_getP {n : Nd} {k : Nat} (h : k < n.ps.length) : n.keys.getD k [] = (n.ps.getD k Pr.zero).k := by
  unfold Nd.keys
  rw [List.getD, List.getElem?_append_left (by simpa using h)]
  simp [List.getD, h]
theorem keys_getK {n : Nd} {k : Nat} : n.keys.getD (n.ps.length + k) [] = n.ks.getD k [] := by
  unfold Nd.keys
  rw [List.getD, List.getElem?_append_right (by simp)]
  simp [List.getD]
theorem keys_len (n : Nd) : n.keys.length = n.ps.length + n.ks.length := by simp [Nd.keys]
/-- The node in the iterator's box. -/
structure ReadsN (Bx : Nat) (n : Nd) (a : NdP) (W : World) : Prop where
  b : W.heap[Bx]? = some (.cells #[.slice a.pp n.ps.length a.cp, .slice a.pk n.ks.length a.ck, .slice a.pd n.ds.length a.cd] 26 (0, 0))
  s : NdAt W n a
theorem ReadsN.below {Bx : Nat} {n : Nd} {a : NdP} {W W' : World} (h : ReadsN Bx n a W) (hb : Below W.heap.size W W') : ReadsN Bx n a W' := ⟨(hb.block _ (lt_of_heap h.b)).trans h.b, h.s.below hb⟩
theorem Booked.cell6 {B : Nat} {w w' : World} (h : Booked B w w') {a : Addr} {x : Value} (hx : w.cell? a = some x) : w'.cell? a = some x := by
  unfold World.cell? at hx ⊢
  cases hk : w.heap[a.block]? with
  | none => rw [hk] at hx; cases hx
  | some o =>
    rw [hk] at hx
    cases o with
    | cells c t fr => rw [h.heap hk]; exact hx
    | _ => cases hx
theorem Els.booked {α : Type} {E : El α} {B : Nat} {w w' : World} {p : Option Addr} {L : List α} (h : Els E w p L) (hb : Booked B w w') : Els E w' p L := h.cells fun _ _ _ _ _ hx => hb.cell6 hx
theorem NdAt.booked {B : Nat} {w w' : World} {n : Nd} {a : NdP} (h : NdAt w n a) (hb : Booked B w w') : NdAt w' n a := ⟨h.p.booked hb, h.k.booked hb, h.d.booked hb⟩
theorem ReadsN.booked {B Bx : Nat} {n : Nd} {a : NdP} {W W' : World} (h : ReadsN Bx n a W) (hb : Booked B W W') : ReadsN Bx n a W' := ⟨hb.heap h.b, h.s.booked hb⟩
theorem ReadsN.cells {Bx : Nat} {n : Nd} {a : NdP} {W : World} (h : ReadsN Bx n a W) : W.cell? ⟨Bx, 0, none⟩ = some (.slice a.pp n.ps.length a.cp) ∧ W.cell? ⟨Bx, 1, none⟩ = some (.slice a.pk n.ks.length a.ck) ∧ W.cell? ⟨Bx, 2, none⟩ = some (.slice a.pd n.ds.length a.cd) := (box3 h.b).1

theorem keys_any (n : Nd) (a : NdP) (w : World) : Calls Try.prog 44 #[n.v a] w fun e w' => e = .returned (.func (.func 52) #[] #[.pointer (some ⟨w.heap.size, 0, none⟩)]) ∧ w.alloc (.cells #[.slice a.pp n.ps.length a.cp, .slice a.pk n.ks.length a.ck, .slice a.pd n.ds.length a.cd] 26) = w' := by
  unfold Nd.v
  go_enter Try.func44, Try.ntmps44
  go_wp2
  go_ret
  exact ⟨rfl, rfl⟩

set_option maxRecDepth 20000 in
set_option maxHeartbeats 2000000 in
theorem keys_seq (Bx : Nat) (n : Nd) (a : NdP) (hP : n.ps.length ≤ 1000000) (hK : n.ks.length ≤ 1000000) :
    Seq Try.prog 52 #[.pointer (some ⟨Bx, 0, none⟩)] (handsK n) (n.ps.length + n.ks.length) (ReadsN Bx n a) := by
  intro l m J Jx W hJ hJx hF hY h0
  obtain ⟨a0, a1, a2⟩ := (hF 0 W h0).cells
  have HKP : Veil (∀ k, k < n.ps.length → n.keys.getD k [] = (n.ps.getD k Pr.zero).k) := ⟨fun k => keys_getP⟩
  have HKK : Veil (∀ k, k < n.ks.length → n.keys.getD (n.ps.length + k) [] = n.ks.getD k []) := ⟨fun k _ => keys_getK⟩
  have HF : Veil _ := ⟨hF⟩
  have HY : Veil _ := ⟨hY⟩
  have HJ : Veil _ := ⟨hJ⟩
  clear hF hY hJ hJx
  unfold handsK at HY
  revert HKP HKK HY
  generalize n.keys = KS
  intro HKP HKK HY
  obtain ⟨P, K, D⟩ := n
  obtain ⟨pp, cp, pk, ck, pd, cd⟩ := a
  dsimp only at *
  refine callsIn_of_wp Try.func52 rfl trivial ?_
  simp only [Try.ntmps52, List.size_toArray, List.length_cons, List.length_nil, Nat.reduceAdd, Nat.reduceSub, Array.replicate_succ, Array.replicate_zero, List.push_toArray, List.append_toArray, List.nil_append, List.cons_append]
  gi_wp2
  clear a0 a1 a2
  gi_loopw [10] (fun i wr => ∃ k : Nat, k ≤ P.length ∧ i = .int .i64 k ∧ J k wr) (fun i _ => P.length - (intOf i).toNat)
  case atStart => exact ⟨0, Nat.zero_le _, rfl, h0⟩
  case round =>
    obtain ⟨k, hk, rfl, hj⟩ := hrel
    have HRN : Veil _ := ⟨HF.out k wr hj⟩
    by_cases hlt : k < P.length
    · obtain ⟨b, o, hpe, hc⟩ := HRN.out.s.pair (by rintro he; dsimp only at he; simp [he] at hlt)
      dsimp only at hpe hc
      subst hpe
      obtain ⟨c1, c2⟩ := hc k hlt
      have hYk : Veil (∀ A, J k A → YieldAt Fence.wide m Try.prog l #[.string ⟨(KS.getD k []).toArray⟩] A fun e A' => (e = .returned (.bool true) ∧ J (k + 1) A') ∨ (e = .returned (.bool false) ∧ Jx k A')) := ⟨fun A hA => HY.out k A (by omega) hA⟩
      rw [HKP.out k hlt] at hYk
      clear hc
      revert c1 c2 hYk
      generalize P.getD k Pr.zero = s
      obtain ⟨sk, sv⟩ := s
      dsimp only
      intro c1 c2 hYk
      have hb3 : Below wr.heap.size wr (wr.alloc (.cells #[.string ⟨sk.toArray⟩, .string ⟨sv.toArray⟩] 39)) := below_al (Below.refl _ _) _
      obtain ⟨fn, tmps, assign, body, hy, hR⟩ := hYk.out _ (HJ.out k wr _ hj hb3)
      clear hb3
      gi_wp2
      refine hR.mono ?_
      rintro e W3 (⟨rfl, hj'⟩ | ⟨rfl, hjx⟩)
      · gi_wp2
        go_roundw
        case rel => exact ⟨k + 1, by omega, by go_num, hj'⟩
        case measure => simp [intOf]; omega
      · gi_wp2
        refine bodyPost_ret (results_none rfl _ _ _) rfl ?_
        exact ⟨⟨_, rfl⟩, .inr ⟨k, by omega, hjx⟩⟩
    · obtain rfl : k = P.length := by omega
      obtain ⟨a0, a1, a2⟩ := HRN.out.cells
      dsimp only at a0 a1 a2
      have HJ1 : Veil _ := ⟨hj⟩
      clear HRN hk hlt
      gi_wp2
      clear a0 a1 a2
      gi_loopw [23] (fun i wr => ∃ k : Nat, k ≤ K.length ∧ i = .int .i64 k ∧ J (P.length + k) wr) (fun i _ => K.length - (intOf i).toNat)
      case atStart => exact ⟨0, Nat.zero_le _, rfl, HJ1.out⟩
      case round =>
        obtain ⟨k, hk, rfl, hj⟩ := hrel
        have HRN : Veil _ := ⟨HF.out _ wr hj⟩
        by_cases hlt : k < K.length
        · obtain ⟨b, o, hpe, hc⟩ := HRN.out.s.key (by rintro he; dsimp only at he; simp [he] at hlt)
          dsimp only at hpe hc
          subst hpe
          have c1 := hc k hlt
          have hYk : Veil (∀ A, J (P.length + k) A → YieldAt Fence.wide m Try.prog l #[.string ⟨(KS.getD (P.length + k) []).toArray⟩] A fun e A' => (e = .returned (.bool true) ∧ J (P.length + k + 1) A') ∨ (e = .returned (.bool false) ∧ Jx (P.length + k) A')) := ⟨fun A hA => HY.out _ A (by omega) hA⟩
          rw [HKK.out k hlt] at hYk
          clear hc
          revert c1 hYk
          generalize K.getD k [] = sk
          intro c1 hYk
          obtain ⟨fn, tmps, assign, body, hy, hR⟩ := hYk.out _ hj
          gi_wp2
          refine hR.mono ?_
          rintro e W3 (⟨rfl, hj'⟩ | ⟨rfl, hjx⟩)
          · gi_wp2
            go_roundw
            case rel => exact ⟨k + 1, by omega, by go_num, hj'⟩
            case measure => simp [intOf]; omega
          · gi_wp2
            refine bodyPost_ret (results_none rfl _ _ _) rfl ?_
            exact ⟨⟨_, rfl⟩, .inr ⟨P.length + k, by omega, hjx⟩⟩
        · obtain rfl : k = K.length := by omega
          gi_wp2
          go_end0
          exact ⟨⟨_, rfl⟩, .inl hj⟩
end Go.Proofs.Ytalnmaoidaldhaa
