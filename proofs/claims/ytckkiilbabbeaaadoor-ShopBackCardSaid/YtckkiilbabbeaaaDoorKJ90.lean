/- Accounts, by the program: numbers together, a purse's right, purses and their iterator. -/
import Derived.Test.YtckkiilbabbeaaaDoorKJ2
import Derived.Test.YtckkiilbabbeaaaDoorKZ1
import Derived.Test.YtckkiilbabbeaaaDoorKI91
namespace Go.Proofs.YtckkiilbabbeaaaDoor
open Go Go.RowKit Sm
attribute [local go_sem] Oper.semAt_some

def elA : El Ac where
  enc a := [.int .i64 a.w, .int .i64 a.b]
  z := 2
  ty := 37
  sl := 98
  bytes := 16
  zero := .agg #[.int .i64 0, .int .i64 0]
  d := Ac.zero
  len _ := rfl
  one x v hv := by
    simp only [List.mem_cons, List.not_mem_nil, or_false] at hv
    rcases hv with rfl | rfl <;> rfl
  pos := by decide
  under := by kernel_rfl
  info := by kernel_rfl
  zlen := rfl
  few := by decide
theorem elA_at {w : World} {p : Option Addr} {L : List Ac} (h : Els elA w p L) {k : Nat} (hk : k < L.length) : ∃ b o, p = some ⟨b, o, none⟩ ∧ w.cell? ⟨b, o + k * 2, none⟩ = some (.int .i64 (L.getD k Ac.zero).w) ∧ w.cell? ⟨b, o + k * 2 + 1, none⟩ = some (.int .i64 (L.getD k Ac.zero).b) := by
  obtain ⟨b, o, rfl, hr⟩ := h (by rintro rfl; simp at hk)
  exact ⟨b, o, rfl, hr k 0 hk (by decide), hr k 1 hk (by decide)⟩

/-! ### Numbers together -/
def togA : Int → List Int → Int
  | _, [] => 0
  | s, n :: r => if (addA s n).2 = 0 then togA (addA s n).1 r else (addA s n).2
theorem drop_getI (l : List Int) (k : Nat) (h : k < l.length) : l.drop k = l.getD k 0 :: l.drop (k + 1) := by
  rw [List.drop_eq_getElem_cons h, show l.getD k 0 = l[k] by simp [List.getD, h]]
theorem togA_cons (s n : Int) (r : List Int) : togA s (n :: r) = if (addA s n).2 = 0 then togA (addA s n).1 r else (addA s n).2 := rfl
theorem addA_64 (s n : Int) : I64 (addA s n).1 := by
  unfold addA
  split
  · split
    · rename_i h; exact i64_am h
    · unfold I64; decide
  · unfold I64; decide
theorem addA_zero (n : Int) : addA 0 n = if amt n then (n, 0) else (0, 110) := by
  unfold addA
  have h0 : amt 0 = true := (amt_iff 0).2 (by decide)
  rw [h0, Bool.true_and, Int.zero_add]
  by_cases h : amt n = true
  · rw [if_pos h, if_pos h, if_pos h]
  · rw [if_neg h, if_neg h]
theorem tog_right (a : Ac) : decide (togA 0 [a.w, a.b] = 0) = rightA a := by
  unfold rightA togA
  rw [addA_zero]
  by_cases h : amt a.w = true
  · rw [if_pos h, if_pos rfl]
    dsimp only
    unfold togA
    by_cases h2 : (addA a.w a.b).2 = 0
    · rw [if_pos h2, decide_eq_true h2]; rfl
    · rw [if_neg h2]
  · rw [if_neg h, if_neg (by decide)]
    have e : addA a.w a.b = (0, 110) := by unfold addA; rw [if_neg (by simp [h])]
    rw [e]
theorem tog_earn (w b n : Int) (hr : rightA ⟨w, b⟩ = true) : togA 0 [w, n, b] = (earnA ⟨w, b⟩ n).2 := by
  unfold earnA
  rw [if_pos hr]
  obtain ⟨r1, -, -⟩ := (rightA_iff _).1 hr
  unfold togA
  rw [addA_zero, if_pos r1, if_pos rfl]
  dsimp only
  unfold togA
  by_cases h1 : (addA w n).2 = 0
  · rw [if_pos h1, if_pos h1]
    unfold togA
    by_cases h2 : (addA (addA w n).1 b).2 = 0
    · rw [if_pos h2, if_pos h2]; rfl
    · rw [if_neg h2, if_neg h2]
  · rw [if_neg h1, if_neg h1]

set_option maxRecDepth 20000 in
set_option maxHeartbeats 1000000 in
theorem actogether_any {w : World} {p : Option Addr} (l : List Int) (c : Nat) (hl : l.length ≤ 1000) (h64 : ∀ n ∈ l, I64 n) (h : Els elL w p l) (hS : MSent w) :
    Calls Tryd.prog 87 #[.slice p l.length c] w fun e w' => e = .returned (.int .i64 (togA 0 l)) ∧ Below w.heap.size w w' := by
  obtain ⟨r, hr⟩ : ∃ r, togA 0 l = r := ⟨_, rfl⟩
  have HR : Veil _ := ⟨hr⟩
  rw [hr]
  clear hr
  have HH : Veil _ := ⟨h⟩
  have HS : Veil _ := ⟨hS⟩
  have H64 : Veil _ := ⟨h64⟩
  clear h hS h64
  go_enter Tryd.func87, Tryd.ntmps87
  go_wp2
  go_loopw [3, 10] (fun s i wr => ∃ (k : Nat) (S : Int), k ≤ l.length ∧ i = .int .i64 k ∧ s = .int .i64 S ∧ Veil (I64 S ∧ togA S (l.drop k) = r ∧ Below w.heap.size w wr)) (fun _ i _ => l.length - (intOf i).toNat)
  case atStart => exact ⟨0, 0, Nat.zero_le _, rfl, rfl, ⟨by unfold I64; decide, by rw [List.drop_zero]; exact HR.out, Below.refl _ _⟩⟩
  case round =>
    obtain ⟨k, S, hk, rfl, rfl, hJ⟩ := hrel
    obtain ⟨hS64, hA, hBl⟩ := hJ.out
    have HB : Veil _ := ⟨hBl⟩
    by_cases hlt : k < l.length
    · rw [drop_getI l k hlt, togA_cons] at hA
      have hx64 : I64 (l.getD k 0) := H64.out _ (by rw [show l.getD k 0 = l[k] by simp [List.getD, hlt]]; exact List.getElem_mem hlt)
      obtain ⟨b, o, rfl, hc⟩ := els_load (HH.out.below HB.out) hlt
      clear hBl hJ
      revert hc hA hx64
      generalize l.getD k 0 = x
      intro hA hx64 hc
      have HQ : Veil _ := ⟨moadd_any S x hS64 hx64 wr (HS.out.below HB.out)⟩
      have h6 := addA_64 S x
      revert HQ h6 hA
      generalize addA S x = q
      obtain ⟨q1, q2⟩ := q
      intro hA HQ h6
      dsimp only at *
      have HA : Veil _ := ⟨hA⟩
      have H6 : Veil _ := ⟨h6⟩
      clear hA h6 hx64 hS64
      by_cases h0 : q2 = 0
      · subst h0
        go_wp2_with (go_at_call 66; refine HQ.out.mono ?_; rintro e w2 ⟨rfl, hb2⟩)
        refine ⟨⟨k + 1, q1, by omega, by go_num, rfl, ⟨H6.out, ?_, bc_then HB.out hb2⟩⟩, ?_⟩
        · simpa using HA.out
        · simp only [intOf]; omega
      · have hq : q2 = r := by have := HA.out; rwa [if_neg h0] at this
        have HQr : Veil _ := ⟨hq⟩
        clear hq
        go_wp2_with (go_at_call 66; refine HQ.out.mono ?_; rintro e w2 ⟨rfl, hb2⟩)
        go_ret
        exact ⟨by rw [HQr.out]; rfl, bc_then HB.out hb2⟩
    · obtain rfl : k = l.length := by omega
      have hr : r = 0 := by rw [List.drop_length] at hA; exact hA.symm
      subst hr
      clear hA hBl hJ hS64
      go_wp2
      go_ret
      exact ⟨rfl, HB.out⟩

/-! ### A purse -/
theorem els_three (w : World) (a b c : Int) (t : TypeId) : Els elL (w.alloc (.cells #[.int .i64 a, .int .i64 b, .int .i64 c] t)) (some ⟨w.heap.size, 0, none⟩) [a, b, c] := by
  intro _
  refine ⟨_, _, rfl, ?_⟩
  intro k j hk hj
  have hj0 : j = 0 := Nat.lt_one_iff.1 hj
  subst hj0
  simp only [List.length_cons, List.length_nil] at hk
  match k, hk with
  | 0, _ => show _ = some (Value.int .i64 a); rw [show elL.z = 1 from rfl]; go_simp
  | 1, _ => show _ = some (Value.int .i64 b); rw [show elL.z = 1 from rfl]; go_simp
  | 2, _ => show _ = some (Value.int .i64 c); rw [show elL.z = 1 from rfl]; go_simp

set_option maxRecDepth 20000 in
set_option maxHeartbeats 1000000 in
theorem acpright_any (a : Ac) (ha : a.Ok) (w : World) (hS : MSent w) : Calls Tryd.prog 85 #[a.v] w fun e w' => e = .returned (.bool (rightA a)) ∧ Below w.heap.size w w' := by
  have HT : Veil (∀ (W : World) (g : Nat), g = W.heap.size → Below w.heap.size w W → Calls Tryd.prog 87 #[.slice (some ⟨g, 0, none⟩) 2 2] (W.alloc (.cells #[.int .i64 a.w, .int .i64 a.b] 2)) fun e w' => e = .returned (.int .i64 (togA 0 [a.w, a.b])) ∧ Below W.heap.size W w') := ⟨fun W g hg hb => by
    subst hg
    refine (actogether_any (w := W.alloc (.cells #[.int .i64 a.w, .int .i64 a.b] 2)) [a.w, a.b] 2 (by simp) (by intro n hn; simp only [List.mem_cons, List.not_mem_nil, or_false] at hn; rcases hn with rfl | rfl; exact ha.w; exact ha.b) (els_two W a.w a.b _) (hS.below (below_al hb _))).mono ?_
    rintro e w' ⟨h1, h2⟩
    exact ⟨h1, bc_then (below_al (Below.refl _ _) _) h2⟩⟩
  rw [← tog_right a]
  generalize togA 0 [a.w, a.b] = r at HT ⊢
  obtain ⟨x, y⟩ := a
  unfold Ac.v
  dsimp only at *
  have hT : Below w.heap.size w (w.alloc (.cells #[.int .i64 x, .int .i64 y] 103)) := below_al (Below.refl _ _) _
  clear ha hS
  by_cases h0 : r = 0
  · subst h0
    go_enter Tryd.func85, Tryd.ntmps85
    go_wp2_with (go_at_call 87; refine (HT.out _ _ (by simp) hT).mono ?_; rintro e w2 ⟨rfl, hb2⟩)
    go_ret
    exact ⟨rfl, bc_then hT hb2⟩
  · rw [decide_eq_false h0]
    go_enter Tryd.func85, Tryd.ntmps85
    go_wp2_with (go_at_call 87; refine (HT.out _ _ (by simp) hT).mono ?_; rintro e w2 ⟨rfl, hb2⟩)
    go_ret
    refine ⟨(show Ending.returned (Value.bool (r == 0)) = Ending.returned (Value.bool false) from ?_), bc_then hT hb2⟩
    rw [show (r == 0) = false by simpa using h0]

/-! ### Purses, one by one -/
theorem acpurses_any (p : Option Addr) (n c : Nat) (w : World) : Calls Tryd.prog 84 #[.slice p n c] w fun e w' => e = .returned (.func (.func 93) #[] #[.pointer (some ⟨w.heap.size, 0, none⟩)]) ∧ w.alloc (.cells #[.slice p n c] 98) = w' := by
  go_enter Tryd.func84, Tryd.ntmps84
  go_wp2
  go_ret
  exact ⟨rfl, rfl⟩
def handsC (L : List Ac) (k : Nat) : Array Value := #[.agg #[.int .i64 (L.getD k Ac.zero).w, .int .i64 (L.getD k Ac.zero).b]]
def ReadsC (Bx : Nat) (p : Option Addr) (L : List Ac) (cap : Nat) (W : World) : Prop := W.cell? ⟨Bx, 0, none⟩ = some (.slice p L.length cap) ∧ Els elA W p L

set_option maxRecDepth 20000 in
set_option maxHeartbeats 1000000 in
theorem acpurses_seq (Bx : Nat) (p : Option Addr) (L : List Ac) (cap : Nat) (hl : L.length ≤ 1000000) :
    Seq Tryd.prog 93 #[.pointer (some ⟨Bx, 0, none⟩)] (handsC L) L.length (ReadsC Bx p L cap) := by
  intro l n J Jx W hJ hJx hF hY h0
  obtain ⟨hf1, -⟩ := hF 0 W h0
  refine callsIn_of_wp Tryd.func93 rfl trivial ?_
  simp only [Tryd.ntmps93, List.size_toArray, List.length_cons, List.length_nil, Nat.reduceAdd, Nat.reduceSub, Array.replicate_succ, Array.replicate_zero, List.push_toArray, List.append_toArray, List.nil_append, List.cons_append]
  gi_wp2
  gi_loopw [7] (fun i wr => ∃ k : Nat, k ≤ L.length ∧ i = .int .i64 k ∧ J k wr) (fun i _ => L.length - (intOf i).toNat)
  case atStart => exact ⟨0, Nat.zero_le _, rfl, h0⟩
  case round =>
    obtain ⟨k, hk, rfl, hj⟩ := hrel
    clear hf1
    by_cases hlt : k < L.length
    · obtain ⟨-, hs⟩ := hF k wr hj
      obtain ⟨b, o, rfl, c1, c2⟩ := elA_at hs hlt
      have hYk := fun A hA => hY k A hlt hA
      simp only [handsC] at hYk
      have HY := Lib.hid hYk
      have HJ := Lib.hid hJ
      clear hs hY hF hYk hJ hJx
      revert c1 c2 HY
      generalize L.getD k Ac.zero = s
      obtain ⟨x, y⟩ := s
      intro c1 c2 HY
      have hb3 : Below wr.heap.size wr (wr.alloc (.cells #[.int .i64 x, .int .i64 y] 37)) := below_al (Below.refl _ _) _
      obtain ⟨fn, tmps, assign, body, hy, hR⟩ := HY.out _ (HJ.out k wr _ hj hb3)
      clear hb3
      gi_wp2
      refine hR.mono ?_
      rintro e W3 (⟨rfl, hj'⟩ | ⟨rfl, hjx⟩)
      · gi_wp2
        go_roundw
        case rel => exact ⟨k + 1, by omega, by go_num, hj'⟩
        case measure => simp [intOf]; omega
      · gi_wp2
        refine bodyPost_ret (results_none rfl _ _ _) rfl ?_
        exact ⟨⟨_, rfl⟩, .inr ⟨k, hlt, hjx⟩⟩
    · obtain rfl : k = L.length := by omega
      gi_wp2
      go_end0
      exact ⟨⟨_, rfl⟩, .inl hj⟩
end Go.Proofs.YtckkiilbabbeaaaDoor

/- Accounts, by the program: the first that is not right; all right; Right. -/
namespace Go.Proofs.YtckkiilbabbeaaaDoor
open Go Go.RowKit Sm
attribute [local go_sem] Oper.semAt_some

def firstW (L : List Ac) : Ac := (L.find? fun a => !rightA a).getD Ac.zero
theorem firstW_here : ∀ (L : List Ac) (k : Nat), k < L.length → (∀ i, i < k → rightA (L.getD i Ac.zero) = true) → rightA (L.getD k Ac.zero) = false → firstW L = L.getD k Ac.zero
  | [], _, h, _, _ => by simp at h
  | a :: r, 0, _, _, hb => by
    have hb' : rightA a = false := hb
    unfold firstW
    rw [List.find?_cons_of_pos (by rw [hb']; rfl)]
    rfl
  | a :: r, k + 1, h, hn, hb => by
    have h0 : rightA a = true := hn 0 (Nat.succ_pos _)
    have := firstW_here r k (by simpa using h) (fun i hi => hn (i + 1) (by omega)) hb
    unfold firstW at this ⊢
    rw [List.find?_cons_of_neg (by rw [h0]; decide), this]
    rfl
theorem firstW_none : ∀ (L : List Ac), (∀ i, i < L.length → rightA (L.getD i Ac.zero) = true) → firstW L = Ac.zero
  | [], _ => rfl
  | a :: r, hn => by
    have h0 : rightA a = true := hn 0 (Nat.succ_pos _)
    have := firstW_none r (fun i hi => hn (i + 1) (by simpa using hi))
    unfold firstW at this ⊢
    rw [List.find?_cons_of_neg (by rw [h0]; decide), this]
theorem right_zero : rightA Ac.zero = true := rfl
theorem firstW_all : ∀ L : List Ac, (L.all rightA = true ∧ firstW L = Ac.zero) ∨ (L.all rightA = false ∧ ¬ ((firstW L).w = 0 ∧ (firstW L).b = 0))
  | [] => .inl ⟨rfl, rfl⟩
  | a :: r => by
    have ih := firstW_all r
    by_cases h : rightA a = true
    · have e : firstW (a :: r) = firstW r := by unfold firstW; rw [List.find?_cons_of_neg (by rw [h]; decide)]
      rw [e, List.all_cons, h, Bool.true_and]
      exact ih
    · have hf : rightA a = false := by simpa using h
      have e : firstW (a :: r) = a := by unfold firstW; rw [List.find?_cons_of_pos (by rw [hf]; rfl)]; rfl
      rw [e, List.all_cons, hf, Bool.false_and]
      refine .inr ⟨rfl, fun hz => ?_⟩
      obtain ⟨x, y⟩ := a
      obtain ⟨h1, h2⟩ := hz
      dsimp only at h1 h2
      subst h1 h2
      exact absurd right_zero (by rw [show Ac.zero = (⟨0, 0⟩ : Ac) from rfl, hf]; decide)
theorem results_acc1 {fn : Func} {p : Tmp} {tmps : Array Value} {w : World} {g : Nat} {x0 x1 : Value} (h : fn.results = #[.cell p 37]) (hp : tmps.getD p undef = .pointer (some ⟨g, 0, none⟩)) (hg : w.heap[g]? = some (.cells #[x0, x1] 37 (0, 0))) :
    (results fn tmps).run Tryd.prog w = .ok (.agg #[x0, x1]) w := by
  have hp' : tmps[p]?.getD undef = .pointer (some ⟨g, 0, none⟩) := by simpa using hp
  have c0 : w.cell? ⟨g, 0, none⟩ = some x0 := (packG hg).1.1
  have c1 : w.cell? ⟨g, 1, none⟩ = some x1 := (packG hg).1.2
  simp [results, h, go_sem, hp', c0, c1]
/-- Between two rounds: the boxes of the answer, of what was found, of the list. -/
structure FwI (w : World) (B1 B2 : Nat) (p : Option Addr) (L : List Ac) (cap : Nat) (s : Ac) (A : World) : Prop where
  r : A.heap[w.heap.size]? = some (.cells #[.int .i64 0, .int .i64 0] 37 (0, 0))
  f : A.heap[B1]? = some (.cells #[.int .i64 s.w, .int .i64 s.b] 37 (0, 0))
  bx : A.heap[B2]? = some (.cells #[.slice p L.length cap] 98 (0, 0))
  s : Els elA A p L
  t : Turned (fun _ => False) w A
section
variable {w : World} {B1 B2 : Nat} {p : Option Addr} {L : List Ac} {cap : Nat} {s : Ac} {A A' : World}
theorem FwI.booked {B : Nat} (h : FwI w B1 B2 p L cap s A) (hb : Booked B A A') (hB : w.heap.size ≤ B) : FwI w B1 B2 p L cap s A' :=
  ⟨hb.heap h.r, hb.heap h.f, hb.heap h.bx, h.s.booked' hb, hb.turned h.t hB⟩
theorem FwI.new (h : FwI w B1 B2 p L cap s A) (hb : Turned (fun _ => False) A A') : FwI w B1 B2 p L cap s A' :=
  ⟨hb.heap h.r (fun h => h), hb.heap h.f (fun h => h), hb.heap h.bx (fun h => h), h.s.turned hb (fun _ _ h => h), h.t.trans hb⟩
theorem FwI.found (h : FwI w B1 B2 p L cap s A) (hp : L ≠ [] → ∀ a, p = some a → a.block < w.heap.size) (h1 : w.heap.size < B1) (h2 : B1 < B2) (s' : Ac) :
    FwI w B1 B2 p L cap s' ((A.setCell ⟨B1, 0, none⟩ (.int .i64 s'.w)).setCell ⟨B1, 1, none⟩ (.int .i64 s'.b)) :=
  have ht : Turned (· = B1) A ((A.setCell ⟨B1, 0, none⟩ (.int .i64 s'.w)).setCell ⟨B1, 1, none⟩ (.int .i64 s'.b)) := ((Turned.refl (· = B1) A).setCell (p := ⟨B1, 0, none⟩) rfl _).setCell (p := ⟨B1, 1, none⟩) rfl _
  ⟨ht.heap h.r (by omega), heap_setCell_at (heap_setCell_at h.f 0 _) 1 _, ht.heap h.bx (by omega), h.s.turned' ht (fun hL a ha e => by have := hp hL a ha; omega), h.t.then ht (fun k hk e => by omega)⟩
end
/-- Accounts whose numbers are an int64's. -/
def AcsOk (L : List Ac) : Prop := ∀ a ∈ L, a.Ok
theorem AcsOk.at' {L : List Ac} (h : AcsOk L) {k : Nat} (hk : k < L.length) : (L.getD k Ac.zero).Ok := by
  rw [show L.getD k Ac.zero = L[k] by simp [List.getD, hk]]
  exact h _ (List.getElem_mem hk)

set_option maxRecDepth 20000 in
set_option maxHeartbeats 2000000 in
theorem acfirst_any {w : World} {p : Option Addr} (L : List Ac) (cap : Nat) (h : Els elA w p L) (hl : L.length ≤ 1000) (hok : AcsOk L) (hS : MSent w) :
    Calls Tryd.prog 67 #[.slice p L.length cap] w fun e w' => e = .returned (firstW L).v ∧ Below w.heap.size w w' := by
  refine calls_of_wp_marks Tryd.func67 rfl ?_
  simp only [Tryd.ntmps67, List.size_toArray, List.length_cons, List.length_nil, Nat.reduceAdd, Nat.reduceSub, Array.replicate_succ, Array.replicate_zero, List.push_toArray, List.append_toArray, List.nil_append, List.cons_append]
  have hp := els_old h
  have HH := Lib.hid h
  have HSO : Veil (∀ W (a : Ac), a.Ok → Below w.heap.size w W → Calls Tryd.prog 85 #[a.v] W fun e w' => e = .returned (.bool (rightA a)) ∧ Below W.heap.size W w') := ⟨fun W a ha hb => acpright_any a ha W (hS.below hb)⟩
  have HOK : Veil _ := ⟨hok⟩
  clear h hok hS
  go_wp2
  go_step3
  go_wp2
  go_step3
  go_wp2_with (go_at_call 84; refine (acpurses_any _ _ _ _).mono ?_; rintro e w1 ⟨rfl, hw1⟩)
  obtain ⟨B1, e1⟩ : ∃ B1, w.heap.size + 1 = B1 := ⟨_, rfl⟩
  obtain ⟨B2, e2⟩ : ∃ B2, B1 + 1 = B2 := ⟨_, rfl⟩
  have hI : FwI w B1 B2 p L cap Ac.zero w1 := by
    rw [← hw1]
    refine ⟨?_, ?_, ?_, HH.out.turned ((((Turned.refl (fun _ => False) w).alloc _).alloc _).alloc _) (fun _ _ h => h), (((Turned.refl (fun _ => False) w).alloc _).alloc _).alloc _⟩
    all_goals
      simp only [heap_alloc_if, World.size_alloc]
      repeat (first | rw [if_neg (by omega)] | rw [if_pos (by first | trivial | omega)])
    all_goals rfl
  have hz1 : w1.heap.size = B2 + 1 := by rw [← hw1]; simp; omega
  have HW : Veil (w.heap.size < B1 ∧ B1 < B2) := ⟨by omega⟩
  have HZ : Veil (w1.heap.size = B2 + 1) := ⟨hz1⟩
  rw [e1, e2]
  clear hw1 e1 e2 hz1
  refine wp_range_break (gf := 93) (lb := #[.pointer (some ⟨B2, 0, none⟩)]) rfl (enters_of Tryd.func93 (by kernel_rfl) rfl)
    (acpurses_seq B2 p L cap (by omega)) (fun k => rfl)
    (fun k A => FwI w B1 B2 p L cap Ac.zero A ∧ ∀ i, i < k → rightA (L.getD i Ac.zero) = true)
    (fun A => FwI w B1 B2 p L cap (firstW L) A) ?hI ?hE ?hF ?h0 ?hN ?hround ?hend
  case hI => rintro k A A' ⟨h1, h3⟩ hb; exact ⟨h1.booked hb (by have := HW.out; have := HZ.out; omega), h3⟩
  case hE => rintro A A' h1 hb; exact h1.booked hb (by have := HW.out; have := HZ.out; omega)
  case hF => rintro k A ⟨h, _⟩; exact ⟨cell_row6 h.bx, h.s⟩
  case h0 => exact ⟨hI, fun i hi => absurd hi (by omega)⟩
  case hN =>
    rintro A ⟨h1, h3⟩
    rw [firstW_none L h3]
    exact h1
  case hround =>
    rintro l m k A hl2 hlt ⟨hi, hr⟩
    simp only [handsC, List.zip_cons_cons, List.zip_nil_right, List.foldl_cons, List.foldl_nil, List.setIfInBounds_toArray, List.set_cons_succ, List.set_cons_zero]
    have HR : Veil _ := ⟨hr⟩
    have HK : Veil (rightA (L.getD k Ac.zero) = false → firstW L = L.getD k Ac.zero) := ⟨fun ht => firstW_here L k hlt hr ht⟩
    have HBA : Veil (B2 < A.heap.size) := ⟨lt_of_heap hi.bx⟩
    have HKF : Veil (rightA (L.getD k Ac.zero) = true → ∀ i, i < k + 1 → rightA (L.getD i Ac.zero) = true) := ⟨fun hf i hi => by
      rcases Nat.lt_or_eq_of_le (Nat.le_of_lt_succ hi) with h | h
      · exact HR.out i h
      · rw [h]; exact hf⟩
    have hak := HOK.out.at' hlt
    have HC : Veil _ := ⟨fun W => HSO.out W (L.getD k Ac.zero) hak⟩
    clear hI hr HSO hak
    revert HK HKF HC
    generalize L.getD k Ac.zero = s
    obtain ⟨x, y⟩ := s
    intro HK HKF HC
    unfold Ac.v at HC
    dsimp only at HC
    gi_wp2
    have hT1 : Turned (fun _ => False) A (A.alloc (.cells #[.int .i64 x, .int .i64 y] 103)) := (Turned.refl _ A).alloc _
    refine ⟨keepsFrom_new6 hT1, fun A2 hbk hsz => ?_⟩
    have hi2 := (hi.new hT1).booked hbk (by have := HW.out; have := HZ.out; omega)
    have hs2 := hbk.heap (heap_alloc_new A (.cells #[.int .i64 x, .int .i64 y] 103))
    clear hi hT1 hbk
    have HI2 : Veil _ := ⟨hi2⟩
    obtain ⟨⟨c1, c2⟩, -⟩ := packG hs2
    have HS2 : Veil _ := ⟨hs2⟩
    have HB2 : Veil (Below w.heap.size w A2) := ⟨hi2.t.toBelow (Nat.le_refl _) (fun _ _ h => h.elim)⟩
    clear hi2 hs2 hsz
    by_cases hge : rightA ⟨x, y⟩ = true
    · have HP : Veil _ := ⟨HKF.out hge⟩
      rw [hge] at HC
      clear hge
      gi_wp2_with (refine calls_roundG ?_; refine (HC.out _ HB2.out).mono ?_; rintro e w2 ⟨rfl, hb2⟩; have HI3 : Veil _ := ⟨HI2.out.new (Turned.new hb2)⟩; have HT2 : Veil (Turned (fun _ => False) A2 w2) := ⟨Turned.new hb2⟩; clear c1 c2 hb2)
      exact ⟨keepsFrom_new6 HT2.out, HI3.out, HP.out⟩
    · have hgf : rightA ⟨x, y⟩ = false := by simpa using hge
      have HP : Veil _ := ⟨HK.out hgf⟩
      rw [hgf] at HC
      clear hge hgf
      have hAb : A.heap.size ≠ B1 := by have := HW.out; have := HBA.out; omega
      have hAb' : B1 ≠ A.heap.size := fun e => hAb e.symm
      gi_wp2_with (refine calls_roundG ?_; refine (HC.out _ HB2.out).mono ?_; rintro e w2 ⟨rfl, hb2⟩; have HI3 : Veil _ := ⟨HI2.out.new (Turned.new hb2)⟩; have HT2 : Veil (Turned (fun _ => False) A2 w2) := ⟨Turned.new hb2⟩; have HS3 : Veil _ := ⟨(Turned.new hb2 : Turned (fun _ => False) _ _).heap HS2.out (fun h => h)⟩; clear c1 c2 hb2; obtain ⟨⟨c1, c2⟩, -⟩ := packG HS3.out; obtain ⟨⟨q0, q1⟩, g0, g1⟩ := packG HI3.out.f)
      have hT : Turned (· = B1) w2 ((w2.setCell ⟨B1, 0, none⟩ (.int .i64 x)).setCell ⟨B1, 1, none⟩ (.int .i64 y)) := ((Turned.refl (· = B1) w2).setCell (p := ⟨B1, 0, none⟩) rfl _).setCell (p := ⟨B1, 1, none⟩) rfl _
      have hW := HW.out
      refine ⟨keepsFrom_turned6 ((HT2.out.wider (fun _ _ h => h.elim)).trans hT) (fun j hj => .inl (by have := HZ.out; omega)), rfl, ?_⟩
      rw [HP.out]
      exact HI3.out.found hp hW.1 hW.2 ⟨x, y⟩
  case hend =>
    rintro Dd A hDd h1 hdd
    have HI : Veil _ := ⟨h1⟩
    have HD : Veil _ := ⟨hdd⟩
    clear HSO
    obtain ⟨s, hs⟩ : ∃ s, firstW L = s := ⟨_, rfl⟩
    rw [hs] at h1 HI
    have HSv : Veil _ := ⟨hs⟩
    clear hs
    obtain ⟨x, y⟩ := s
    have hc : A.cell? ⟨B1, 0, none⟩ = some (.int .i64 x) ∧ A.cell? ⟨B1, 1, none⟩ = some (.int .i64 y) := (packG h1.f).1
    obtain ⟨c2, c3⟩ := hc
    obtain ⟨⟨r0, r1⟩, k0, k1⟩ := packG h1.r
    clear h1 hdd hI
    go_wp2
    try rw [Exit.noGoto_ret]
    have hT : Turned (· = w.heap.size) A ((A.setCell ⟨w.heap.size, 0, none⟩ (.int .i64 x)).setCell ⟨w.heap.size, 1, none⟩ (.int .i64 y)) := ((Turned.refl (· = w.heap.size) A).setCell (p := ⟨w.heap.size, 0, none⟩) rfl _).setCell (p := ⟨w.heap.size, 1, none⟩) rfl _
    have hdd : ((A.setCell ⟨w.heap.size, 0, none⟩ (.int .i64 x)).setCell ⟨w.heap.size, 1, none⟩ (.int .i64 y)).heap[Dd]? = some (.deferred (some [])) := hT.heap HD.out (by have := HW.out; have := HZ.out; omega)
    have hr := heap_setCell_at (heap_setCell_at HI.out.r 0 (.int .i64 x)) 1 (.int .i64 y)
    refine leaves_mark (D := Dd) (B := w.heap.size) hdd (by have := HW.out; have := HZ.out; omega) ?_
    intro w' hb _
    refine leaves_none (results_acc1 (g := w.heap.size) rfl rfl (hb.heap hr)) ⟨by rw [HSv.out]; rfl, ?_⟩
    exact (hb.turned (HI.out.t.then hT (fun k hk e => by have := HW.out; omega)) (Nat.le_refl _)).toBelow (Nat.le_refl _) (fun _ _ h => h.elim)

set_option maxRecDepth 20000 in
set_option maxHeartbeats 1000000 in
theorem acall_any {w : World} {p : Option Addr} (L : List Ac) (cap : Nat) (h : Els elA w p L) (hl : L.length ≤ 1000) (hok : AcsOk L) (hS : MSent w) :
    Calls Tryd.prog 53 #[.slice p L.length cap] w fun e w' => e = .returned (.bool (L.all rightA)) ∧ Below w.heap.size w w' := by
  have HF : Veil _ := ⟨acfirst_any (w := w) (p := p) L cap h hl hok hS⟩
  have hc := firstW_all L
  clear h hok hS
  revert HF hc
  generalize firstW L = s
  generalize L.all rightA = r
  obtain ⟨x, y⟩ := s
  intro HF hc
  unfold Ac.v at HF
  dsimp only at HF hc
  rcases hc with ⟨rfl, hz⟩ | ⟨rfl, hz⟩
  · obtain ⟨rfl, rfl⟩ : x = 0 ∧ y = 0 := by simpa [Ac.zero] using hz
    clear hz
    go_enter Tryd.func53, Tryd.ntmps53
    go_wp2_with (go_at_call 67; refine HF.out.mono ?_; rintro e w2 ⟨rfl, hb2⟩)
    go_ret
    exact ⟨rfl, hb2⟩
  · by_cases hx : x = 0
    · have hy : ¬ y = 0 := fun hy => hz ⟨hx, hy⟩
      subst hx
      clear hz
      go_enter Tryd.func53, Tryd.ntmps53
      go_wp2_with (go_at_call 67; refine HF.out.mono ?_; rintro e w2 ⟨rfl, hb2⟩)
      go_ret
      exact ⟨by simp, hb2⟩
    · clear hz
      go_enter Tryd.func53, Tryd.ntmps53
      go_wp2_with (go_at_call 67; refine HF.out.mono ?_; rintro e w2 ⟨rfl, hb2⟩)
      go_ret
      exact ⟨by simp, hb2⟩

theorem elsA_one (w : World) (a : Ac) (t : TypeId) : Els elA (w.alloc (.cells #[.int .i64 a.w, .int .i64 a.b] t)) (some ⟨w.heap.size, 0, none⟩) [a] := els_of_block (heap_alloc_new _ _) rfl
theorem elsA_two (w : World) (a b : Ac) (t : TypeId) : Els elA (w.alloc (.cells #[.int .i64 a.w, .int .i64 a.b, .int .i64 b.w, .int .i64 b.b] t)) (some ⟨w.heap.size, 0, none⟩) [a, b] := els_of_block (heap_alloc_new _ _) rfl
set_option maxRecDepth 20000 in
set_option maxHeartbeats 1000000 in
theorem acright_any (a : Ac) (ha : a.Ok) (w : World) (hS : MSent w) : Calls Tryd.prog 86 #[a.v] w fun e w' => e = .returned (.bool (rightA a)) ∧ Below w.heap.size w w' := by
  have HT : Veil (∀ (W : World) (g : Nat), g = W.heap.size → Below w.heap.size w W → Calls Tryd.prog 53 #[.slice (some ⟨g, 0, none⟩) 1 1] (W.alloc (.cells #[.int .i64 a.w, .int .i64 a.b] 37)) fun e w' => e = .returned (.bool (rightA a)) ∧ Below W.heap.size W w') := ⟨fun W g hg hb => by
    subst hg
    refine (acall_any (w := W.alloc (.cells #[.int .i64 a.w, .int .i64 a.b] 37)) [a] 1 (elsA_one W a _) (by simp) (by intro n hn; obtain rfl := List.mem_singleton.1 hn; exact ha) (hS.below (below_al hb _))).mono ?_
    rintro e w' ⟨h1, h2⟩
    exact ⟨by rw [h1]; simp, bc_then (below_al (Below.refl _ _) _) h2⟩⟩
  generalize rightA a = r at HT ⊢
  obtain ⟨x, y⟩ := a
  unfold Ac.v
  dsimp only at *
  have hT : Below w.heap.size w (w.alloc (.cells #[.int .i64 x, .int .i64 y] 37)) := below_al (Below.refl _ _) _
  clear ha hS
  go_enter Tryd.func86, Tryd.ntmps86
  go_wp2_with (go_at_call 53; refine (HT.out _ _ (by simp) hT).mono ?_; rintro e w2 ⟨rfl, hb2⟩)
  go_ret
  exact ⟨rfl, bc_then hT hb2⟩
end Go.Proofs.YtckkiilbabbeaaaDoor
