/- Nodes read by the program: each part of what Encode made. -/
import Derived.Test.YtokbmimbbeedcaaGreatDoorKU0
import Derived.Test.YtokbmimbbeedcaaGreatDoorKO6
import Derived.Test.YtokbmimbbeedcaaGreatDoorKOU
import Derived.Test.YtokbmimbbeedcaaGreatDoorKN1
namespace Go.Proofs.YtokbmimbbeedcaaGreatDoor
open Go Go.RowKit Sm

/-- The bytes of the parts from one on; the node of those ahead. -/
def Nd.restB (n : Nd) (k : Nat) : List UInt8 := ((List.range (n.ps.length + n.ds.length)).drop k).flatMap n.partB
def Nd.upTo (n : Nd) (k : Nat) : Nd := if n.ds.length = 0 then ⟨n.ps.take k, [], []⟩ else ⟨[], n.ks.take (k - 1), n.ds.take k⟩
theorem restB_zero {n : Nd} (h : n.right = true) : n.enc = putB (n.ps.length + n.ds.length) 1 ++ n.restB 0 := by rw [enc_right h]; rfl
theorem restB_succ {n : Nd} {k : Nat} (hk : k < n.ps.length + n.ds.length) : n.restB k = n.partB k ++ n.restB (k + 1) := by
  unfold Nd.restB
  rw [List.drop_eq_getElem_cons (by simpa using hk)]
  simp
theorem restB_len {n : Nd} (h : n.right = true) : ∀ k, (n.restB k).length ≤ n.enc.length := fun k => by
  rw [restB_zero h, List.length_append]
  have : (n.restB k).length ≤ (n.restB 0).length := by
    unfold Nd.restB
    rw [List.drop_zero]
    have e : (List.range (n.ps.length + n.ds.length)).flatMap n.partB = ((List.range (n.ps.length + n.ds.length)).take k).flatMap n.partB ++ ((List.range (n.ps.length + n.ds.length)).drop k).flatMap n.partB := by
      rw [← List.flatMap_append, List.take_append_drop]
    rw [e, List.length_append]; omega
  omega
theorem upTo_zero (n : Nd) : n.upTo 0 = Nd.zero := by
  unfold Nd.upTo
  split <;> simp [Nd.zero]
theorem upTo_full {n : Nd} (h : n.right = true) : n.upTo (n.ps.length + n.ds.length) = n := by
  unfold Nd.upTo
  rcases Bool.or_eq_true_iff.1 h with h | h
  · obtain ⟨⟨h1, h2, -⟩, -⟩ := n.leaf_iff.1 h
    rw [if_pos h2]
    obtain ⟨p, k, d⟩ := n
    simp only at h1 h2 ⊢
    rw [List.eq_nil_of_length_eq_zero h1, List.eq_nil_of_length_eq_zero h2]
    simp
  · obtain ⟨⟨h1, h2, -, h4⟩, -⟩ := n.branch_iff.1 h
    rw [if_neg (by omega)]
    obtain ⟨p, k, d⟩ := n
    simp only at h1 h2 h4 ⊢
    rw [List.eq_nil_of_length_eq_zero h1]
    simp
    exact List.take_of_length_le (by omega)
theorem take_more {α : Type} {L : List α} {k : Nat} (d : α) (hk : k < L.length) : L.take (k + 1) = L.take k ++ [L.getD k d] := by
  rw [List.take_add_one]
  simp [List.getD, hk]

theorem part_next {n : Nd} (hr : n.right = true) (hf : n.enc.length ≤ 237) {k : Nat} (hk : k < n.ps.length + n.ds.length) {W : World} {R : Nat} {v1 v2 v3 : Value} (h : RdAt W R (n.restB k) v1 v2 v3) (hm : NdOwn W (R + 1) v1 v2 v3 (n.upTo k)) : Calls Tryz.prog 103 #[.pointer (some ⟨R, 0, none⟩), .int .i64 (n.kind : Nat), .int .i64 k] W (PartPost W R (n.restB (k + 1)) (n.upTo (k + 1))) := by
  have hM := restB_len hr (k + 1)
  rw [restB_succ hk] at h
  rcases Bool.or_eq_true_iff.1 hr with hl | hb
  · obtain ⟨⟨h1, h2, h3⟩, hp, -⟩ := (leaf_pw n).1 hl
    have hkp : k < n.ps.length := by omega
    have hrp := (rightP_iff _).1 (hp _ (getD_mem hkp Pr.zero))
    have hkd : n.kind = 1 := by unfold Nd.kind; rw [if_pos h2]
    have e1 : n.upTo k = ⟨n.ps.take k, [], []⟩ := if_pos h2
    have e2 : n.upTo (k + 1) = ⟨n.ps.take k ++ [⟨(n.ps.getD k Pr.zero).k, (n.ps.getD k Pr.zero).v⟩], [], []⟩ := by
      unfold Nd.upTo
      rw [if_pos h2, take_more Pr.zero hkp]
    have e3 : n.partB k ++ n.restB (k + 1) = putB (n.ps.getD k Pr.zero).k.length 1 ++ ((n.ps.getD k Pr.zero).k ++ (putB (n.ps.getD k Pr.zero).v.length 1 ++ ((n.ps.getD k Pr.zero).v ++ n.restB (k + 1)))) := by
      unfold Nd.partB
      rw [if_pos hkp]
      simp [txB]
    rw [e1] at hm
    rw [e3] at h
    rw [hkd, e2]
    exact part_pair _ _ _ k (by omega) (by omega) (by omega) (by dsimp only; rw [List.length_take]; omega) h hm
  · obtain ⟨⟨h1, h2, h3, h4⟩, hd, hks, -⟩ := (branch_pw n).1 hb
    have hz : n.ps.length = 0 := by rw [h1]; rfl
    have hkp : k < n.ds.length := by omega
    have hkd : n.kind = 2 := by unfold Nd.kind; rw [if_neg (by omega)]
    have hdk := hd _ (getD_mem hkp 0)
    have e1 : n.upTo k = ⟨[], n.ks.take (k - 1), n.ds.take k⟩ := if_neg (by omega)
    have e2 : n.upTo (k + 1) = ⟨[], n.ks.take k, n.ds.take k ++ [n.ds.getD k 0]⟩ := by
      unfold Nd.upTo
      rw [if_neg (by omega), take_more 0 hkp]; rfl
    rw [e1] at hm
    rw [hkd, e2]
    cases k with
    | zero =>
      have e3 : n.partB 0 ++ n.restB (0 + 1) = putB (n.ds.getD 0 0) 4 ++ n.restB (0 + 1) := by
        unfold Nd.partB Nd.ahead
        rw [if_neg (by omega), if_pos (.inl rfl)]
        simp [txB]
      rw [e3] at h
      exact part_kid _ _ (by omega) (by omega) (by dsimp only; rw [List.length_take]; omega) h hm
    | succ j =>
      have hkl := hks _ (getD_mem (show j < n.ks.length by omega) [])
      have e3 : n.partB (j + 1) ++ n.restB (j + 1 + 1) = putB (n.ks.getD j []).length 1 ++ (n.ks.getD j [] ++ (putB (n.ds.getD (j + 1) 0) 4 ++ n.restB (j + 1 + 1))) := by
        unfold Nd.partB Nd.ahead
        rw [if_neg (by omega), if_neg (by omega), Nat.add_sub_cancel]
        simp [txB]
      rw [e3] at h
      rw [Nat.add_sub_cancel] at hm
      rw [take_more [] (show j < n.ks.length by omega)]
      exact part_key _ _ _ (j + 1) (by omega) (by omega) (by omega) (by omega) (by omega) (by dsimp only; rw [List.length_take]; omega) (by dsimp only; rw [List.length_take]; omega) h hm
end Go.Proofs.YtokbmimbbeedcaaGreatDoor

/- Nodes read by the program: Decode of what Encode made. -/
namespace Go.Proofs.YtokbmimbbeedcaaGreatDoor
open Go Go.RowKit Sm
attribute [local go_sem] Oper.semAt_some

/-- Between two parts: the reader, and the box of the answer. -/
structure DecI (w : World) (n : Nd) (k : Nat) (v1 v2 v3 : Value) (W : World) : Prop where
  r : RdAt W (w.heap.size + 1) (n.restB k) v1 v2 v3
  m : NdOwn W (w.heap.size + 1 + 1) v1 v2 v3 (n.upTo k)
  t : Below w.heap.size w W
  b : W.heap[w.heap.size]? = some (.cells #[.slice none 0 0, .slice none 0 0, .slice none 0 0] 92 (0, 0))
theorem DecI.next {w : World} {n : Nd} {k : Nat} {v1 v2 v3 : Value} {W W' : World} (h : DecI w n k v1 v2 v3 W) {e : Ending} (hp : PartPost W (w.heap.size + 1) (n.restB (k + 1)) (n.upTo (k + 1)) e W') : ∃ v1 v2 v3, DecI w n (k + 1) v1 v2 v3 W' := by
  obtain ⟨-, u1, u2, u3, h1, h2, h3⟩ := hp
  have hz := h.t.size
  exact ⟨u1, u2, u3, h1, h2, h.t.trans (h3.mono (by omega)), ((Turned.below (F := (w.heap.size + 1 ≤ ·)) h3 (fun _ _ h => h)).heap h.b (fun e => by have e : w.heap.size + 1 ≤ w.heap.size := e; omega))⟩

set_option maxRecDepth 20000 in
set_option maxHeartbeats 4000000 in
theorem decode_own {w : World} {n : Nd} (hr : n.right = true) (hf : n.fits = true) (hok : Veil n.Ok) : Calls Tryz.prog 71 #[.int .i64 (n.kind : Nat), .string ⟨n.enc.toArray⟩] w fun e w' => ∃ v1 v2 v3, e = .returned (.tuple #[.agg #[v1, v2, v3], .int .i64 0]) ∧ NdOwn w' w.heap.size v1 v2 v3 n ∧ Below w.heap.size w w' := by
  have hel : n.enc.length ≤ 237 := by unfold Nd.fits at hf; simp at hf; exact hf.2
  have hcnt : n.ps.length + n.ds.length ≤ 255 := by
    rcases Bool.or_eq_true_iff.1 hr with h | h
    · have := (n.leaf_iff.1 h).1; omega
    · have := (n.branch_iff.1 h).1; omega
  have hl1 : (putB (n.ps.length + n.ds.length) 1).length = 1 := putB_length _ _
  have HN : Veil (∀ W, RdAt W (w.heap.size + 1) n.enc (.slice none 0 0) (.slice none 0 0) (.slice none 0 0) → Calls Tryz.prog 102 #[.pointer (some ⟨w.heap.size + 1, 0, none⟩), .int .i64 1] W fun e w' => e = .returned (.int .i64 ((n.ps.length + n.ds.length : Nat) : Int)) ∧ RdAt w' (w.heap.size + 1) (n.restB 0) (.slice none 0 0) (.slice none 0 0) (.slice none 0 0) ∧ Turned (· = w.heap.size + 1) W w') := ⟨fun W hW => by
    rw [restB_zero hr] at hW
    have hm := restB_len hr 0
    have := rnumber_any hW 1 (by rw [List.length_append]; omega) (by decide) (by rw [List.length_append]; omega)
    rw [List.take_append_of_le_length (by omega), List.take_of_length_le (by omega), getB_putB _ 1 (by decide) (by omega), List.drop_append_of_le_length (by omega), List.drop_eq_nil_of_le (by omega), List.nil_append] at this
    exact this⟩
  have HPt : Veil (∀ k, k < n.ps.length + n.ds.length → ∀ v1 v2 v3 W, DecI w n k v1 v2 v3 W → Calls Tryz.prog 103 #[.pointer (some ⟨w.heap.size + 1, 0, none⟩), .int .i64 (n.kind : Nat), .int .i64 k] W (PartPost W (w.heap.size + 1) (n.restB (k + 1)) (n.upTo (k + 1)))) := ⟨fun k hk v1 v2 v3 W hI => part_next hr hel hk hI.r hI.m⟩
  have HEn : Veil (∀ a W, NdAt W n a → NdFit n a → Calls Tryz.prog 90 #[.agg #[.slice a.pp n.ps.length a.cp, .slice a.pk n.ks.length a.ck, .slice a.pd n.ds.length a.cd]] W fun e w' => e = .returned (.tuple #[.int .i64 (n.kind : Nat), .string ⟨n.enc.toArray⟩, .int .i64 0]) ∧ Below W.heap.size W w') := ⟨fun a W hW hfa => by
    have := encode_of hW hfa.k hok
    unfold Nd.encR at this
    rw [if_pos hf] at this
    exact this⟩
  obtain ⟨W1, hW1⟩ : ∃ W1, w.alloc (.cells #[.slice none 0 0, .slice none 0 0, .slice none 0 0] 92) = W1 := ⟨_, rfl⟩
  have hz1 : W1.heap.size = w.heap.size + 1 := by rw [← hW1]; simp
  have HR0 : Veil (RdAt (W1.alloc (.cells #[.string ⟨n.enc.toArray⟩, .slice none 0 0, .slice none 0 0, .slice none 0 0] 207)) (w.heap.size + 1) n.enc (.slice none 0 0) (.slice none 0 0) (.slice none 0 0)) := ⟨by rw [← hz1]; exact heap_alloc_new _ _⟩
  have HD0 : Veil (∀ W, RdAt W (w.heap.size + 1) (n.restB 0) (.slice none 0 0) (.slice none 0 0) (.slice none 0 0) → Turned (· = w.heap.size + 1) (W1.alloc (.cells #[.string ⟨n.enc.toArray⟩, .slice none 0 0, .slice none 0 0, .slice none 0 0] 207)) W → DecI w n 0 (.slice none 0 0) (.slice none 0 0) (.slice none 0 0) W) := ⟨fun W hR hT => by
    have hb1 : Below w.heap.size w W1 := by rw [← hW1]; exact below_al (Below.refl _ _) _
    have hbx : W1.heap[w.heap.size]? = some (.cells #[.slice none 0 0, .slice none 0 0, .slice none 0 0] 92 (0, 0)) := by rw [← hW1]; exact heap_alloc_new _ _
    have hb2 := below_al hb1 (.cells #[.string ⟨n.enc.toArray⟩, .slice none 0 0, .slice none 0 0, .slice none 0 0] 207)
    have hbx2 : (W1.alloc (.cells #[.string ⟨n.enc.toArray⟩, .slice none 0 0, .slice none 0 0, .slice none 0 0] 207)).heap[w.heap.size]? = _ := ((below_al (Below.refl W1.heap.size W1) _).block _ (lt_of_heap hbx)).trans hbx
    refine ⟨hR, by rw [upTo_zero]; exact NdOwn.zero _ _, hb2.trans (hT.toBelow hb2.size (fun j _ e => by have e : j = w.heap.size + 1 := e; omega)), hT.heap hbx2 (fun e => by have e : w.heap.size = w.heap.size + 1 := e; omega)⟩⟩
  have HFin : Veil (∀ v1 v2 v3 W, DecI w n (n.ps.length + n.ds.length) v1 v2 v3 W → ∃ a : NdP, v1 = .slice a.pp n.ps.length a.cp ∧ v2 = .slice a.pk n.ks.length a.ck ∧ v3 = .slice a.pd n.ds.length a.cd ∧ NdAt W n a ∧ NdFit n a ∧ NdOwn W (w.heap.size + 1 + 1) v1 v2 v3 n) := ⟨fun v1 v2 v3 W hI => by
    have hm := hI.m
    rw [upTo_full hr] at hm
    obtain ⟨a, e1, e2, e3, h4, h5⟩ := hm.parts
    exact ⟨a, e1, e2, e3, h4, h5, hm⟩⟩
  obtain ⟨cnt, hct⟩ : ∃ cnt, n.ps.length + n.ds.length = cnt := ⟨_, rfl⟩
  rw [hct] at HN HPt HFin hcnt
  clear hf hel hok hl1 hr hct
  go_enter Tryz.func71, Tryz.ntmps71
  go_wp2_with (go_at_call 102; refine (HN.out _ HR0.out).mono ?_; rintro e w3 ⟨rfl, hR3, hT3⟩; have HI3 : Veil _ := ⟨HD0.out _ hR3 hT3⟩; clear hR3 hT3)
  go_loopw [7, 16] (fun _ i wr => ∃ (k : Nat) (v1 v2 v3 : Value), k ≤ cnt ∧ i = .int .i64 k ∧ Veil (DecI w n k v1 v2 v3 wr)) (fun _ i _ => cnt - (intOf i).toNat)
  case atStart => exact ⟨0, _, _, _, Nat.zero_le _, rfl, HI3⟩
  case round =>
    obtain ⟨k, v1, v2, v3, hk, rfl, hI⟩ := hrel
    by_cases hlt : k < cnt
    · go_wp2_with (go_at_call 103; refine (HPt.out k hlt v1 v2 v3 _ hI.out).mono ?_; rintro e w5 hp; obtain ⟨u1, u2, u3, hI5⟩ := hI.out.next hp; obtain ⟨rfl, -⟩ := hp; have HI5 : Veil _ := ⟨hI5⟩; clear hI5)
      refine ⟨⟨k + 1, u1, u2, u3, by omega, by go_num, HI5⟩, ?_⟩
      simp only [intOf]; omega
    · obtain rfl : k = cnt := by omega
      obtain ⟨a, rfl, rfl, rfl, hat, hfa, hown⟩ := HFin.out _ _ _ _ hI.out
      have HAt : Veil _ := ⟨hat⟩
      have HFa : Veil _ := ⟨hfa⟩
      have HOw : Veil _ := ⟨hown⟩
      obtain ⟨⟨-, c1, c2, c3⟩, -⟩ := hI.out.r.cells
      clear hat hfa hown
      go_wp2_with (go_at_call 90; refine (HEn.out a _ HAt.out HFa.out).mono ?_; rintro e w7 ⟨rfl, hb7⟩; have hr7 : RdAt w7 _ _ _ _ _ := (hb7.block _ (lt_of_heap hI.out.r)).trans hI.out.r; have hx7 := (hb7.block _ (lt_of_heap hI.out.b)).trans hI.out.b; clear c1 c2 c3; obtain ⟨⟨-, c1, c2, c3⟩, -⟩ := hr7.cells; obtain ⟨⟨b0, b1, b2⟩, k0, k1, k2⟩ := box3 hx7; have HB7 : Veil _ := ⟨hb7⟩; have HX7 : Veil _ := ⟨hx7⟩; clear hb7 hr7 hx7)
      have hT : Turned (· = w.heap.size) w7 (((w7.setCell ⟨w.heap.size, 0, none⟩ (.slice a.pp n.ps.length a.cp)).setCell ⟨w.heap.size, 1, none⟩ (.slice a.pk n.ks.length a.ck)).setCell ⟨w.heap.size, 2, none⟩ (.slice a.pd n.ds.length a.cd)) := (((Turned.refl (· = w.heap.size) w7).setCell (p := ⟨w.heap.size, 0, none⟩) rfl _).setCell (p := ⟨w.heap.size, 1, none⟩) rfl _).setCell (p := ⟨w.heap.size, 2, none⟩) rfl _
      have hres : (((w7.setCell ⟨w.heap.size, 0, none⟩ (.slice a.pp n.ps.length a.cp)).setCell ⟨w.heap.size, 1, none⟩ (.slice a.pk n.ks.length a.ck)).setCell ⟨w.heap.size, 2, none⟩ (.slice a.pd n.ds.length a.cd)).heap[w.heap.size]? = some (.cells #[.slice a.pp n.ps.length a.cp, .slice a.pk n.ks.length a.ck, .slice a.pd n.ds.length a.cd] 92 (0, 0)) := heap_setCell_at (heap_setCell_at (heap_setCell_at HX7.out 0 _) 1 _) 2 _
      have hb : Below w.heap.size w w7 := hI.out.t.trans (HB7.out.mono hI.out.t.size)
      refine bodyPost_ret (results_node2 rfl rfl rfl hres) rfl ?_
      exact ⟨_, _, _, rfl, ((HOw.out.below HB7.out).kept hT (fun j hj e => by have e : j = w.heap.size := e; omega)).less (by omega), hb.trans (hT.toBelow hb.size (fun j _ e => by have e : j = w.heap.size := e; omega))⟩
end Go.Proofs.YtokbmimbbeedcaaGreatDoor
