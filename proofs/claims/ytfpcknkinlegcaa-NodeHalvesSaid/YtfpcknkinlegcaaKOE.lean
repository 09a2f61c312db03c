/- The walk of Delete. -/
import Derived.Test.YtfpcknkinlegcaaKOC
import Derived.Test.YtfpcknkinlegcaaKND
namespace Go.Proofs.Ytfpcknkinlegcaa
open Go Go.RowKit Sm
attribute [local go_sem] Oper.semAt_some

def Nd.delP (n : Nd) (key : List UInt8) : Nd × Bool × Int := if n.leaf then (⟨n.ps.take (n.place key) ++ [] ++ n.ps.drop (n.past key), [], []⟩, decide (n.place key < n.past key), 0) else (Nd.zero, false, 60)

set_option maxRecDepth 20000 in
set_option maxHeartbeats 4000000 in
theorem ndelete_of {w : World} {n : Nd} {a : NdP} (h : NdAt w n a) (hf : SlOk a.pp n.ps.length a.cp) (hok : Veil n.Ok) (key : List UInt8) (hkey : key.length ≤ 1000000) :
    Calls Try.prog 23 #[n.v a, .string ⟨key.toArray⟩] w (DelPost w (n.delP key)) := by
  have HKd : Veil (∀ w, NdAt w n a → Calls Try.prog 34 #[n.v a] w fun e w' => e = .returned (.int .i64 ((if n.right then n.kind else 0 : Nat) : Int)) ∧ Below w.heap.size w w') := ⟨fun w h => kindOf_of h hok⟩
  have HSp : Veil (∀ w, NdAt w n a → Calls Try.prog 40 #[n.v a, .string ⟨key.toArray⟩] w fun e w' => e = .returned (.tuple #[.int .i64 (n.place key), .int .i64 (n.past key)]) ∧ Below w.heap.size w w') := ⟨fun w h => span_of h hok key hkey⟩
  have HRp : Veil (n.leaf = true → ∀ w, NdAt w n a → Calls Try.prog 41 #[n.v a, .int .i64 (n.place key), .int .i64 (n.past key), .slice none 0 0] w fun e w' => ∃ v, e = .returned (.agg #[v, .slice none 0 0, .slice none 0 0]) ∧ NdOwn w' w.heap.size v (.slice none 0 0) (.slice none 0 0) ⟨n.ps.take (n.place key) ++ [] ++ n.ps.drop (n.past key), [], []⟩ ∧ Below w.heap.size w w') := ⟨fun hl w h => replaced_of h hf (n.place key) (n.past key) (leaf_place hl key).1 (leaf_place hl key).2.1 (pb := none) (B := []) (Els.nil _ _) 0 hok.out.p (by simp)⟩
  have HK1 : Veil _ := ⟨kind_leaf n⟩
  have HK0 : Veil _ := ⟨kind_notleaf n⟩
  have HPR : Veil (n.delP key = if n.leaf = true then (⟨n.ps.take (n.place key) ++ [] ++ n.ps.drop (n.past key), [], []⟩, decide (n.place key < n.past key), 0) else (Nd.zero, false, 60)) := ⟨rfl⟩
  have hbd : n.leaf = true → n.past key ≤ 100000 ∧ n.place key ≤ 100000 := fun hl => ⟨Nat.le_trans (leaf_place hl key).2.1 hok.out.p, Nat.le_trans (leaf_place hl key).1 hok.out.p⟩
  clear hok hf
  revert HKd HSp HRp HK1 HK0 HPR hbd
  generalize n.delP key = R
  generalize n.ps.take (n.place key) ++ [] ++ n.ps.drop (n.past key) = mp
  generalize (if n.right = true then n.kind else 0) = kd
  generalize n.place key = f
  generalize n.past key = t
  generalize n.leaf = l
  intro HKd HSp HRp HK1 HK0 HPR hbd
  have hz1 : (w.alloc (.cells #[.slice a.pp n.ps.length a.cp, .slice a.pk n.ks.length a.ck, .slice a.pd n.ds.length a.cd] 26)).heap.size = w.heap.size + 1 := by simp
  obtain ⟨W1, hW1⟩ : ∃ W1, w.alloc (.cells #[.slice a.pp n.ps.length a.cp, .slice a.pk n.ks.length a.ck, .slice a.pd n.ds.length a.cd] 26) = W1 := ⟨_, rfl⟩
  obtain ⟨W3, hW3⟩ : ∃ W3, W1.alloc (.cells #[.slice none 0 0, .slice none 0 0, .slice none 0 0] 26) = W3 := ⟨_, rfl⟩
  rw [hW1] at hz1
  have hb3 : Below W1.heap.size W1 W3 := by rw [← hW3]; exact below_al (Below.refl _ _) _
  have HB : Veil (NdBox w n a W3) := ⟨by have := NdBox.new h; rw [hW1] at this; exact this.below hb3⟩
  have HR3 : Veil (W3.heap[W1.heap.size]? = some (.cells #[.slice none 0 0, .slice none 0 0, .slice none 0 0] 26 (0, 0))) := ⟨by rw [← hW3]; exact heap_alloc_new _ _⟩
  have HZ : Veil (W1.heap.size = w.heap.size + 1) := ⟨hz1⟩
  obtain ⟨a0, a1, a2⟩ := HB.out.cells
  clear h hb3 hz1
  unfold Nd.v at *
  have HTT : Veil (∀ (W : World) (u : Value), Turned (· = W1.heap.size) W (((W.setCell ⟨W1.heap.size, 0, none⟩ u).setCell ⟨W1.heap.size, 1, none⟩ (.slice none 0 0)).setCell ⟨W1.heap.size, 2, none⟩ (.slice none 0 0))) := ⟨fun W u => ((((Turned.refl (· = W1.heap.size) W).setCell (p := ⟨W1.heap.size, 0, none⟩) rfl u).setCell (p := ⟨W1.heap.size, 1, none⟩) rfl (.slice none 0 0)).setCell (p := ⟨W1.heap.size, 2, none⟩) rfl (.slice none 0 0))⟩
  go_enter Try.func23, Try.ntmps23
  cases l
  · have hk1 : ((kd : Int) != 1) = true := by rw [bne_iff_ne]; have := HK0.out rfl; omega
    obtain rfl : R = (Nd.zero, false, 60) := by rw [HPR.out]; simp
    clear HRp HK1 HK0 HPR HSp
    go_wp2_with (go_at_call 34; refine (HKd.out _ HB.out.s).mono ?_; rintro e w4 ⟨rfl, hb⟩; have HR4 : Veil _ := ⟨(hb.block _ (lt_of_heap HR3.out)).trans HR3.out⟩; replace HB : Veil _ := ⟨HB.out.below hb⟩; clear hb a0 a1 a2; obtain ⟨⟨y0, y1, y2⟩, k0, k1, k2⟩ := box3 HR4.out)
    have hT := HTT.out w4 (.slice none 0 0)
    exact bodyPost_ret (results_node3 (g := W1.heap.size) (y := .bool false) (z := .int .i64 60) rfl rfl rfl rfl (heap_setCell_at (heap_setCell_at (heap_setCell_at HR4.out 0 _) 1 _) 2 _)) rfl ⟨_, _, _, rfl, NdOwn.zero _ _, HB.out.x.trans (hT.toBelow HB.out.x.size (fun j _ h => by have := HZ.out; omega))⟩
  · obtain rfl : kd = 1 := HK1.out rfl
    have HRp1 : Veil _ := ⟨HRp.out rfl⟩
    obtain ⟨ht, hf⟩ := hbd rfl
    obtain rfl : R = (⟨mp, [], []⟩, decide (f < t), 0) := by rw [HPR.out]; simp
    clear HRp HK1 HK0 HPR hbd
    go_wp2_with (first
      | (go_at_call 41; refine (HRp1.out _ HB.out.s).mono ?_; rintro e w7 ⟨v, rfl, hown, hb7⟩; obtain ⟨p5, c5, e5, -, -, -⟩ := hown.p.fit; dsimp only at e5; subst e5; have HO7 : Veil _ := ⟨hown⟩; have HR7 : Veil _ := ⟨(hb7.block _ (lt_of_heap HR5.out)).trans HR5.out⟩; replace HB : Veil _ := ⟨HB.out.below hb7⟩; clear hown hb7 a0 a1 a2; obtain ⟨⟨y0, y1, y2⟩, k0, k1, k2⟩ := box3 HR7.out)
      | (go_at_call 40; refine (HSp.out _ HB.out.s).mono ?_; rintro e w5 ⟨rfl, hb⟩; have HR5 : Veil _ := ⟨(hb.block _ (lt_of_heap HR4.out)).trans HR4.out⟩; replace HB : Veil _ := ⟨HB.out.below hb⟩; clear hb a0 a1 a2; obtain ⟨a0, a1, a2⟩ := HB.out.cells)
      | (go_at_call 34; refine (HKd.out _ HB.out.s).mono ?_; rintro e w4 ⟨rfl, hb⟩; have HR4 : Veil _ := ⟨(hb.block _ (lt_of_heap HR3.out)).trans HR3.out⟩; replace HB : Veil _ := ⟨HB.out.below hb⟩; clear hb a0 a1 a2; obtain ⟨a0, a1, a2⟩ := HB.out.cells))
    have hT := HTT.out w7 (.slice p5 mp.length c5)
    have hz6 : W1.heap.size < w5.heap.size := lt_of_heap HR5.out
    refine bodyPost_ret (results_node3 (g := W1.heap.size) (y := .bool (decide (f < t))) (z := .int .i64 0) rfl rfl ?_ rfl (heap_setCell_at (heap_setCell_at (heap_setCell_at HR7.out 0 _) 1 _) 2 _)) rfl ⟨_, _, _, rfl, (HO7.out.kept hT (fun k hk e => by omega)).less (by have := HZ.out; omega), HB.out.x.trans (hT.toBelow HB.out.x.size (fun j _ h => by have := HZ.out; omega))⟩
    simp
end Go.Proofs.Ytfpcknkinlegcaa
