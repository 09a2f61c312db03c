/- The walk of Place (the document's own). -/
import Derived.Test.YtfpcknkinlegcaaKN6
namespace Go.Proofs.Ytfpcknkinlegcaa
open Go Go.RowKit Sm
attribute [local go_sem] Oper.semAt_some

/-- How many hold. -/
def cnt (f : Nat → Bool) : Nat → Nat
  | 0 => 0
  | k + 1 => cnt f k + if f k = true then 1 else 0
theorem cnt_le (f : Nat → Bool) : ∀ k, cnt f k ≤ k
  | 0 => Nat.le_refl _
  | k + 1 => by
    have := cnt_le f k
    unfold cnt
    split <;> omega
def lessP (n : Nd) (key : List UInt8) (i : Nat) : Bool := lessB (n.ps.getD i Pr.zero).k key
def mostK (n : Nd) (key : List UInt8) (i : Nat) : Bool := !lessB key (n.ks.getD i [])
def Nd.place (n : Nd) (key : List UInt8) : Nat := if n.right then cnt (lessP n key) n.ps.length + cnt (mostK n key) n.ks.length else 0

set_option maxRecDepth 20000 in
set_option maxHeartbeats 2000000 in
theorem refplace_of {w : World} {n : Nd} {a : NdP} (h : NdAt w n a) (hok : Veil n.Ok) (key : List UInt8) (hkey : key.length ≤ 1000000) : Calls Try.prog 20 #[n.v a, .string ⟨key.toArray⟩] w fun e w' => e = .returned (.int .i64 (n.place key)) ∧ Below w.heap.size w w' := by
  have HRt : Veil (∀ w, NdAt w n a → Calls Try.prog 15 #[n.v a] w fun e w' => e = .returned (.bool n.right) ∧ Below w.heap.size w w') := ⟨fun w h => refnright_of h hok⟩
  unfold Nd.place
  revert HRt
  generalize n.right = r
  intro HRt
  have HF : Veil (∀ k, cnt (lessP n key) (k + 1) = cnt (lessP n key) k + if lessB (n.ps.getD k Pr.zero).k key = true then 1 else 0) := ⟨fun k => rfl⟩
  have HG : Veil (∀ k, cnt (mostK n key) (k + 1) = cnt (mostK n key) k + if (!lessB key (n.ks.getD k [])) = true then 1 else 0) := ⟨fun k => rfl⟩
  have HF0 : Veil (cnt (lessP n key) 0 = 0) := ⟨rfl⟩
  have HG0 : Veil (cnt (mostK n key) 0 = 0) := ⟨rfl⟩
  have HFl : Veil (∀ k, cnt (lessP n key) k ≤ k) := ⟨cnt_le _⟩
  have HGl : Veil (∀ k, cnt (mostK n key) k ≤ k) := ⟨cnt_le _⟩
  revert HF HG HF0 HG0 HFl HGl
  generalize cnt (lessP n key) = f
  generalize cnt (mostK n key) = g
  intro HF HG HF0 HG0 HFl HGl
  have HB := Lib.hid (NdBox.new h)
  obtain ⟨W1, hW1⟩ : ∃ W1, w.alloc (.cells #[.slice a.pp n.ps.length a.cp, .slice a.pk n.ks.length a.ck, .slice a.pd n.ds.length a.cd] 26) = W1 := ⟨_, rfl⟩
  rw [hW1] at HB
  obtain ⟨a0, a1, a2⟩ := HB.out.cells
  clear h
  unfold Nd.v at *
  obtain ⟨P, K, D⟩ := n
  obtain ⟨pp, cp, pk, ck, pd, cd⟩ := a
  dsimp only at *
  have hP : P.length ≤ 100000 := hok.out.p
  have hK : K.length ≤ 100000 := hok.out.k
  go_enter Try.func20, Try.ntmps20
  cases r
  · go_wp2_with (go_at_call 15; refine (HRt.out _ HB.out.s).mono ?_; rintro e w2 ⟨rfl, hb2⟩)
    go_ret
    exact ⟨rfl, bn_then HB.out.x hb2⟩
  · go_wp2_with (go_at_call 15; refine (HRt.out _ HB.out.s).mono ?_; rintro e w2 ⟨rfl, hb2⟩)
    have HB2 : Veil _ := ⟨HB.out.below hb2⟩
    have hpt := hok.out.pt
    have hkt := hok.out.kt
    clear a0 a1 a2 hW1 hb2 HB HRt hok
    go_loopw [6, 7] (fun c i wr => ∃ k : Nat, k ≤ P.length ∧ i = .int .i64 k ∧ c = .int .i64 (f k) ∧ Veil (Below w2.heap.size w2 wr)) (fun _ i _ => P.length - (intOf i).toNat)
    case atStart => exact ⟨0, Nat.zero_le _, rfl, by rw [HF0.out]; rfl, ⟨Below.refl _ _⟩⟩
    case round =>
      obtain ⟨k, hk, rfl, rfl, hJ⟩ := hrel
      have HB3 : Veil _ := ⟨HB2.out.below hJ.out⟩
      obtain ⟨a0, a1, a2⟩ := HB3.out.cells
      dsimp only at a0 a1 a2
      by_cases hlt : k < P.length
      · obtain ⟨b, o, hpe, hc⟩ := HB3.out.s.pair (by rintro he; dsimp only at he; simp [he] at hlt)
        dsimp only at hpe hc
        subst hpe
        have c1 := (hc k hlt).1
        have hpk := (hpt _ (getD_mem hlt Pr.zero)).1
        have hkI : (0 : Int) ≤ k := by omega
        have HFk : Veil _ := ⟨HF.out k⟩
        have hfl := HFl.out k
        clear hc
        revert c1 hpk HFk
        generalize (P.getD k Pr.zero).k = s
        intro c1 hpk HFk
        have HL : Veil (∀ w, Calls Try.prog 30 #[.string ⟨s.toArray⟩, .string ⟨key.toArray⟩] w fun e w' => e = .returned (.bool (lessB s key)) ∧ ∃ n, w' = w.drewN n) := ⟨less_any s key hpk hkey⟩
        clear hpk
        generalize hfk : f k = m at *
        cases hl : lessB s key
        · rw [hl] at HL HFk
          clear hl
          go_wp2_with (go_at_call 30; refine (HL.out _).mono ?_; rintro e w4 ⟨rfl, hd4⟩)
          refine ⟨⟨k + 1, by omega, by go_num, by rw [HFk.out]; rfl, ⟨bn_then hJ.out (below_drewN' hd4)⟩⟩, ?_⟩
          simp only [intOf]; omega
        · rw [hl] at HL HFk
          clear hl
          go_wp2_with (go_at_call 30; refine (HL.out _).mono ?_; rintro e w4 ⟨rfl, hd4⟩)
          refine ⟨⟨k + 1, by omega, by go_num, by rw [HFk.out]; go_num, ⟨bn_then hJ.out (below_drewN' hd4)⟩⟩, ?_⟩
          simp only [intOf]; omega
      · obtain rfl : k = P.length := by omega
        have HX2 : Veil (Below w.heap.size w wr) := ⟨HB3.out.x⟩
        clear hJ
        go_wp2
        have HB4 : Veil _ := ⟨HB3.out⟩
        clear HB3 HB2 a0 a1 a2 hlt hpt HF HF0
        have hfP := HFl.out P.length
        generalize hW5 : wr = W5 at *
        clear HFl hW5
        go_loopw [6, 8] (fun c i wr => ∃ k : Nat, k ≤ K.length ∧ i = .int .i64 k ∧ c = .int .i64 ((f P.length + g k : Nat) : Int) ∧ Veil (Below W5.heap.size W5 wr)) (fun _ i _ => K.length - (intOf i).toNat)
        case atStart => exact ⟨0, Nat.zero_le _, rfl, by rw [HG0.out]; rfl, ⟨Below.refl _ _⟩⟩
        case round =>
          obtain ⟨k, hk, rfl, rfl, hJ⟩ := hrel
          have HB3 : Veil _ := ⟨HB4.out.below hJ.out⟩
          obtain ⟨a0, a1, a2⟩ := HB3.out.cells
          dsimp only at a0 a1 a2
          by_cases hlt : k < K.length
          · obtain ⟨b, o, hpe, hc⟩ := HB3.out.s.key (by rintro he; dsimp only at he; simp [he] at hlt)
            dsimp only at hpe hc
            subst hpe
            have c1 := hc k hlt
            have hpk := hkt _ (getD_mem hlt [])
            have hkI : (0 : Int) ≤ k := by omega
            have HGk : Veil _ := ⟨HG.out k⟩
            have hgl := HGl.out k
            clear hc
            revert c1 hpk HGk
            generalize K.getD k [] = s
            intro c1 hpk HGk
            have HL : Veil (∀ w, Calls Try.prog 30 #[.string ⟨key.toArray⟩, .string ⟨s.toArray⟩] w fun e w' => e = .returned (.bool (lessB key s)) ∧ ∃ n, w' = w.drewN n) := ⟨less_any key s hkey hpk⟩
            clear hpk
            generalize hgk : g k = m at *
            generalize hsum : f P.length + m = sm at *
            have hsm : sm ≤ 300000 := by omega
            cases hl : lessB key s
            · rw [hl] at HL HGk
              clear hl
              go_wp2_with (go_at_call 30; refine (HL.out _).mono ?_; rintro e w4 ⟨rfl, hd4⟩)
              refine ⟨⟨k + 1, by omega, by go_num, by rw [HGk.out, ← Nat.add_assoc, hsum]; go_num, ⟨bn_then hJ.out (below_drewN' hd4)⟩⟩, ?_⟩
              simp only [intOf]; omega
            · rw [hl] at HL HGk
              clear hl
              go_wp2_with (go_at_call 30; refine (HL.out _).mono ?_; rintro e w4 ⟨rfl, hd4⟩)
              refine ⟨⟨k + 1, by omega, by go_num, by rw [HGk.out, ← Nat.add_assoc, hsum]; rfl, ⟨bn_then hJ.out (below_drewN' hd4)⟩⟩, ?_⟩
              simp only [intOf]; omega
          · obtain rfl : k = K.length := by omega
            have HX3 : Veil (Below w.heap.size w wr) := ⟨HB3.out.x⟩
            clear hJ
            go_wp2
            go_ret
            exact ⟨rfl, HX3.out⟩
end Go.Proofs.Ytfpcknkinlegcaa
