/- Money: amounts' bytes, the amounts of bytes: the document's own Bytes, Parse, Same. -/
import Derived.Test.YtbbfmddechpnjaaDoorKC1
import Derived.Test.YtbbfmddechpnjaaDoorKN0
import Derived.Test.YtbbfmddechpnjaaDoorKF1
namespace Go.Proofs.YtbbfmddechpnjaaDoor
open Go Go.RowKit Sm
attribute [local go_sem] Oper.semAt_some

def elL : El Int where
  enc n := [.int .i64 n]
  z := 1
  ty := 2
  sl := 50
  bytes := 8
  zero := .int .i64 0
  d := 0
  len _ := rfl
  one x v hv := by
    simp only [List.mem_cons, List.not_mem_nil, or_false] at hv
    subst hv; rfl
  pos := by decide
  under := by kernel_rfl
  info := by kernel_rfl
  zlen := rfl
  few := by decide

def bytesM (l : List Int) : List UInt8 := l.flatMap fun n => putB n.toNat 8
def bytesR (l : List Int) : List UInt8 × Int := if l.all amt then (bytesM l, 0) else ([], 110)
def eightM (s : List UInt8) (i : Nat) : Nat := getB ((s.drop (8 * i)).take 8)
def eightsM (s : List UInt8) : List Nat := (List.range (s.length / 8)).map (eightM s)
def isM (s : List UInt8) : Bool := decide (s.length % 8 = 0) && (eightsM s).all fun n => decide (n ≤ 1152921504606846976)
def parseR (s : List UInt8) : List Int × Int := if isM s then ((eightsM s).map fun (n : Nat) => (n : Int), 0) else ([], 110)

theorem bytesM_take (l : List Int) (k : Nat) (h : k < l.length) : bytesM (l.take (k + 1)) = bytesM (l.take k) ++ putB (l.getD k 0).toNat 8 := by
  unfold bytesM
  rw [List.take_succ_eq_append_getElem h, List.flatMap_append]
  simp [List.getD, h]
theorem bytesM_len (l : List Int) : (bytesM l).length = 8 * l.length := by
  induction l with
  | nil => rfl
  | cons a r ih => simp only [bytesM, List.flatMap_cons, List.length_append, List.length_cons] at ih ⊢; rw [ih]; simp [putB]; omega
theorem allA_take (l : List Int) (k : Nat) (h : k < l.length) : (l.take (k + 1)).all amt = ((l.take k).all amt && amt (l.getD k 0)) := by
  rw [List.take_succ_eq_append_getElem h, List.all_append]
  simp [List.getD, h]
theorem allA_out (l : List Int) (k : Nat) (h : k < l.length) (hf : amt (l.getD k 0) = false) : l.all amt = false := by
  rw [List.all_eq_false]
  refine ⟨l[k], List.getElem_mem h, ?_⟩
  have : l.getD k 0 = l[k] := by simp [List.getD, h]
  rw [← this, hf]; decide

def LsPost (w : World) (L : List Int) (c : Int) (e : Ending) (w' : World) : Prop := ∃ p cp, e = .returned (.tuple #[.slice p L.length cp, .int .i64 c]) ∧ Els elL w' p L ∧ L.length ≤ cp ∧ Below w.heap.size w w'

theorem els_load {w : World} {p : Option Addr} {L : List Int} (h : Els elL w p L) {k : Nat} (hk : k < L.length) : ∃ b o, p = some ⟨b, o, none⟩ ∧ w.cell? ⟨b, o + k, none⟩ = some (.int .i64 (L.getD k 0)) := by
  obtain ⟨b, o, hp, hc⟩ := h (by rintro rfl; simp at hk)
  refine ⟨b, o, hp, ?_⟩
  have := hc k 0 hk (by decide)
  rw [show elL.z = 1 from rfl, Nat.mul_one, Nat.add_zero] at this
  exact this

set_option maxRecDepth 20000 in
set_option maxHeartbeats 1000000 in
theorem refbytesM_any {w : World} {p : Option Addr} (l : List Int) (c : Nat) (h : Els elL w p l) (hl : l.length ≤ 1000) :
    Calls Tryd.prog 37 #[.slice p l.length c] w fun e w' => e = .returned (.tuple #[.string ⟨(bytesR l).1.toArray⟩, .int .i64 (bytesR l).2]) ∧ Below w.heap.size w w' := by
  obtain ⟨r, hr⟩ : ∃ r, bytesR l = r := ⟨_, rfl⟩
  have HR : Veil _ := ⟨hr⟩
  rw [hr]
  clear hr
  obtain ⟨rs, rc⟩ := r
  dsimp only
  have HH : Veil _ := ⟨h⟩
  clear h
  go_enter Tryd.func37, Tryd.ntmps37
  go_wp2
  go_loopw [4, 5] (fun s i wr => ∃ k : Nat, k ≤ l.length ∧ i = .int .i64 k ∧ Veil (s = .string ⟨(bytesM (l.take k)).toArray⟩ ∧ (l.take k).all amt = true ∧ Below w.heap.size w wr)) (fun _ i _ => l.length - (intOf i).toNat)
  case atStart => exact ⟨0, Nat.zero_le _, rfl, ⟨rfl, rfl, Below.refl _ _⟩⟩
  case round =>
    obtain ⟨k, hk, rfl, hJ⟩ := hrel
    obtain ⟨rfl, hA, hB⟩ := hJ.out
    have HB : Veil _ := ⟨hB⟩
    have HA : Veil _ := ⟨hA⟩
    clear hA hB hJ
    have hbl : (bytesM (l.take k)).length ≤ 8000 := by rw [bytesM_len, List.length_take]; omega
    by_cases hlt : k < l.length
    · obtain ⟨b, o, rfl, hc⟩ := els_load (HH.out.below HB.out) hlt
      have HT : Veil _ := ⟨bytesM_take l k hlt⟩
      have HT2 : Veil _ := ⟨allA_take l k hlt⟩
      have HT3 : Veil _ := ⟨allA_out l k hlt⟩
      revert hc HT HT2 HT3
      generalize l.getD k 0 = x
      intro hc HT HT2 HT3
      by_cases hx : amt x = true
      · have HC : Veil _ := ⟨fun w => refamt_any x w⟩
        rw [hx] at HC
        have hx2 := (amt_iff x).1 hx
        obtain ⟨hx0, hx1⟩ := hx2
        obtain ⟨n, rfl⟩ : ∃ n : Nat, x = n := ⟨x.toNat, by omega⟩
        have hw : IntKind.u64.wrap (n : Int) = n := by rw [IntKind.wrap_u64]; omega
        have HP : Veil _ := ⟨fun w => put_any n 8 (by decide) w⟩
        have HX : Veil _ := ⟨hx⟩
        rw [show ((n : Int)).toNat = n from rfl] at HT
        clear hx
        go_wp2_with (first
          | (go_at_call 47; refine (HP.out _).mono ?_; rintro e w3 ⟨rfl, hb3⟩)
          | (go_at_call 46; refine (HC.out _).mono ?_; rintro e w2 ⟨rfl, hb2⟩; have hcc := (hb2.cell (World.block_lt_of_cell? _ _ hc)).trans hc))
        refine ⟨⟨k + 1, by omega, by go_num, ⟨?_, ?_, ?_⟩⟩, ?_⟩
        · rw [HT.out, str_add]
        · rw [HT2.out, HA.out, HX.out]; rfl
        · exact bc_then HB.out (bc_then hb2 hb3)
        · simp only [intOf]; omega
      · have hxf : amt x = false := by simpa using hx
        have HC : Veil _ := ⟨fun w => refamt_any x w⟩
        rw [hxf] at HC
        have HE : Veil (rs = [] ∧ rc = 110) := ⟨by have h := HR.out; unfold bytesR at h; rw [if_neg (by simp [HT3.out hxf])] at h; simp only [Prod.mk.injEq] at h; exact ⟨h.1.symm, h.2.symm⟩⟩
        obtain ⟨e1, e2⟩ := HE.out
        subst e1 e2
        clear hx hxf
        go_wp2_with (go_at_call 46; refine (HC.out _).mono ?_; rintro e w2 ⟨rfl, hb2⟩)
        go_ret2
        exact ⟨rfl, bc_then HB.out hb2⟩
    · obtain rfl : k = l.length := by omega
      have e0 : l.take l.length = l := List.take_of_length_le (Nat.le_refl _)
      rw [e0] at HA ⊢
      have HE : Veil (rs = bytesM l ∧ rc = 0) := ⟨by have h := HR.out; unfold bytesR at h; rw [if_pos HA.out] at h; simp only [Prod.mk.injEq] at h; exact ⟨h.1.symm, h.2.symm⟩⟩
      obtain ⟨e1, e2⟩ := HE.out
      subst e1 e2
      clear e0 hbl
      go_wp2
      go_ret2
      exact ⟨rfl, HB.out⟩

theorem own_cap {α : Type} {E : El α} {w : World} {B : Nat} {p : Option Addr} {c : Nat} {L : List α} (h : OwnE E w B (.slice p L.length c) L) : L.length ≤ c := by
  obtain ⟨-, h2⟩ := h
  rcases h2 with ⟨h, h0⟩ | ⟨g, cap, cur, hv, hg, hh, hn, hc, hs, ht⟩
  · rw [h0]; exact Nat.zero_le _
  · simp only [Value.slice.injEq] at hv
    omega
theorem eightsM_len (s : List UInt8) : (eightsM s).length = s.length / 8 := by simp [eightsM]
theorem eightsM_at (s : List UInt8) (k : Nat) (h : k < s.length / 8) : (eightsM s)[k]? = some (eightM s k) := by simp [eightsM, h]
theorem mapM_take (s : List UInt8) (k : Nat) (h : k < s.length / 8) : ((eightsM s).map fun (n : Nat) => (n : Int)).take (k + 1) = ((eightsM s).map fun (n : Nat) => (n : Int)).take k ++ [(eightM s k : Int)] := by
  rw [← List.map_take, ← List.map_take, List.take_succ_eq_append_getElem (by rw [eightsM_len]; exact h), List.map_append]
  congr 1
  have h1 := eightsM_at s k h
  have h2 : k < (eightsM s).length := by rw [eightsM_len]; exact h
  rw [List.getElem?_eq_getElem h2] at h1
  simp [Option.some.inj h1]
theorem allM_take (s : List UInt8) (k : Nat) (h : k < s.length / 8) : ((eightsM s).take (k + 1)).all (fun n => decide (n ≤ 1152921504606846976)) = (((eightsM s).take k).all (fun n => decide (n ≤ 1152921504606846976)) && decide (eightM s k ≤ 1152921504606846976)) := by
  have h2 : k < (eightsM s).length := by rw [eightsM_len]; exact h
  have h1 := eightsM_at s k h
  rw [List.getElem?_eq_getElem h2] at h1
  rw [List.take_succ_eq_append_getElem h2, List.all_append, Option.some.inj h1]
  simp
theorem allM_out (s : List UInt8) (k : Nat) (h : k < s.length / 8) (hf : ¬ eightM s k ≤ 1152921504606846976) : (eightsM s).all (fun n => decide (n ≤ 1152921504606846976)) = false := by
  rw [List.all_eq_false]
  have h2 : k < (eightsM s).length := by rw [eightsM_len]; exact h
  have h1 := eightsM_at s k h
  rw [List.getElem?_eq_getElem h2] at h1
  exact ⟨_, List.getElem_mem h2, by rw [Option.some.inj h1]; simpa using hf⟩

set_option maxRecDepth 20000 in
set_option maxHeartbeats 1000000 in
theorem refparseM_any (s : List UInt8) (hs : s.length ≤ 1000) (w : World) : Calls Tryd.prog 39 #[.string ⟨s.toArray⟩] w (LsPost w (parseR s).1 (parseR s).2) := by
  obtain ⟨r, hr⟩ : ∃ r, parseR s = r := ⟨_, rfl⟩
  have HR : Veil _ := ⟨hr⟩
  rw [hr]
  clear hr
  obtain ⟨rl, rc⟩ := r
  dsimp only
  by_cases h8 : s.length % 8 = 0
  · obtain ⟨m, hm⟩ : ∃ m, s.length = 8 * m := ⟨s.length / 8, by omega⟩
    have h8' : (s.length : Int) % 8 = 0 := by omega
    have HM : Veil (s.length = 8 * m ∧ s.length / 8 = m) := ⟨hm, by omega⟩
    clear hm h8
    go_enter Tryd.func39, Tryd.ntmps39
    go_wp2
    clear h8'
    go_loopw [4, 5] (fun v i wr => ∃ (k j : Nat), i = .int .i64 j ∧ j ≤ s.length ∧ Veil (j = 8 * k ∧ k ≤ m ∧ OwnE elL wr w.heap.size v (((eightsM s).map fun (n : Nat) => (n : Int)).take k) ∧ ((eightsM s).take k).all (fun n => decide (n ≤ 1152921504606846976)) = true ∧ Below w.heap.size w wr)) (fun _ i _ => s.length - (intOf i).toNat)
    case atStart => exact ⟨0, 0, rfl, Nat.zero_le _, ⟨rfl, Nat.zero_le _, OwnE.nil _ _ _, rfl, Below.refl _ _⟩⟩
    case round =>
      obtain ⟨k, j, rfl, hj, hJ⟩ := hrel
      by_cases hlt : j < s.length
      · have hj8 : j + 8 ≤ s.length := by have := hJ.out.1; have := HM.out.1; omega
        have HK : Veil (k < s.length / 8) := ⟨by have := hJ.out.1; have := HM.out; omega⟩
        have HX : Veil _ := ⟨extM s j (j + 8)⟩
        have X : (⟨s.toArray⟩ : ByteArray).extract j (j + 8) = ⟨((s.drop j).take 8).toArray⟩ := by have := HX.out; rwa [show j + 8 - j = 8 by omega] at this
        have HT : Veil _ := ⟨mapM_take s k HK.out⟩
        have HT2 : Veil _ := ⟨allM_take s k HK.out⟩
        have HT3 : Veil _ := ⟨allM_out s k HK.out⟩
        have hseg : eightM s k = getB ((s.drop j).take 8) := by unfold eightM; rw [hJ.out.1]
        have hsl : ((s.drop j).take 8).length ≤ 8 := by simp; omega
        rw [hseg] at HT HT2 HT3
        clear hseg HX
        revert HT3; revert HT2; revert HT; revert hsl; revert X
        generalize (s.drop j).take 8 = g
        intro X hsl HT HT2 HT3
        have HG : Veil _ := ⟨fun w => get_any g (by omega) w⟩
        have hn := getB_lt g
        revert hn; revert HT3; revert HT2; revert HT; revert HG
        generalize getB g = n
        intro HG HT HT2 HT3 hn
        obtain ⟨N, hN⟩ : ∃ N : Int, (n : Int) = N := ⟨_, rfl⟩
        have HN : Veil _ := ⟨hN⟩
        have h0 : 0 ≤ N := by omega
        rw [hN] at HG HT
        by_cases hle : N ≤ 1152921504606846976
        · have hle' : decide (n ≤ 1152921504606846976) = true := decide_eq_true (by omega)
          have HL : Veil _ := ⟨hle'⟩
          have hw : IntKind.i64.wrap N = N := by rw [IntKind.wrap_i64]; omega
          have HLn : Veil ((((eightsM s).map fun (n : Nat) => (n : Int)).take k).length = k) := ⟨by have := hJ.out.2.1; have := HM.out; rw [List.length_take, List.length_map, eightsM_len]; omega⟩
          clear hN hn hle' hsl
          revert HLn; revert HT; revert hJ
          generalize ((eightsM s).map fun (n : Nat) => (n : Int)).take k = L
          intro hJ HT HLn
          go_wp2_with (first
            | (go_at_call 50; refine (HG.out _).mono ?_; rintro e w2 ⟨rfl, rfl⟩)
            | (at_builtin; refine wpList_append_el elL rfl _ _ rfl w.heap.size _ L N rfl (hJ.out.2.2.1.below (below_al (Below.refl _ _) _)) wr.heap.size rfl (heap_alloc_new _ _) (by have := HLn.out; have := hJ.out; omega) (Nat.le_trans hJ.out.2.2.2.2.size (by simp)) ?_; intro v' w9 hown hgrow hfrom))
          refine ⟨⟨k + 1, j + 8, by go_num, by omega, ⟨by have := hJ.out.1; omega, by have := HK.out; have := HM.out; omega, ?_, ?_, ?_⟩⟩, ?_⟩
          · rw [HT.out]; exact hown
          · rw [HT2.out, HL.out, hJ.out.2.2.2.1]; rfl
          · exact ownE_grown (below_al hJ.out.2.2.2.2 _) (Nat.le_refl _) (hJ.out.2.2.1.below (below_al (Below.refl _ _) _)) hgrow
          · simp only [intOf]; omega
        · have hle' : ¬ n ≤ 1152921504606846976 := by omega
          have HE : Veil (rl = [] ∧ rc = 110) := ⟨by have h := HR.out; unfold parseR isM at h; rw [HT3.out hle', Bool.and_false, if_neg (by decide)] at h; simp only [Prod.mk.injEq] at h; exact ⟨h.1.symm, h.2.symm⟩⟩
          obtain ⟨e1, e2⟩ := HE.out
          subst e1 e2
          clear hN hn hle' hsl
          go_wp2_with (go_at_call 50; refine (HG.out _).mono ?_; rintro e w2 ⟨rfl, rfl⟩)
          go_ret2
          exact ⟨none, 0, rfl, Els.nil _ _, Nat.le_refl _, hJ.out.2.2.2.2⟩
      · have HE : Veil (rl = ((eightsM s).map fun (n : Nat) => (n : Int)).take k ∧ rc = 0) := ⟨by
          have hk : k = m := by have := hJ.out; have := HM.out; omega
          have hl : (eightsM s).length = k := by rw [eightsM_len]; have := HM.out; omega
          have ha := hJ.out.2.2.2.1
          rw [List.take_of_length_le (by omega)] at ha
          have h := HR.out
          unfold parseR isM at h
          rw [ha, if_pos (by have := HM.out; simp; omega)] at h
          simp only [Prod.mk.injEq] at h
          rw [List.take_of_length_le (by rw [List.length_map]; omega)]
          exact ⟨h.1.symm, h.2.symm⟩⟩
        obtain ⟨e1, e2⟩ := HE.out
        subst e1 e2
        obtain ⟨-, -, hown, -, hB⟩ := hJ.out
        obtain ⟨p, c, rfl, hE, -⟩ := hown.form
        have HO : Veil _ := ⟨hown⟩
        have HEE : Veil _ := ⟨hE⟩
        have HB : Veil _ := ⟨hB⟩
        clear hown hE hB hJ
        generalize ((eightsM s).map fun (n : Nat) => (n : Int)).take k = L at *
        go_wp2
        go_ret2
        exact ⟨p, c, rfl, HEE.out, own_cap HO.out, HB.out⟩
  · have HE : Veil (rl = [] ∧ rc = 110) := ⟨by have h := HR.out; unfold parseR isM at h; rw [if_neg (by simp [h8])] at h; simp only [Prod.mk.injEq] at h; exact ⟨h.1.symm, h.2.symm⟩⟩
    obtain ⟨e1, e2⟩ := HE.out
    subst e1 e2
    have h8' : ¬ (s.length : Int) % 8 = 0 := by omega
    go_enter Tryd.func39, Tryd.ntmps39
    go_wp2
    go_ret2
    exact ⟨none, 0, rfl, Els.nil _ _, Nat.le_refl _, Below.refl _ _⟩
end Go.Proofs.YtbbfmddechpnjaaDoor
