/- Mail, by the program: Send, Claim. -/
import Derived.Test.YtfjjodkapofgjaaGreatDoorKK0
import Derived.Test.YtfjjodkapofgjaaGreatDoorKK92
import Derived.Test.YtfjjodkapofgjaaGreatDoorKK93
import Derived.Test.YtfjjodkapofgjaaGreatDoorKCZ
import Derived.Test.YtfjjodkapofgjaaGreatDoorKF1
import Derived.Test.YtfjjodkapofgjaaGreatDoorKG
namespace Go.Proofs.YtfjjodkapofgjaaGreatDoor
open Go Go.RowKit Sm
attribute [local go_sem] Oper.semAt_some

theorem takeG_bad (l : List St) (s : St) (h : rightG l = false) : takeG l s = ([], 120) := by unfold takeG; simp [h]
theorem giveG_bad (l : List St) (s : St) (h : rightG l = false) : giveG l s = ([], 120) := by unfold giveG; simp [h]
theorem send_car (a : Ac) (l : List St) (m : Ml) : sendM a l m = if m.n = 0 then carR (rightM m) (spendA a m.money).1 (spendA a m.money).2 (sameA l).1 (sameA l).2 else carR (rightM m) (spendA a m.money).1 (spendA a m.money).2 (takeG l m.st).1 (takeG l m.st).2 := by
  unfold sendM carR sameA
  by_cases h1 : rightM m = true
  · rw [if_pos h1, if_pos h1, if_pos h1]
    by_cases h2 : (spendA a m.money).2 = 0
    · rw [if_pos h2, if_pos h2, if_pos h2]
      by_cases h3 : rightG l = true
      · rw [if_pos h3, if_pos h3]
        by_cases h4 : m.n = 0
        · rw [if_pos h4, if_pos h4]; rfl
        · rw [if_neg h4, if_neg h4]
      · have h3f : rightG l = false := by simpa using h3
        rw [if_neg h3, if_neg h3, takeG_bad l m.st h3f]
        by_cases h4 : m.n = 0
        · rw [if_pos h4]; rfl
        · rw [if_neg h4]; rfl
    · rw [if_neg h2, if_neg h2, if_neg h2]
      split <;> rfl
  · rw [if_neg h1, if_neg h1, if_neg h1]
    split <;> rfl
theorem claim_car (a : Ac) (l : List St) (m : Ml) : claimM a l m = if m.n = 0 then carR (rightM m) (earnA a m.money).1 (earnA a m.money).2 (sameA l).1 (sameA l).2 else carR (rightM m) (earnA a m.money).1 (earnA a m.money).2 (giveG l m.st).1 (giveG l m.st).2 := by
  unfold claimM carR sameA
  by_cases h1 : rightM m = true
  · rw [if_pos h1, if_pos h1, if_pos h1]
    by_cases h2 : (earnA a m.money).2 = 0
    · rw [if_pos h2, if_pos h2, if_pos h2]
      by_cases h3 : rightG l = true
      · rw [if_pos h3, if_pos h3]
        by_cases h4 : m.n = 0
        · rw [if_pos h4, if_pos h4]; rfl
        · rw [if_neg h4, if_neg h4]
      · have h3f : rightG l = false := by simpa using h3
        rw [if_neg h3, if_neg h3, giveG_bad l m.st h3f]
        by_cases h4 : m.n = 0
        · rw [if_pos h4]; rfl
        · rw [if_neg h4]; rfl
    · rw [if_neg h2, if_neg h2, if_neg h2]
      split <;> rfl
  · rw [if_neg h1, if_neg h1, if_neg h1]
    split <;> rfl
/-- The boxes of Send and Claim. -/
theorem SnB.new (w : World) (a : Ac) (p : Option Addr) (n c : Nat) (m : Ml) :
    ClB ((((w.alloc (.cells #[.int .i64 a.w, .int .i64 a.b] 23)).alloc (.cells #[.slice p n c] 24)).alloc (.cells #[.int .u32 m.src, .int .i64 m.money, .int .u16 m.item, .int .i64 m.n] 30)).alloc (.cells #[.int .i64 0, .int .i64 0] 23)) w.heap.size (w.heap.size + 1) (w.heap.size + 2) a p n c m ∧
    ((((w.alloc (.cells #[.int .i64 a.w, .int .i64 a.b] 23)).alloc (.cells #[.slice p n c] 24)).alloc (.cells #[.int .u32 m.src, .int .i64 m.money, .int .u16 m.item, .int .i64 m.n] 30)).alloc (.cells #[.int .i64 0, .int .i64 0] 23)).heap[w.heap.size + 3]? = some (.cells #[.int .i64 0, .int .i64 0] 23 (0, 0)) := by
  refine ⟨⟨?_, ?_, ?_⟩, ?_⟩
  all_goals
    simp only [heap_alloc_if, World.size_alloc]
    repeat (first | rw [if_neg (by omega)] | rw [if_pos (by first | trivial | omega)])

set_option maxRecDepth 20000 in
set_option maxHeartbeats 4000000 in
theorem mlsend_any {w : World} {p : Option Addr} (a : Ac) (ha : a.Ok) (l : List St) (lc : Nat) (m : Ml) (hm : m.Ok) (h : InL elS w p l lc) (hl : l.length ≤ 1000) (hw : GdW l) (hS : MSent w) :
    Calls Tryz.prog 6 #[a.v, .slice p l.length lc, m.v] w (MailPost w (sendM a l m).1 (sendM a l m).2.1 (sendM a l m).2.2) := by
  obtain ⟨hCl, hR0⟩ := SnB.new w a p l.length lc m
  have hT : Below w.heap.size w ((((w.alloc (.cells #[.int .i64 a.w, .int .i64 a.b] 23)).alloc (.cells #[.slice p l.length lc] 24)).alloc (.cells #[.int .u32 m.src, .int .i64 m.money, .int .u16 m.item, .int .i64 m.n] 30)).alloc (.cells #[.int .i64 0, .int .i64 0] 23)) := below_al (below_al (below_al (below_al (Below.refl _ _) _) _) _) _
  have HK : Veil (∀ W0, W0 = ((((w.alloc (.cells #[.int .i64 a.w, .int .i64 a.b] 23)).alloc (.cells #[.slice p l.length lc] 24)).alloc (.cells #[.int .u32 m.src, .int .i64 m.money, .int .u16 m.item, .int .i64 m.n] 30)).alloc (.cells #[.int .i64 0, .int .i64 0] 23)) → Calls Tryz.prog 16 #[.slice p l.length lc, .agg #[.int .u32 m.src, .int .i64 m.money, .int .u16 m.item, .int .i64 m.n], .func (.func 12) #[] #[.pointer (some ⟨w.heap.size, 0, none⟩), .pointer (some ⟨w.heap.size + 2, 0, none⟩)], .func (.func 14) #[] #[.pointer (some ⟨w.heap.size + 1, 0, none⟩), .pointer (some ⟨w.heap.size + 2, 0, none⟩)]] W0 (MailPost W0 (sendM a l m).1 (sendM a l m).2.1 (sendM a l m).2.2)) := ⟨by
    intro W0 hW0
    rw [← hW0] at hCl hT
    have hS0 := hS.below hT
    have hin0 := h.below hT
    have e1 : (spendA a m.money).1 = ⟨(spendA a m.money).1.w, (spendA a m.money).1.b⟩ := rfl
    rw [send_car]
    by_cases hz : m.n = 0
    · rw [if_pos hz]
      exact mlcarried0_any l.length lc m.src m.money m.item m.n hz (rightM m) _ _ _ _ _ (spendA a m.money).1.w (spendA a m.money).1.b (spendA a m.money).2 (sameA l).1 (sameA l).2
        (enters_of Tryz.func12 (by kernel_rfl) rfl) (enters_of Tryz.func14 (by kernel_rfl) rfl)
        (fun W => mlright_any m hm W) (fun W hb => mlspend1_any a ha m hm (hCl.below hb) (hS0.below hb)) (fun W hb hc => mlsame1_any l lc (hin0.below hb) hl hw _ hc)
    · rw [if_neg hz]
      exact mlcarried1_any l.length lc m.src m.money m.item m.n hz (rightM m) _ _ _ _ _ (spendA a m.money).1.w (spendA a m.money).1.b (spendA a m.money).2 (takeG l m.st).1 (takeG l m.st).2
        (enters_of Tryz.func12 (by kernel_rfl) rfl) (enters_of Tryz.func14 (by kernel_rfl) rfl)
        (fun W => mlright_any m hm W) (fun W hb => mlspend1_any a ha m hm (hCl.below hb) (hS0.below hb)) (fun W hb => mltake2_any a l m hm (hin0.below hb) hl hw (hCl.below hb) (hS0.below hb))⟩
  have HR0 : Veil _ := ⟨hR0⟩
  have HT : Veil _ := ⟨hT⟩
  generalize sendM a l m = R at HK ⊢
  obtain ⟨⟨bw, bb⟩, T, c⟩ := R
  obtain ⟨aw, ab⟩ := a
  obtain ⟨f, mo, i, nn⟩ := m
  unfold Ml.v Ac.v at *
  dsimp only at *
  clear hCl hR0 hT ha hm h hw hS
  go_enter Tryz.func6, Tryz.ntmps6
  go_wp2_with (go_at_call 16; refine (HK.out _ rfl).mono ?_; rintro e w4 ⟨v4, rfl, hF4, hb4⟩; dsimp only [Ac.v]; have HF4 : Veil _ := ⟨hF4⟩; have HR : Veil _ := ⟨(hb4.block _ (lt_of_heap HR0.out)).trans HR0.out⟩; have HB : Veil _ := ⟨bc_then HT.out hb4⟩; obtain ⟨p4, c4, ev4, -, -⟩ := hF4.form; subst ev4; clear hb4 hF4; obtain ⟨⟨z0, z1⟩, k0, k1⟩ := pk2 HR.out)
  exact bodyPost_ret (results_acc3 (g := w.heap.size + 3) rfl rfl rfl rfl (st2 HR.out _ _)) rfl ⟨_, rfl, (HF4.out.turned (two_turned _ _ _ _) (fun k hk => by simp only [World.size_alloc]; omega)).base (by simp only [World.size_alloc]; omega), tn2 HB.out (by omega) _ _⟩

set_option maxRecDepth 20000 in
set_option maxHeartbeats 4000000 in
theorem mlclaim_any {w : World} {p : Option Addr} (a : Ac) (ha : a.Ok) (l : List St) (lc : Nat) (m : Ml) (hm : m.Ok) (h : InL elS w p l lc) (hl : l.length ≤ 1000) (hw : GdW l) (hS : MSent w) :
    Calls Tryz.prog 8 #[a.v, .slice p l.length lc, m.v] w (MailPost w (claimM a l m).1 (claimM a l m).2.1 (claimM a l m).2.2) := by
  obtain ⟨hCl, hR0⟩ := SnB.new w a p l.length lc m
  have hT : Below w.heap.size w ((((w.alloc (.cells #[.int .i64 a.w, .int .i64 a.b] 23)).alloc (.cells #[.slice p l.length lc] 24)).alloc (.cells #[.int .u32 m.src, .int .i64 m.money, .int .u16 m.item, .int .i64 m.n] 30)).alloc (.cells #[.int .i64 0, .int .i64 0] 23)) := below_al (below_al (below_al (below_al (Below.refl _ _) _) _) _) _
  have HK : Veil (∀ W0, W0 = ((((w.alloc (.cells #[.int .i64 a.w, .int .i64 a.b] 23)).alloc (.cells #[.slice p l.length lc] 24)).alloc (.cells #[.int .u32 m.src, .int .i64 m.money, .int .u16 m.item, .int .i64 m.n] 30)).alloc (.cells #[.int .i64 0, .int .i64 0] 23)) → Calls Tryz.prog 16 #[.slice p l.length lc, .agg #[.int .u32 m.src, .int .i64 m.money, .int .u16 m.item, .int .i64 m.n], .func (.func 22) #[] #[.pointer (some ⟨w.heap.size, 0, none⟩), .pointer (some ⟨w.heap.size + 2, 0, none⟩)], .func (.func 24) #[] #[.pointer (some ⟨w.heap.size + 1, 0, none⟩), .pointer (some ⟨w.heap.size + 2, 0, none⟩)]] W0 (MailPost W0 (claimM a l m).1 (claimM a l m).2.1 (claimM a l m).2.2)) := ⟨by
    intro W0 hW0
    rw [← hW0] at hCl hT
    have hS0 := hS.below hT
    have hin0 := h.below hT
    have e1 : (earnA a m.money).1 = ⟨(earnA a m.money).1.w, (earnA a m.money).1.b⟩ := rfl
    rw [claim_car]
    by_cases hz : m.n = 0
    · rw [if_pos hz]
      exact mlcarried0_any l.length lc m.src m.money m.item m.n hz (rightM m) _ _ _ _ _ (earnA a m.money).1.w (earnA a m.money).1.b (earnA a m.money).2 (sameA l).1 (sameA l).2
        (enters_of Tryz.func22 (by kernel_rfl) rfl) (enters_of Tryz.func24 (by kernel_rfl) rfl)
        (fun W => mlright_any m hm W) (fun W hb => mlearn1_any a ha m hm (hCl.below hb) (hS0.below hb)) (fun W hb hc => mlsame1_any l lc (hin0.below hb) hl hw _ hc)
    · rw [if_neg hz]
      exact mlcarried1_any l.length lc m.src m.money m.item m.n hz (rightM m) _ _ _ _ _ (earnA a m.money).1.w (earnA a m.money).1.b (earnA a m.money).2 (giveG l m.st).1 (giveG l m.st).2
        (enters_of Tryz.func22 (by kernel_rfl) rfl) (enters_of Tryz.func24 (by kernel_rfl) rfl)
        (fun W => mlright_any m hm W) (fun W hb => mlearn1_any a ha m hm (hCl.below hb) (hS0.below hb)) (fun W hb => mlgive2_any a l m hm (hin0.below hb) hl hw (hCl.below hb) (hS0.below hb))⟩
  have HR0 : Veil _ := ⟨hR0⟩
  have HT : Veil _ := ⟨hT⟩
  generalize claimM a l m = R at HK ⊢
  obtain ⟨⟨bw, bb⟩, T, c⟩ := R
  obtain ⟨aw, ab⟩ := a
  obtain ⟨f, mo, i, nn⟩ := m
  unfold Ml.v Ac.v at *
  dsimp only at *
  clear hCl hR0 hT ha hm h hw hS
  go_enter Tryz.func8, Tryz.ntmps8
  go_wp2_with (go_at_call 16; refine (HK.out _ rfl).mono ?_; rintro e w4 ⟨v4, rfl, hF4, hb4⟩; dsimp only [Ac.v]; have HF4 : Veil _ := ⟨hF4⟩; have HR : Veil _ := ⟨(hb4.block _ (lt_of_heap HR0.out)).trans HR0.out⟩; have HB : Veil _ := ⟨bc_then HT.out hb4⟩; obtain ⟨p4, c4, ev4, -, -⟩ := hF4.form; subst ev4; clear hb4 hF4; obtain ⟨⟨z0, z1⟩, k0, k1⟩ := pk2 HR.out)
  exact bodyPost_ret (results_acc3 (g := w.heap.size + 3) rfl rfl rfl rfl (st2 HR.out _ _)) rfl ⟨_, rfl, (HF4.out.turned (two_turned _ _ _ _) (fun k hk => by simp only [World.size_alloc]; omega)).base (by simp only [World.size_alloc]; omega), tn2 HB.out (by omega) _ _⟩
end Go.Proofs.YtfjjodkapofgjaaGreatDoor

/- The laws on mail: shown, MailBytes, MailSizes. -/
namespace Go.Proofs.YtfjjodkapofgjaaGreatDoor
open Go Go.RowKit Sm
attribute [local go_sem] Oper.semAt_some

theorem inl_of {α : Type} {E : El α} {w : World} {p : Option Addr} {L : List α} {c : Nat} (h : InL E w p L c) : ∀ W, Els E W p L → InL E W p L c := fun _ hE => ⟨hE, h.spot, h.nil0, h.le, h.cap⟩
theorem i64_few {n : Int} (h : 0 ≤ n ∧ n ≤ 1000) : I64 n := by unfold I64; omega
set_option maxRecDepth 20000 in
set_option maxHeartbeats 1000000 in
theorem shown14_any (w : World) (hS : MSent w) : Calls Tryz.prog 4 #[] w fun e w' => e = .returned (.bool true) ∧ Below w.heap.size w w' := by
  have HS : Veil (∀ W p, Below w.heap.size w W → InL elS W p [⟨1, 3⟩] 1 → Calls Tryz.prog 6 #[.agg #[.int .i64 5, .int .i64 0], .slice p 1 1, .agg #[.int .u32 1, .int .i64 2, .int .u16 1, .int .i64 3]] W (MailPost W ⟨3, 0⟩ [] 0)) := ⟨fun W p hb h => by
    have := mlsend_any ⟨5, 0⟩ ⟨i64_few (by decide), i64_few (by decide)⟩ [⟨1, 3⟩] 1 ⟨1, 2, 1, 3⟩ ⟨by decide, i64_few (by decide), by decide, i64_few (by decide)⟩ h (by decide) (by intro s hs; obtain rfl := List.mem_singleton.1 hs; decide) (hS.below hb)
    rwa [show sendM ⟨5, 0⟩ [⟨1, 3⟩] ⟨1, 2, 1, 3⟩ = (⟨3, 0⟩, [], 0) from rfl] at this⟩
  have HP : Veil (∀ W, Calls Tryz.prog 11 #[.string ⟨#[]⟩] W fun e w' => e = .returned (.tuple #[.agg #[.int .u32 0, .int .i64 0, .int .u16 0, .int .i64 0], .int .i64 140]) ∧ Below W.heap.size W w') := ⟨fun W => mlparse_any [] (by decide) W⟩
  clear hS
  go_enter Tryz.func4, Tryz.ntmps4
  go_wp2_with (first
    | (go_at_call 11; refine (HP.out _).mono ?_; rintro e w2 ⟨rfl, hb2⟩; have hA2 := (hb2.block _ (by rw [World.size_alloc]; exact Nat.lt_succ_self _)).trans hA; have hT := bc_then (below_al hT _) hb2; obtain ⟨⟨d0, d1⟩, -⟩ := pk2 hA2; have hAl := lt_of_heap hA2)
    | (go_at_call 6; refine (HS.out _ _ (below_al (Below.refl _ _) _) ⟨els_of_block (E := elS) (L := [⟨1, 3⟩]) (heap_alloc_new _ _) rfl, fun a ha => by cases ha; rfl, fun h => (by cases h), by decide, by decide⟩).mono ?_; rintro e w1 ⟨v, rfl, hF, hb1⟩; obtain ⟨p1, c1, ev, -, -⟩ := hF.form; subst ev; dsimp only [Ac.v, List.length_nil]; have hA := heap_alloc_new w1 (.cells #[.int .i64 3, .int .i64 0] 23); have hT := bc_then (below_al (Below.refl w.heap.size w) _) hb1; clear hb1 hF))
  go_ret
  exact ⟨rfl, below_al hT _⟩

end Go.Proofs.YtfjjodkapofgjaaGreatDoor

/- The laws on mail: MailSizes. -/
namespace Go.Proofs.YtfjjodkapofgjaaGreatDoor
open Go Go.RowKit Sm
attribute [local go_sem] Oper.semAt_some

theorem or_add (A B k : Nat) (hB : B < 2 ^ k) (h1 : A * 2 ^ k < 4294967296) (h2 : B < 4294967296) : bits BinOp.or IntKind.u32 ((A * 2 ^ k : Nat) : Int) (B : Int) = ((A * 2 ^ k + B : Nat) : Int) := by
  rw [u32_or_nat _ _ h1 h2, Nat.mul_comm, Nat.two_pow_add_eq_or_of_lt (i := k) hB]
/-- A number's bytes, shifted and joined. -/
theorem or_four (x : Nat) (hx : x < 4294967296) :
    bits BinOp.or IntKind.u32 ((x / 16777216 * 16777216 : Nat) : Int) ((x / 65536 % 256 * 65536 : Nat) : Int) = ((x / 65536 * 65536 : Nat) : Int) ∧
    bits BinOp.or IntKind.u32 ((x / 65536 * 65536 : Nat) : Int) ((x / 256 % 256 * 256 : Nat) : Int) = ((x / 256 * 256 : Nat) : Int) ∧
    bits BinOp.or IntKind.u32 ((x / 256 * 256 : Nat) : Int) ((x % 256 : Nat) : Int) = ((x : Nat) : Int) := by
  have e24 : (2 : Nat) ^ 24 = 16777216 := rfl
  have e16 : (2 : Nat) ^ 16 = 65536 := rfl
  have e8 : (2 : Nat) ^ 8 = 256 := rfl
  have h1 := or_add (x / 16777216) (x / 65536 % 256 * 65536) 24 (by omega) (by omega) (by omega)
  have h2 := or_add (x / 65536) (x / 256 % 256 * 256) 16 (by omega) (by omega) (by omega)
  have h3 := or_add (x / 256) (x % 256) 8 (by omega) (by omega) (by omega)
  rw [e24] at h1
  rw [e16] at h2
  rw [e8] at h3
  refine ⟨h1.trans ?_, h2.trans ?_, h3.trans ?_⟩ <;> exact congrArg _ (by omega)
theorem index_run (s : List UInt8) (i : Nat) (h : i < s.length) (W : World) : (Instr.index 9 (.string ⟨s.toArray⟩) (.int .i64 (i : Int))).run Tryz.prog W = .ok (.int .u8 (s.getD i 0).toNat) W := by
  rw [run_index_string _ _ _ _ _ Tryz.underlying9]
  have h' : (0 : Int) ≤ (i : Int) ∧ (i : Int) < ((⟨s.toArray⟩ : ByteArray).size : Int) := by simp only [ByteArray.size, List.size_toArray]; omega
  rw [dif_pos h']
  have e : (⟨s.toArray⟩ : ByteArray)[(i : Int).toNat]'(by simpa [ByteArray.size] using h) = s.getD i 0 := by
    simp [List.getD, h]
    rfl
  rw [e]
theorem keyM_get (m : Ml) (i : Nat) (hi : i < 4) : ((keyM m).getD i 0).toNat = m.src / 256 ^ (3 - i) % 256 := by
  have e : (keyM m).getD i 0 = byteAt m.src (3 - i) := by
    unfold keyM
    rw [List.getD_eq_getElem?_getD, List.getElem?_append_left (by simpa using hi)]
    simp [putB, hi]
  rw [e]
  unfold byteAt
  simp [Nat.toUInt8]

theorem key_bytes (m : Ml) (hx : m.src < 4294967296) : ∃ B0 B1 B2 B3 X0 X1 X2 Y1 Y2 : Int,
    ((((keyM m).getD 0 0).toNat : Nat) : Int) = B0 ∧ ((((keyM m).getD 1 0).toNat : Nat) : Int) = B1 ∧ ((((keyM m).getD 2 0).toNat : Nat) : Int) = B2 ∧ ((((keyM m).getD 3 0).toNat : Nat) : Int) = B3 ∧
    B0 * 16777216 = X0 ∧ B1 * 65536 = X1 ∧ B2 * 256 = X2 ∧
    bits BinOp.or IntKind.u32 X0 X1 = Y1 ∧ bits BinOp.or IntKind.u32 Y1 X2 = Y2 ∧ bits BinOp.or IntKind.u32 Y2 B3 = (m.src : Int) ∧
    0 ≤ B0 ∧ B0 < 256 ∧ 0 ≤ B1 ∧ B1 < 256 ∧ 0 ≤ B2 ∧ B2 < 256 ∧ 0 ≤ B3 ∧ B3 < 256 := by
  obtain ⟨o1, o2, o3⟩ := or_four m.src hx
  have g0 := keyM_get m 0 (by decide)
  have g1 := keyM_get m 1 (by decide)
  have g2 := keyM_get m 2 (by decide)
  have g3 := keyM_get m 3 (by decide)
  rw [show (256 : Nat) ^ (3 - 0) = 16777216 from rfl] at g0
  rw [show (256 : Nat) ^ (3 - 1) = 65536 from rfl] at g1
  rw [show (256 : Nat) ^ (3 - 2) = 256 from rfl] at g2
  rw [show (256 : Nat) ^ (3 - 3) = 1 from rfl, Nat.div_one] at g3
  rw [g0, g1, g2, g3]
  have a0 : ((m.src / 16777216 % 256 : Nat) : Int) * 16777216 = ((m.src / 16777216 * 16777216 : Nat) : Int) := by omega
  have a1 : ((m.src / 65536 % 256 : Nat) : Int) * 65536 = ((m.src / 65536 % 256 * 65536 : Nat) : Int) := by omega
  have a2 : ((m.src / 256 % 256 : Nat) : Int) * 256 = ((m.src / 256 % 256 * 256 : Nat) : Int) := by omega
  exact ⟨_, _, _, _, _, _, _, _, _, rfl, rfl, rfl, rfl, a0, a1, a2, o1, o2, o3, by omega, by omega, by omega, by omega, by omega, by omega, by omega, by omega⟩
end Go.Proofs.YtfjjodkapofgjaaGreatDoor

/- The law's cut of goods: the first thirty stacks, in new memory. -/
namespace Go.Proofs.YtfjjodkapofgjaaGreatDoor
open Go Go.RowKit Sm
attribute [local go_sem] Oper.semAt_some

set_option maxRecDepth 20000 in
set_option maxHeartbeats 2000000 in
theorem cutG14_own {w : World} {p : Option Addr} (l : List St) (lc : Nat) (hin : InL elS w p l lc) :
    Calls Tryz.prog 5 #[.slice p l.length lc] w fun e w' => ∃ g, e = .returned (.slice (some ⟨g, 0, none⟩) (l.take 30).length 30) ∧ FreshE elS w.heap.size w' (.slice (some ⟨g, 0, none⟩) (l.take 30).length 30) (l.take 30) ∧ Below w.heap.size w w' := by
  obtain ⟨m, hm⟩ : ∃ m, min l.length 30 = m := ⟨_, rfl⟩
  have hmin : ∀ W, (Builtin.min_ #[3, 3] 3 #[.int .i64 (l.length : Int), .int .i64 30]).run Tryz.prog W = .ok (.int .i64 (m : Int)) W := by rw [← hm]; exact min_two l.length 30
  have hml : m ≤ l.length := by omega
  have hm4 : Veil (m ≤ 30) := ⟨by omega⟩
  have hlt : Veil ((l.take 30).length = m) := ⟨by rw [List.length_take, ← hm, Nat.min_comm]⟩
  have HS : Veil _ := ⟨hin.els.take 30⟩
  have hle := hin.le
  have hcap := hin.cap
  have hform := hin.form
  generalize l.take 30 = T at HS hlt ⊢
  clear hm hin
  obtain ⟨i0, hi0, hz0, hz1, hz2⟩ := info_parts elS.info
  have HI : Veil (Tryz.prog.info? 28 = some i0 ∧ i0.zero = some (.agg #[.int .u16 0, .int .i64 0]) ∧ i0.size = 2 ∧ i0.bytes = 16) := ⟨hi0, hz0, hz1, hz2⟩
  clear hi0 hz0 hz1 hz2
  have hsl : ∀ W, (Instr.slice 24 (.slice p l.length lc) none (some (.int .i64 (m : Int))) none).run Tryz.prog W = .ok (.slice p m lc) W := by
    intro W
    rcases hform with ⟨rfl, rfl, rfl⟩ | ⟨b, o, rfl⟩
    · obtain rfl : m = 0 := by simpa using hml
      go_simp
    · have hmc : m ≤ lc := by omega
      go_simp
  have hnone : p = none → lc = 0 := by
    intro h
    rcases hform with ⟨_, _, h3⟩ | ⟨b, o, h1⟩
    · exact h3
    · rw [h] at h1; cases h1
  clear hform
  go_enter Tryz.func5, Tryz.ntmps5
  go_wp2
  obtain ⟨W5, hW5⟩ : ∃ W5, w.drew = W5 := ⟨_, rfl⟩
  have HX5 : Veil (Below w.heap.size w W5) := ⟨by rw [← hW5]; exact (Below.refl _ _).drew⟩
  refine region_plan 6 [(true, 1), (true, 2), (true, 3), (true, 4), (true, 5), (false, 0)] (by kernel_rfl) (by kernel_rfl) (fun _ => True) W5 hW5 trivial ?_
  clear hW5
  simp only [planOps, List.filterMap_cons, List.filterMap_nil, List.getElem?_toArray, List.getElem?_cons_zero, List.getElem?_cons_succ, Option.map_some]
  iterate 4 (refine plan_quiet rfl ?_ ?_ (fun K hK => ?_); rotate_left; (rintro w' s0; go_simp; rfl); (go_simp; refine hK _ ?_; clear hK K))
  refine plan_quiet rfl (.slice p m lc) (fun w' _ => ?_) (fun K hK => ?_)
  · go_simp
  go_simp
  refine hK _ ?_
  clear hK K
  refine plan_change (fun K hK => ?_)
  refine wpList_make_own W5 rfl (.const (.int .i64 0)) (.const (.int .i64 30)) 24 rfl W5.heap.size 28 i0 _ 2 Tryz.underlying24 HI.out.1 HI.out.2.1 HI.out.2.2.1 .i64 .i64 30 30 rfl rfl rfl (by rw [HI.out.2.2.2]; decide) (by unfold maxLen; decide) (Nat.le_refl _) ?_
  intro w6 hown6 hgrow6
  have hT6 : Turned (fun _ => False) W5 w6 := Turned.grown hgrow6 (fun k hk => by cases hk)
  refine wpList_nil ?_
  refine hK _ _ trivial ?_
  clear hK K
  refine wpPlan_nil ?_
  simp only [List.drop_succ_cons, List.drop_zero]
  have HX6 : Veil (Below w.heap.size w w6) := ⟨HX5.out.trans (hT6.toBelow HX5.out.size (fun _ _ h => h.elim))⟩
  have HS6 : Veil _ := ⟨((HS.out.below HX6.out).news)⟩
  have HO6 : Veil _ := ⟨hown6⟩
  have HZ : Veil (w.heap.size ≤ W5.heap.size) := ⟨HX5.out.size⟩
  clear hown6 hgrow6 hT6 hmin hsl
  obtain ⟨G, hG⟩ : ∃ G, W5.heap.size = G := ⟨_, rfl⟩
  rw [hG] at HO6 HZ ⊢
  clear hG HX5
  go_wp2_with (refine wpList_append_fits_any w6 rfl (.tmp 3) (.tmp 8) 24 rfl G 28 i0 2 Tryz.underlying24 HI.out.1 HI.out.2.2.1 G 0 30 [] rfl HO6.out p m lc (elCells elS T) rfl (by rw [elCells_len, hlt.out]; rfl) (fun e => ⟨by have := hnone e; omega, hnone e⟩) HS6.out (elCells_one elS T) (by have := hm4.out; omega) ?_; intro w7 hown7 hgrow7)
  refine only_normal ?_
  have HX7 : Veil (Below w.heap.size w w7) := ⟨HX6.out.trans ((Turned.grown (F := (· = G)) hgrow7 (fun k hk _ => (Option.some.inj hk).symm)).toBelow HX6.out.size (fun j _ e => by have := HZ.out; omega))⟩
  have HO7 : Veil (OwnE elS w7 G (.slice (some ⟨G, 0, none⟩) m 30) T) := ⟨by unfold OwnE; rw [hlt.out]; have h7 := hown7; simp only [Nat.zero_add, List.nil_append] at h7; exact h7⟩
  clear hown7 hgrow7
  go_wp2
  go_ret
  exact ⟨G, by rw [hlt.out]; rfl, by rw [hlt.out]; exact HO7.out.fresh HZ.out, HX7.out⟩
theorem cutG14_any {w : World} {p : Option Addr} (l : List St) (lc : Nat) (hin : InL elS w p l lc) :
    Calls Tryz.prog 5 #[.slice p l.length lc] w (FreshPost elS w (l.take 30)) :=
  (cutG14_own l lc hin).mono fun _ _ ⟨_, h1, h2, h3⟩ => ⟨_, h1, h2, h3⟩
end Go.Proofs.YtfjjodkapofgjaaGreatDoor
