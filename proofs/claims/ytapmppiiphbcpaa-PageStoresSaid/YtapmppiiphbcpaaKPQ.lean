/- What is written is read, of each page that was written last: reckoning. -/
import Derived.Test.YtapmppiiphbcpaaKPO
import Derived.Test.YtapmppiiphbcpaaKPN
namespace Go.Proofs.Ytapmppiiphbcpaa
open Go Go.RowKit Sm

theorem secB_full (E : List UInt8) (hE : E.length = 256) (k : Nat) (hk : k < 4) : (secB E k).length = 64 := by simp [secB]; omega
theorem secB_all (E : List UInt8) (hE : E.length = 256) : secB E 0 ++ (secB E 1 ++ (secB E 2 ++ secB E 3)) = E := by
  unfold secB
  have h3 : (E.drop (3 * 64)).take 64 = E.drop (3 * 64) := List.take_of_length_le (by rw [List.length_drop]; omega)
  have e : ∀ k, (E.drop (k * 64)).take 64 ++ E.drop ((k + 1) * 64) = E.drop (k * 64) := fun k => by
    have := List.take_append_drop 64 (E.drop (k * 64))
    rwa [List.drop_drop, show k * 64 + 64 = (k + 1) * 64 by omega] at this
  rw [h3, show (3 : Nat) * 64 = (2 + 1) * 64 from rfl, e 2, show (2 : Nat) * 64 = (1 + 1) * 64 from rfl, e 1, show (1 : Nat) * 64 = (0 + 1) * 64 from rfl, e 0]
  simp
theorem pad64 (s : List UInt8) (h : s.length = 64) : pad s = s := by simp [pad, h]
theorem wrs_seen (D : Dk) (id : Nat) (E : List UInt8) (hE : E.length = 256) (hin : id * 4 + 3 < D.kept.length) (hs : D.seen.length = D.kept.length) :
    ∀ n, n ≤ 4 → (wrs D id E n).seen.length = D.kept.length ∧ ∀ s, (wrs D id E n).seen.getD s [] = if id * 4 ≤ s ∧ s < id * 4 + n then secB E (s - id * 4) else D.seen.getD s []
  | 0, _ => ⟨hs, fun s => by rw [if_neg (by omega)]; rfl⟩
  | n + 1, hn => by
    obtain ⟨h1, h2⟩ := wrs_seen D id E hE hin hs n (by omega)
    have hl := secB_full E hE n (by omega)
    have hw : wrs D id E (n + 1) = (wrs D id E n).write (id * 4 + n) (secB E n) := by
      rw [wrs, Dk.wr, wrs_kept, if_pos (by omega), Int.toNat_natCast]
    rw [hw]
    show ((wrs D id E n).seen.set (id * 4 + n) (pad (secB E n))).length = _ ∧ ∀ s, ((wrs D id E n).seen.set (id * 4 + n) (pad (secB E n))).getD s [] = _
    rw [pad64 _ hl]
    refine ⟨by rw [List.length_set]; exact h1, fun s => ?_⟩
    by_cases e : s = id * 4 + n
    · subst e
      simp only [List.getD]
      rw [List.getElem?_set_self (by omega), if_pos (by omega), show id * 4 + n - id * 4 = n by omega]
      rfl
    · have h3 := h2 s
      simp only [List.getD] at h3 ⊢
      rw [List.getElem?_set_ne (fun h => e h.symm), h3]
      by_cases c : id * 4 ≤ s ∧ s < id * 4 + n
      · rw [if_pos c, if_pos (by omega)]
      · rw [if_neg c, if_neg (by omega)]
theorem accL_four (D : Dk) (id : Nat) : accL D id 4 = D.seen.getD (id * 4 + 0) [] ++ (D.seen.getD (id * 4 + 1) [] ++ (D.seen.getD (id * 4 + 2) [] ++ D.seen.getD (id * 4 + 3) [])) := by
  simp [accL, List.range_succ]
theorem accL_same (D : Dk) (id : Nat) (E : List UInt8) (hE : E.length = 256) (hin : id * 4 + 3 < D.kept.length) (hs : D.seen.length = D.kept.length) : accL (wrs D id E 4) id 4 = E := by
  obtain ⟨-, h⟩ := wrs_seen D id E hE hin hs 4 (by decide)
  rw [accL_four, h, h, h, h, if_pos (by omega), if_pos (by omega), if_pos (by omega), if_pos (by omega), show id * 4 + 0 - id * 4 = 0 by omega, show id * 4 + 1 - id * 4 = 1 by omega, show id * 4 + 2 - id * 4 = 2 by omega, show id * 4 + 3 - id * 4 = 3 by omega]
  exact secB_all E hE
theorem accL_other (D : Dk) (id : Nat) (E : List UInt8) (hE : E.length = 256) (hin : id * 4 + 3 < D.kept.length) (hs : D.seen.length = D.kept.length) (j : Nat) (hj : j ≠ id) : accL (wrs D id E 4) j 4 = accL D j 4 := by
  obtain ⟨-, h⟩ := wrs_seen D id E hE hin hs 4 (by decide)
  rw [accL_four, accL_four, h, h, h, h, if_neg (by omega), if_neg (by omega), if_neg (by omega), if_neg (by omega)]

/-- What the law holds of each page: none was written, or this one last. -/
structure PgKeep (D : Dk) (Ws : List Pg) : Prop where
  len : Ws.length = 10
  disk : D.kept.length = 40
  at' : ∀ k, 2 ≤ k → k < 10 → (Ws.getD k Pg.zero = Pg.zero ∧ rdV D k = .tuple #[.agg #[.int .i64 0, .int .u32 0, .int .u64 0, .string ⟨#[]⟩], .int .i64 30]) ∨ (1 ≤ (Ws.getD k Pg.zero).tx ∧ rdV D k = .tuple #[(Ws.getD k Pg.zero).v, .int .i64 0])
theorem pgKeep_new : PgKeep (Dk.new 40) (List.replicate 10 Pg.zero) :=
  ⟨by simp, by simp [Dk.new], fun k _ hk => .inl ⟨by simp only [List.getD]; rw [List.getElem?_replicate, if_pos hk]; rfl, rdV_new 40 k (by omega)⟩⟩
theorem rdV_congr {D D' : Dk} (h : D.kept.length = D'.kept.length) {k : Nat} (ha : accL D k 4 = accL D' k 4) : rdV D k = rdV D' k := by
  unfold rdV rdOk loadOk
  rw [h, ha]
theorem PgKeep.write {D : Dk} {Ws : List Pg} (h : PgKeep D Ws) (hs : D.seen.length = D.kept.length) (p : Pg) (hp : p.Ok) (hr : p.right = true) (h2 : 2 ≤ p.id) (h10 : p.id < 10) : PgKeep (wrs D p.id p.enc 4) (Ws.set p.id p) ∧ wrCode D p.id = 0 := by
  have hk := h.disk
  have hE : p.enc.length = 256 := p.enc_len (p.right_iff.1 hr).2.2.2.2.2
  have hin : p.id * 4 + 3 < D.kept.length := by omega
  have hkk : (wrs D p.id p.enc 4).kept.length = D.kept.length := by rw [wrs_kept]
  refine ⟨⟨by rw [List.length_set]; exact h.len, by rw [hkk]; exact hk, fun k hk2 hk10 => ?_⟩, by rw [wrCode, show loadOk D p.id = true by simp [loadOk, hin]]; rfl⟩
  by_cases e : k = p.id
  · subst e
    right
    have hg : (Ws.set p.id p).getD p.id Pg.zero = p := by
      simp only [List.getD]
      rw [List.getElem?_set_self (by rw [h.len]; omega)]
      rfl
    rw [hg]
    refine ⟨(p.right_iff.1 hr).2.2.2.2.1, ?_⟩
    have hb := p.back hp hr
    unfold rdV
    rw [if_pos]
    · rw [accL_same D p.id p.enc hE hin hs, hb.2]
    · unfold rdOk
      rw [accL_same D p.id p.enc hE hin hs, hb.1, hb.2]
      simp [loadOk, hkk, hin]
  · have hg : (Ws.set p.id p).getD k Pg.zero = Ws.getD k Pg.zero := by
      simp only [List.getD]
      rw [List.getElem?_set_ne (fun h => e h.symm)]
    rw [hg, rdV_congr hkk (accL_other D p.id p.enc hE hin hs k e)]
    exact h.at' k hk2 hk10
end Go.Proofs.Ytapmppiiphbcpaa
