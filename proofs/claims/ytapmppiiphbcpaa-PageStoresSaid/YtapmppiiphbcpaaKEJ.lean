/- Both disks, act by act: what the law DiskDoes does. -/
import Derived.Deep.RegionHeld3
import Derived.Test.YtapmppiiphbcpaaKEC
import Derived.Test.YtapmppiiphbcpaaKF1
namespace Go.Proofs.Ytapmppiiphbcpaa
open Go Go.RowKit Sm
attribute [local go_sem] Oper.semAt_some

def crD (D : Dk) (zs : List Int) : Dk := if zs.length ≤ D.uns.length ∧ allIn 0 64 zs = true then D.crash zs else D
def crC (D : Dk) (zs : List Int) : Int := if zs.length ≤ D.uns.length ∧ allIn 0 64 zs = true then 0 else 2
theorem allIn_iff (zs : List Int) : allIn 0 64 zs = true ↔ ∀ z ∈ zs, 0 ≤ z ∧ z ≤ 64 := by simp [allIn]
theorem crD_facts {D : Dk} (zs : List Int) (hi : D.Inv) : (crD D zs).kept.length = D.kept.length ∧ (crD D zs).uns.length ≤ D.uns.length ∧ (crD D zs).ops ≤ D.ops ∧ (crD D zs).Inv := by
  unfold crD
  split
  · rename_i h
    refine ⟨?_, Nat.zero_le _, Nat.le_refl _, hi.crash zs ((allIn_iff zs).1 h.2)⟩
    show (crashKept D zs).length = _
    unfold crashKept
    rw [length_keepAll]
  · exact ⟨rfl, Nat.le_refl _, Nat.le_refl _, hi⟩

section
variable {w A A' : World} {d kb sb r : Nat} {P : Nat → Prop} {D R : Dk}
/-- A call of the program's disk, which lies behind the start. -/
theorem both_real2 {f : FuncId} {args : Array Value} {D' : Dk} {ans : Value} (h : Both w d kb sb r P D R A) (hc : ∀ v, DiskAt A d kb sb v D → From w.heap.size d kb sb v → Calls Try.prog f args A (DiskPost A d kb sb v D' ans)) :
    Calls Try.prog f args A fun e w' => e = .returned ans ∧ Both w d kb sb r P D' R w' ∧ ∀ k, P k → w'.heap[k]? = A.heap[k]? := by
  obtain ⟨v, vs, vw, vb, h1, h2, h3, h4, h5, h6, h7⟩ := h
  refine (hc v h1 h3).mono ?_
  rintro e w' ⟨he, v', hD', hT, hv⟩
  have hfoot : ∀ k, Foot d kb sb v' k → Foot d kb sb v k ∨ A.heap.size ≤ k := by
    rintro k (hf | hf | hf | hf)
    · exact .inl (.inl hf)
    · exact .inl (.inr (.inl hf))
    · exact .inl (.inr (.inr (.inl hf)))
    · rcases hv with e | e
      · exact .inl (.inr (.inr (.inr (by rw [← e]; exact hf))))
      · exact .inr (e k hf)
  refine ⟨he, ⟨v', vs, vw, vb, hD', h2.kept' hT (fun k hk => h5 k hk), h3.next h6.size hv, h4, fun k hk => ?_, h3.below h6 (Nat.le_refl _) hT, fun k hk => ⟨Nat.lt_of_lt_of_le (h7 k hk).1 hT.size, fun hf => ?_, (h7 k hk).2.2⟩⟩, fun k hk => hT.block k (h7 k hk).1 (h7 k hk).2.1⟩
  · rcases hfoot k hk with h | h
    · exact h5 k h
    · exact fun hr => by have := h2.rlt hr; omega
  · rcases hfoot k hf with h | h
    · exact (h7 k hk).2.1 h
    · have := (h7 k hk).1; omega
/-- A call of the plain disk, which lies behind the start. -/
theorem both_ref2 {f : FuncId} {args : Array Value} {R' : Dk} {ans : Value} (h : Both w d kb sb r P D R A) (hc : ∀ vs vw vb, RefAt A r vs vw vb R → (∀ k, RFoot r vs vw vb k → w.heap.size ≤ k) → Calls Try.prog f args A fun e w' => RefPost A r vs vw vb R' e ans w') :
    Calls Try.prog f args A fun e w' => e = .returned ans ∧ Both w d kb sb r P D R' w' ∧ ∀ k, P k → w'.heap[k]? = A.heap[k]? := by
  obtain ⟨v, vs, vw, vb, h1, h2, h3, h4, h5, h6, h7⟩ := h
  refine (hc vs vw vb h2 h4).mono ?_
  rintro e w' ⟨he, vw', vb', hR', hT, hu, hb⟩
  have hfoot : ∀ k, RFoot r vs vw' vb' k → RFoot r vs vw vb k ∨ A.heap.size ≤ k := by
    rintro k (hf | hf | hf | hf)
    · exact .inl (.inl hf)
    · exact .inl (.inr (.inl hf))
    · rcases hu k hf with h | h
      · exact .inl (.inr (.inr (.inl h)))
      · exact .inr h
    · rcases hb k hf with h | h
      · exact .inl (.inr (.inr (.inr h)))
      · exact .inr h
  refine ⟨he, ⟨v, vs, vw', vb', h1.kept' hT (fun k hk hf => h5 k hf hk), hR', h3, fun k hk => ?_, fun k hk hr => ?_, h6.trans (hT.toBelow h6.size (fun k _ hk => h4 k hk)), fun k hk => ⟨Nat.lt_of_lt_of_le (h7 k hk).1 hT.size, (h7 k hk).2.1, fun hf => ?_⟩⟩, fun k hk => hT.block k (h7 k hk).1 (h7 k hk).2.2⟩
  · rcases hfoot k hk with h | h
    · exact h4 k h
    · have := h6.size; omega
  · rcases hfoot k hr with h | h
    · exact h5 k hk h
    · have := h1.flt hk; omega
  · rcases hfoot k hf with h | h
    · exact (h7 k hk).2.2 h
    · have := (h7 k hk).1; omega

theorem d_write (h : Both w d kb sb r P D R A) (i : Int) (s : List UInt8) (hu : D.uns.length < 1000000000000) (ho : D.ops < 1000000000000000) :
    Calls Try.prog 43 #[.pointer (some ⟨d, 0, none⟩), .int .i64 i, .string ⟨s.toArray⟩] A fun e w' => e = .returned (.int .i64 (D.wrc i s)) ∧ Both w d kb sb r P (D.wr i s) R w' ∧ ∀ k, P k → w'.heap[k]? = A.heap[k]? :=
  both_real h fun _ hD => wr_any hD i s hu ho
theorem d_rwrite (h : Both w d kb sb r P D R A) (i : Int) (s : List UInt8) (hu : R.uns.length ≤ 1000000) (ho : R.ops ≤ 1000000) :
    Calls Try.prog 49 #[.pointer (some ⟨r, 0, none⟩), .int .i64 i, .string ⟨s.toArray⟩] A fun e w' => e = .returned (.int .i64 (R.wrc i s)) ∧ Both w d kb sb r P D (R.wr i s) w' ∧ ∀ k, P k → w'.heap[k]? = A.heap[k]? :=
  both_ref h fun _ _ _ hR => rwr_any hR i s hu ho
theorem d_sync (h : Both w d kb sb r P D R A) (ho : D.ops < 1000000000000000) :
    Calls Try.prog 44 #[.pointer (some ⟨d, 0, none⟩)] A fun e w' => e = .returned (.int .i64 0) ∧ Both w d kb sb r P D.sync R w' ∧ ∀ k, P k → w'.heap[k]? = A.heap[k]? :=
  both_real h fun _ hD => sync_any hD ho
theorem d_rsync (h : Both w d kb sb r P D R A) (hi : R.Inv) (h0 : 0 < R.kept.length) (hu : R.uns.length ≤ 1000000) (ho : R.ops ≤ 1000000) :
    Calls Try.prog 50 #[.pointer (some ⟨r, 0, none⟩)] A fun e w' => e = .returned (.tuple #[]) ∧ Both w d kb sb r P D R.sync w' ∧ ∀ k, P k → w'.heap[k]? = A.heap[k]? :=
  both_ref h fun _ _ _ hR => rsync_any hR hi h0 ⟨hu⟩ ⟨ho⟩
theorem d_crash (h : Both w d kb sb r P D R A) (p : Option Addr) (zs : List Int) (cap : Nat) (hz : Ints w p zs) (hb : zs ≠ [] → ∀ a, p = some a → a.block < w.heap.size) (hl : zs.length ≤ 9223372036854775807) :
    Calls Try.prog 45 #[.pointer (some ⟨d, 0, none⟩), .slice p zs.length cap] A fun e w' => e = .returned (.int .i64 (crC D zs)) ∧ Both w d kb sb r P (crD D zs) R w' ∧ ∀ k, P k → w'.heap[k]? = A.heap[k]? := by
  have hin := h.in
  have hz' : Ints A p zs := fun hne => by
    obtain ⟨b, off, hp, hc⟩ := hz hne
    exact ⟨b, off, hp, fun i hi => (World.cell?_of_block (hin.block b (hb hne _ hp))).trans (hc i hi)⟩
  refine both_real2 h fun v hD hF => ?_
  have hap : zs ≠ [] → Apart A d kb sb v p := fun hne b off hp => by
    have hlt := hb hne _ hp
    simp only at hlt
    exact ⟨Nat.lt_of_lt_of_le hlt hin.size, fun hf => by have := hF _ hf; omega⟩
  unfold crC crD
  by_cases h1 : zs.length ≤ D.uns.length
  · cases h2 : allIn 0 64 zs
    · rw [if_neg (by simp), if_neg (by simp)]
      exact (crash_wrong' hD p zs cap h1 hz' hap h2).mono fun e w' hp => DiskPost.same hD hp
    · rw [if_pos ⟨h1, rfl⟩, if_pos ⟨h1, rfl⟩]
      exact crash_any' hD p zs cap h1 hz' hap h2
  · rw [if_neg (fun h => h1 h.1), if_neg (fun h => h1 h.1)]
    exact (crash_more hD p zs cap hl (by omega)).mono fun e w' hp => DiskPost.same hD hp
theorem d_rcrash (h : Both w d kb sb r P D R A) (hi : R.Inv) (h0 : 0 < R.kept.length) (hu : R.uns.length ≤ 1000000) (p : Option Addr) (zs : List Int) (cap : Nat) (hz : Ints w p zs) (hb : zs ≠ [] → ∀ a, p = some a → a.block < w.heap.size) (hl : zs.length ≤ 9223372036854775807) :
    Calls Try.prog 52 #[.pointer (some ⟨r, 0, none⟩), .slice p zs.length cap] A fun e w' => e = .returned (.int .i64 (crC R zs)) ∧ Both w d kb sb r P D (crD R zs) w' ∧ ∀ k, P k → w'.heap[k]? = A.heap[k]? := by
  have hin := h.in
  have hz' : Ints A p zs := fun hne => by
    obtain ⟨b, off, hp, hc⟩ := hz hne
    exact ⟨b, off, hp, fun i hi => (World.cell?_of_block (hin.block b (hb hne _ hp))).trans (hc i hi)⟩
  refine both_ref2 h fun vs vw vb hR hF => ?_
  unfold crC crD
  by_cases h1 : zs.length ≤ R.uns.length
  · cases h2 : allIn 0 64 zs
    · rw [if_neg (by simp), if_neg (by simp)]
      exact (rcrash_wrong hR p zs cap h1 hu hz' h2).mono fun e w' hp => RefPost.same hR hp.1 (hp.2 ▸ Below.refl _ _)
    · rw [if_pos ⟨h1, rfl⟩, if_pos ⟨h1, rfl⟩]
      exact rcrash_any' hR hi h0 p zs cap h1 ⟨hu⟩ hz' (fun hne b off hp => by
        have hlt := hb hne _ hp
        simp only at hlt
        exact ⟨Nat.lt_of_lt_of_le hlt hin.size, fun hf => by have := hF _ hf; omega⟩) h2
  · rw [if_neg (fun h => h1 h.1), if_neg (fun h => h1 h.1)]
    exact (rcrash_more hR p zs cap hl (by omega)).mono fun e w' hp => RefPost.same hR hp.1 (hp.2 ▸ Below.refl _ _)
theorem d_read (h : Both w d kb sb r P D R A) (x : Int) : Calls Try.prog 21 #[.pointer (some ⟨d, 0, none⟩), .int .i64 x] A fun e w' => e = .returned (readR D x) ∧ Both w d kb sb r P D R w' ∧ Below A.heap.size A w' := by
  have h' := h
  obtain ⟨v, vs, vw, vb, h1, -⟩ := h
  unfold readR
  by_cases hx : 0 ≤ x ∧ x < D.kept.length
  · rw [if_pos hx]
    have hl : x.toNat < D.seen.length := by rw [h1.ok.len]; omega
    have := read_any h1 x.toNat (D.seen.getD x.toNat []) (by simp [List.getD, hl])
    rw [Int.toNat_of_nonneg hx.1] at this
    exact this.mono fun e w' ⟨he, hb⟩ => ⟨he, h'.below hb, hb⟩
  · rw [if_neg hx]
    exact (read_bad h1 x (by omega)).mono fun e w' ⟨he, hb⟩ => ⟨he, h'.below hb, hb⟩
theorem d_rread (h : Both w d kb sb r P D R A) (hi : R.Inv) (hu : R.uns.length ≤ 1000000) (x : Int) : Calls Try.prog 22 #[.pointer (some ⟨r, 0, none⟩), .int .i64 x] A fun e w' => e = .returned (readR R x) ∧ A = w' := by
  obtain ⟨v, vs, vw, vb, -, h2, -⟩ := h
  exact rread_any h2 hi x hu
end
/-- Both disks, and one block of the call's own. -/
def BothG (w : World) (d kb sb r g : Nat) (c : Array Value) (T : TypeId) (D R : Dk) (W : World) : Prop := Both w d kb sb r (· = g) D R W ∧ W.heap[g]? = some (.cells c T (0, 0))
section
variable {w W W' : World} {d kb sb r g : Nat} {c : Array Value} {T : TypeId} {D R : Dk}
theorem BothG.below (h : BothG w d kb sb r g c T D R W) (hb : Below W.heap.size W W') : BothG w d kb sb r g c T D R W' := ⟨h.1.below hb, (hb.block g (lt_of_heap h.2)).trans h.2⟩
theorem BothG.after {f : FuncId} {args : Array Value} {D' R' : Dk} {ans : Value} (h : BothG w d kb sb r g c T D R W) (hc : Calls Try.prog f args W fun e w' => e = .returned ans ∧ Both w d kb sb r (· = g) D' R' w' ∧ ∀ k, k = g → w'.heap[k]? = W.heap[k]?) :
    Calls Try.prog f args W fun e w' => e = .returned ans ∧ BothG w d kb sb r g c T D' R' w' := hc.mono fun _ _ ⟨h1, h2, h3⟩ => ⟨h1, h2, (h3 g rfl).trans h.2⟩
theorem BothG.new {W0 : World} (h : Both w d kb sb r (fun _ => False) D R W0) : BothG w d kb sb r W0.heap.size c T D R (W0.alloc (.cells c T)) := ⟨(h.add _).less fun _ hk => .inr hk, heap_alloc_new _ _⟩
theorem BothG.done (h : BothG w d kb sb r g c T D R W) : Both w d kb sb r (fun _ => False) D R W := h.1.less fun _ h => h.elim
end
theorem readR_form (D : Dk) (x : Int) : ∃ (B : List UInt8) (C : Int), readR D x = .tuple #[.string ⟨B.toArray⟩, .int .i64 C] := by
  unfold readR
  split
  · exact ⟨_, _, rfl⟩
  · exact ⟨[], _, rfl⟩
theorem mod6 (t : Int) : ∃ m : Nat, (IntKind.u64.wrap t).tmod 6 = (m : Int) ∧ m < 6 := by
  have h0 : 0 ≤ IntKind.u64.wrap t := by rw [IntKind.wrap_u64]; omega
  generalize IntKind.u64.wrap t = u at *
  have h1 : u.tmod 6 = u % 6 := Int.tmod_eq_emod_of_nonneg h0
  exact ⟨(u % 6).toNat, by rw [h1]; omega, by omega⟩

/-- What an act comes to. -/
def DidPost (w : World) (d kb sb r : Nat) (D : Dk) (e : Ending) (w' : World) : Prop := e = .returned (.bool true) ∧ ∃ D', Both w d kb sb r (fun _ => False) D' D' w' ∧ D'.kept.length = D.kept.length ∧ D'.uns.length ≤ D.uns.length + 1 ∧ D'.ops ≤ D.ops + 1 ∧ D'.Inv

theorem cutK_any (p : Option Addr) (n cap : Nat) (w : World) (h : n ≤ cap) (_ : cap ≤ 9223372036854775807) : Calls Try.prog 51 #[.slice p n cap] w fun e w' => e = .returned (.slice p (min n 80) cap) ∧ w = w' := by
  go_enter Try.func51, Try.ntmps51
  go_wp2
  all_goals
    go_ret
    exact ⟨congrArg (fun x => Ending.returned (Value.slice p x cap)) (by omega), rfl⟩

set_option maxRecDepth 20000 in
set_option maxHeartbeats 4000000 in
theorem did_any {w W0 : World} {d kb sb r : Nat} {D : Dk} (h : Both w d kb sb r (fun _ => False) D D W0) (hi : D.Inv) (h0 : 0 < D.kept.length) (hu : D.uns.length ≤ 1000) (ho : D.ops ≤ 1000) (x : A) (zs : List Int) (hs : x.s.size ≤ 9223372036854775807)
    (hz : Ints w x.kp zs) (hzl : zs.length = x.kn) (hkc : x.kn ≤ x.kc) (hkm : x.kc ≤ 9223372036854775807) (hkb : zs ≠ [] → ∀ a, x.kp = some a → a.block < w.heap.size) :
    Calls Try.prog 16 #[.pointer (some ⟨d, 0, none⟩), .pointer (some ⟨r, 0, none⟩), .agg #[.int .i64 x.act, .int .i64 x.sec, .string x.s, .slice x.kp x.kn x.kc]] W0 (DidPost w d kb sb r D) := by
  obtain ⟨m, hm, hm6⟩ := mod6 x.act
  have HM1 : ∀ (c : Array Value) (T : TypeId), BothG w d kb sb r W0.heap.size c T D D (W0.alloc (.cells c T)) := fun c T => BothG.new h
  have hc6 : m = 0 ∨ m = 1 ∨ m = 2 ∨ m = 3 ∨ m = 4 ∨ m = 5 := by omega
  have hwr : m < 3 ∨ 3 ≤ m := by omega
  rcases hwr with hm3 | hm3
  · obtain ⟨t, ht⟩ : ∃ t, x.s.data.toList.take 70 = t := ⟨_, rfl⟩
    have HT : Veil (∀ W, Calls Try.prog 48 #[.string x.s] W fun e w' => e = .returned (.string ⟨t.toArray⟩) ∧ W = w') := ⟨fun W => by have := text_any x.s W hs; rwa [ht] at this⟩
    have HWd : Veil (∀ c T W, BothG w d kb sb r W0.heap.size c T D D W → Calls Try.prog 43 #[.pointer (some ⟨d, 0, none⟩), .int .i64 x.sec, .string ⟨t.toArray⟩] W fun e w' => e = .returned (.int .i64 (D.wrc x.sec t)) ∧ BothG w d kb sb r W0.heap.size c T (D.wr x.sec t) D w') := ⟨fun c T W h => h.after (d_write h.1 x.sec t (by omega) (by omega))⟩
    have HWr : Veil (∀ c T W, BothG w d kb sb r W0.heap.size c T (D.wr x.sec t) D W → Calls Try.prog 49 #[.pointer (some ⟨r, 0, none⟩), .int .i64 x.sec, .string ⟨t.toArray⟩] W fun e w' => e = .returned (.int .i64 (D.wrc x.sec t)) ∧ BothG w d kb sb r W0.heap.size c T (D.wr x.sec t) (D.wr x.sec t) w') := ⟨fun c T W h => h.after (d_rwrite h.1 x.sec t (by omega) (by omega))⟩
    have HP : Veil (∀ w', Both w d kb sb r (fun _ => False) (D.wr x.sec t) (D.wr x.sec t) w' → DidPost w d kb sb r D (.returned (.bool true)) w') := ⟨fun w' hb => ⟨rfl, _, hb, by rw [wr_len], (wr_few D x.sec t).1, (wr_few D x.sec t).2, hi.wr _ _⟩⟩
    generalize D.wr x.sec t = D1 at *
    generalize D.wrc x.sec t = c1 at *
    clear h hi h0 hu ho hz hzl hkc hkm hkb hs ht
    obtain ⟨act, sec, s, kp, kn, kc⟩ := x
    dsimp only at *
    obtain ⟨W1, hW1⟩ : ∃ W1, W0.alloc (.cells #[.int .i64 act, .int .i64 sec, .string s, .slice kp kn kc] 34) = W1 := ⟨_, rfl⟩
    have HM : Veil (BothG w d kb sb r W0.heap.size #[.int .i64 act, .int .i64 sec, .string s, .slice kp kn kc] 34 D D W1) := ⟨by rw [← hW1]; exact HM1 _ _⟩
    obtain ⟨⟨q0, q1, q2, q3⟩, -⟩ := pack4 HM.out.2
    clear HM1
    have hc3 : m = 0 ∨ m = 1 ∨ m = 2 := by omega
    clear hm3 hc6 hm6
    rcases hc3 with rfl | rfl | rfl
    all_goals
      simp only [Int.cast_ofNat_Int] at hm
      go_enter Try.func16, Try.ntmps16
      go_wp2
      go_region_held3 (fun W => W.cell? ⟨W0.heap.size, 1, none⟩ = some (.int .i64 sec) ∧ W.cell? ⟨W0.heap.size, 2, none⟩ = some (.string s)) (first | exact ⟨(pack4 hM6.2).1.2.1, (pack4 hM6.2).1.2.2.1⟩ | exact ⟨(pack4 hM5.2).1.2.1, (pack4 hM5.2).1.2.2.1⟩ | (constructor <;> assumption)) (first
        | (go_at_call 49; refine (HWr.out _ _ _ hM5).mono ?_; rintro e w6 ⟨rfl, hM6⟩)
        | (go_at_call 43; refine (HWd.out _ _ _ (HM.out.below (Below.refl _ _).drew)).mono ?_; rintro e w5 ⟨rfl, hM5⟩)
        | (go_at_call 48; refine (HT.out _).mono ?_; rintro e w4 ⟨rfl, rfl⟩))
      go_wp2
      go_ret
      exact HP.out _ hM6.done
  · have hc3 : m = 3 ∨ m = 4 ∨ m = 5 := by omega
    clear hm3 hc6 hm6
    rcases hc3 with rfl | rfl | rfl
    · have HS : Veil (∀ c T W, BothG w d kb sb r W0.heap.size c T D D W → Calls Try.prog 50 #[.pointer (some ⟨r, 0, none⟩)] W fun e w' => e = .returned (.tuple #[]) ∧ BothG w d kb sb r W0.heap.size c T D D.sync w') := ⟨fun c T W h => h.after (d_rsync h.1 hi h0 (by omega) (by omega))⟩
      have HSd : Veil (∀ c T W, BothG w d kb sb r W0.heap.size c T D D.sync W → Calls Try.prog 44 #[.pointer (some ⟨d, 0, none⟩)] W fun e w' => e = .returned (.int .i64 0) ∧ BothG w d kb sb r W0.heap.size c T D.sync D.sync w') := ⟨fun c T W h => h.after (d_sync h.1 (by omega))⟩
      have HP : Veil (∀ w', Both w d kb sb r (fun _ => False) D.sync D.sync w' → DidPost w d kb sb r D (.returned (.bool true)) w') := ⟨fun w' hb => ⟨rfl, _, hb, by rw [Dk.Inv.sync_kept hi]; exact hi.length, by simp [Dk.sync], by simp [Dk.sync], hi.sync⟩⟩
      generalize D.sync = D1 at *
      clear h hi h0 hu ho hz hzl hkc hkm hkb hs
      obtain ⟨act, sec, s, kp, kn, kc⟩ := x
      dsimp only at *
      obtain ⟨W1, hW1⟩ : ∃ W1, W0.alloc (.cells #[.int .i64 act, .int .i64 sec, .string s, .slice kp kn kc] 34) = W1 := ⟨_, rfl⟩
      have HM : Veil (BothG w d kb sb r W0.heap.size #[.int .i64 act, .int .i64 sec, .string s, .slice kp kn kc] 34 D D W1) := ⟨by rw [← hW1]; exact HM1 _ _⟩
      obtain ⟨⟨q0, q1, q2, q3⟩, -⟩ := pack4 HM.out.2
      clear HM1
      simp only [Int.cast_ofNat_Int] at hm
      go_enter Try.func16, Try.ntmps16
      go_wp2_with (first
        | (go_at_call 44; refine (HSd.out _ _ _ hM5).mono ?_; rintro e w6 ⟨rfl, hM6⟩)
        | (go_at_call 50; refine (HS.out _ _ _ HM.out).mono ?_; rintro e w5 ⟨rfl, hM5⟩))
      go_ret
      exact HP.out _ hM6.done
    · have hl80 : (zs.take 80).length = min x.kn 80 := by rw [List.length_take, hzl, Nat.min_comm]
      have hz80 : Ints w x.kp (zs.take 80) := fun hne => by
        obtain ⟨b, off, hp, hc⟩ := hz (by rintro rfl; simp at hne)
        refine ⟨b, off, hp, fun i hi => ?_⟩
        have h1 : i < zs.length ∧ i < 80 := by simp at hi; omega
        have := hc i h1.1
        rw [this]
        simp [List.getD, h1.2]
      have HCU : Veil (∀ W, Calls Try.prog 51 #[.slice x.kp x.kn x.kc] W fun e w' => e = .returned (.slice x.kp (zs.take 80).length x.kc) ∧ W = w') := ⟨fun W => by rw [hl80]; exact cutK_any x.kp x.kn x.kc W hkc hkm⟩
      have hkb80 : zs.take 80 ≠ [] → ∀ a, x.kp = some a → a.block < w.heap.size := fun hne => hkb (by rintro rfl; simp at hne)
      clear hkb
      generalize zs.take 80 = ys at *
      have hyl : ys.length ≤ 80 := by omega
      have HC : Veil (∀ c T W, BothG w d kb sb r W0.heap.size c T D D W → Calls Try.prog 45 #[.pointer (some ⟨d, 0, none⟩), .slice x.kp ys.length x.kc] W fun e w' => e = .returned (.int .i64 (crC D ys)) ∧ BothG w d kb sb r W0.heap.size c T (crD D ys) D w') := ⟨fun c T W h => h.after (d_crash h.1 x.kp ys x.kc hz80 hkb80 (by omega))⟩
      have HCr : Veil (∀ c T W, BothG w d kb sb r W0.heap.size c T (crD D ys) D W → Calls Try.prog 52 #[.pointer (some ⟨r, 0, none⟩), .slice x.kp ys.length x.kc] W fun e w' => e = .returned (.int .i64 (crC D ys)) ∧ BothG w d kb sb r W0.heap.size c T (crD D ys) (crD D ys) w') := ⟨fun c T W h => h.after (d_rcrash h.1 hi h0 (by omega) x.kp ys x.kc hz80 hkb80 (by omega))⟩
      have HP : Veil (∀ w', Both w d kb sb r (fun _ => False) (crD D ys) (crD D ys) w' → DidPost w d kb sb r D (.returned (.bool true)) w') := ⟨fun w' hb => by
        obtain ⟨f1, f2, f3, f4⟩ := crD_facts ys hi
        exact ⟨rfl, _, hb, f1, by omega, by omega, f4⟩⟩
      generalize crD D ys = D1 at *
      generalize crC D ys = c1 at *
      generalize ys.length = yn at *
      clear h hi h0 hu ho hz hzl hkc hkm hkb80 hs hl80 hz80
      obtain ⟨act, sec, s, kp, kn, kc⟩ := x
      dsimp only at *
      obtain ⟨W1, hW1⟩ : ∃ W1, W0.alloc (.cells #[.int .i64 act, .int .i64 sec, .string s, .slice kp kn kc] 34) = W1 := ⟨_, rfl⟩
      have HM : Veil (BothG w d kb sb r W0.heap.size #[.int .i64 act, .int .i64 sec, .string s, .slice kp kn kc] 34 D D W1) := ⟨by rw [← hW1]; exact HM1 _ _⟩
      obtain ⟨⟨q0, q1, q2, q3⟩, -⟩ := pack4 HM.out.2
      clear HM1
      simp only [Int.cast_ofNat_Int] at hm
      go_enter Try.func16, Try.ntmps16
      go_wp2
      go_region_held3 (fun W => W.cell? ⟨W0.heap.size, 3, none⟩ = some (.slice kp kn kc)) (first | exact (pack4 hM6.2).1.2.2.2 | exact (pack4 hM5.2).1.2.2.2 | assumption) (first
        | (go_at_call 52; refine (HCr.out _ _ _ hM5).mono ?_; rintro e w6 ⟨rfl, hM6⟩)
        | (go_at_call 45; refine (HC.out _ _ _ (HM.out.below (Below.refl _ _).drew)).mono ?_; rintro e w5 ⟨rfl, hM5⟩)
        | (go_at_call 51; refine (HCU.out _).mono ?_; rintro e w4 ⟨rfl, rfl⟩))
      go_wp2
      go_ret
      exact HP.out _ hM6.done
    · obtain ⟨B, C, hrd⟩ := readR_form D x.sec
      have HR : Veil (∀ c T W, BothG w d kb sb r W0.heap.size c T D D W → Calls Try.prog 21 #[.pointer (some ⟨d, 0, none⟩), .int .i64 x.sec] W fun e w' => e = .returned (.tuple #[.string ⟨B.toArray⟩, .int .i64 C]) ∧ BothG w d kb sb r W0.heap.size c T D D w') := ⟨fun c T W h => (d_read h.1 x.sec).mono fun e w' ⟨h1, h2, h3⟩ => ⟨by rw [h1, hrd], h.below h3⟩⟩
      have HRr : Veil (∀ c T W, BothG w d kb sb r W0.heap.size c T D D W → Calls Try.prog 22 #[.pointer (some ⟨r, 0, none⟩), .int .i64 x.sec] W fun e w' => e = .returned (.tuple #[.string ⟨B.toArray⟩, .int .i64 C]) ∧ W = w') := ⟨fun c T W h => (d_rread h.1 hi (by omega) x.sec).mono fun e w' ⟨h1, h2⟩ => ⟨by rw [h1, hrd], h2⟩⟩
      have HP : Veil (∀ w', Both w d kb sb r (fun _ => False) D D w' → DidPost w d kb sb r D (.returned (.bool true)) w') := ⟨fun w' hb => ⟨rfl, _, hb, rfl, by omega, by omega, hi⟩⟩
      clear h hi h0 hu ho hz hzl hkc hkm hkb hs hrd
      obtain ⟨act, sec, s, kp, kn, kc⟩ := x
      dsimp only at *
      obtain ⟨W1, hW1⟩ : ∃ W1, W0.alloc (.cells #[.int .i64 act, .int .i64 sec, .string s, .slice kp kn kc] 34) = W1 := ⟨_, rfl⟩
      have HM : Veil (BothG w d kb sb r W0.heap.size #[.int .i64 act, .int .i64 sec, .string s, .slice kp kn kc] 34 D D W1) := ⟨by rw [← hW1]; exact HM1 _ _⟩
      obtain ⟨⟨q0, q1, q2, q3⟩, -⟩ := pack4 HM.out.2
      clear HM1
      simp only [Int.cast_ofNat_Int] at hm
      go_enter Try.func16, Try.ntmps16
      go_wp2_with (first
        | (go_at_call 22; refine (HRr.out _ _ _ hM5).mono ?_; rintro e w6 ⟨rfl, rfl⟩)
        | (go_at_call 21; refine (HR.out _ _ _ HM.out).mono ?_; rintro e w5 ⟨rfl, hM5⟩; obtain ⟨⟨p0, p1, p2, p3⟩, -⟩ := pack4 hM5.2))
      go_ret
      exact HP.out _ hM5.done
end Go.Proofs.Ytapmppiiphbcpaa
