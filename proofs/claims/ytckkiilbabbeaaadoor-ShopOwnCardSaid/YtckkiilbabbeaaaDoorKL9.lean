/- Shop, by the program: Buy. -/
import Derived.Test.YtckkiilbabbeaaaDoorKL90
import Derived.Test.YtckkiilbabbeaaaDoorKL92
namespace Go.Proofs.YtckkiilbabbeaaaDoor
open Go Go.RowKit Sm
attribute [local go_sem] Oper.semAt_some

/-- The boxes of Buy: two accounts, the listing, two answers, the payer, the payee. -/
structure BxB (w W : World) (a b c d f i n mo : Int) : Prop where
  d : PdB W w.heap.size (w.heap.size + 1) (w.heap.size + 2) (w.heap.size + 5) (w.heap.size + 6) a b c d f i n mo
  r : W.heap[w.heap.size + 3]? = some (.cells #[.int .i64 0, .int .i64 0] 37 (0, 0))
  s : W.heap[w.heap.size + 4]? = some (.cells #[.int .i64 0, .int .i64 0] 37 (0, 0))
  below : Below w.heap.size w W
theorem BxB.new (w : World) (a b c d f i n mo : Int) : BxB w (((((((w.alloc (.cells #[.int .i64 a, .int .i64 b] 37)).alloc (.cells #[.int .i64 c, .int .i64 d] 37)).alloc (.cells #[.int .u32 f, .int .u16 i, .int .i64 n, .int .i64 mo] 27)).alloc (.cells #[.int .i64 0, .int .i64 0] 37)).alloc (.cells #[.int .i64 0, .int .i64 0] 37)).alloc (.cells #[.int .i64 0, .int .i64 0] 37)).alloc (.cells #[.int .i64 0, .int .i64 0] 37)) a b c d f i n mo := by
  refine ⟨⟨?_, ?_, ?_, ?_, ?_⟩, ?_, ?_, below_al (below_al (below_al (below_al (below_al (below_al (below_al (Below.refl _ _) _) _) _) _) _) _) _⟩
  all_goals
    simp only [heap_alloc_if, World.size_alloc]; repeat (first | rw [if_neg (by omega)] | rw [if_pos (by first | trivial | omega)])
/-- What comes of changed, in Buy. -/
def BgQ (w W0 : World) (R : Ac × Ac × List St × Int) (v : Value) (c : Int) (w' : World) : Prop :=
  Turned (fun k => k = w.heap.size + 5 ∨ k = w.heap.size + 6) W0 w' ∧ ((c = 0 ∧ R.2.2.2 = 0 ∧ w'.heap[w.heap.size + 5]? = some (.cells #[.int .i64 R.1.w, .int .i64 R.1.b] 37 (0, 0)) ∧ w'.heap[w.heap.size + 6]? = some (.cells #[.int .i64 R.2.1.w, .int .i64 R.2.1.b] 37 (0, 0)) ∧ FreshE elS W0.heap.size w' v R.2.2.1) ∨ (c ≠ 0 ∧ R = (Ac.zero, Ac.zero, [], c)))
theorem shbought_any {w W0 : World} {p : Option Addr} (a b : Ac) (ha : a.Ok) (hb : b.Ok) (l : List St) (lc : Nat) (x : Li) (hx : x.Ok) (h : InL elS w p l lc) (hl : l.length ≤ 1000) (hw : GdW l) (hS : MSent w) (hB : BxB w W0 a.w a.b b.w b.b x.src x.item x.n x.price) :
    Calls Tryd.prog 34 #[.slice p l.length lc, .agg #[.int .u32 x.src, .int .u16 x.item, .int .i64 x.n, .int .i64 x.price], .func (.func 39) #[] #[.pointer (some ⟨w.heap.size, 0, none⟩), .pointer (some ⟨w.heap.size + 1, 0, none⟩), .pointer (some ⟨w.heap.size + 2, 0, none⟩), .pointer (some ⟨w.heap.size + 5, 0, none⟩), .pointer (some ⟨w.heap.size + 6, 0, none⟩)]] W0
      fun e w' => ∃ v c, e = .returned (.tuple #[v, .int .i64 c]) ∧ BgQ w W0 (buyS a b l x) v c w' := by
  refine shchanged5_any l.length lc x.src x.item x.n x.price (rightLi x) 39 _ _ _ _ _ (BgQ w W0 (buyS a b l x))
    (enters_of Tryd.func39 (by kernel_rfl) rfl) (fun W => shright_any x hx W) (fun hrt W hW => ?_) (fun hrf W hW => ?_)
  · refine (shpaid_any (w0 := w) a b ha hb l lc x hx h hl hw hS (bc_then hB.below hW) _ _ _ _ _ (hB.d.below hW) (by omega) (by omega) (by omega)).mono ?_
    rintro e w' ⟨v, c, rfl, hT, hq⟩
    refine ⟨v, c, rfl, (Turned.new hW : Turned (fun k => k = w.heap.size + 5 ∨ k = w.heap.size + 6) W0 W).trans hT, ?_⟩
    rcases hq with ⟨rfl, h1, h2, h3, h4, h5⟩ | ⟨h0, h1⟩
    · have e : buyS a b l x = ((payA a b x.price).1, (payA a b x.price).2.1, (giveG l x.st).1, 0) := by unfold buyS; rw [if_pos hrt, if_pos h1, if_pos h2]
      rw [e]
      exact .inl ⟨rfl, rfl, h3, h4, h5.base hW.size⟩
    · refine .inr ⟨h0, ?_⟩
      rcases h1 with rfl | ⟨h1, rfl⟩
      · unfold buyS; rw [if_pos hrt, if_neg h0]
      · unfold buyS; rw [if_pos hrt, if_pos h1, if_neg h0]
  · refine ⟨Turned.new hW, .inr ⟨by decide, ?_⟩⟩
    unfold buyS
    rw [if_neg (by rw [hrf]; decide)]

set_option maxRecDepth 20000 in
set_option maxHeartbeats 4000000 in
theorem shbuy_any {w : World} {p : Option Addr} (a b : Ac) (ha : a.Ok) (hb : b.Ok) (l : List St) (lc : Nat) (x : Li) (hx : x.Ok) (h : InL elS w p l lc) (hl : l.length ≤ 1000) (hw : GdW l) (hS : MSent w) :
    Calls Tryd.prog 21 #[a.v, b.v, .slice p l.length lc, x.v] w (BuyPost w (buyS a b l x).1 (buyS a b l x).2.1 (buyS a b l x).2.2.1 (buyS a b l x).2.2.2) := by
  have HB0 : Veil _ := ⟨BxB.new w a.w a.b b.w b.b x.src x.item x.n x.price⟩
  have HK : Veil _ := ⟨shbought_any a b ha hb l lc x hx h hl hw hS HB0.out⟩
  obtain ⟨W0, hW0⟩ : ∃ W0, W0 = (((((((w.alloc (.cells #[.int .i64 a.w, .int .i64 a.b] 37)).alloc (.cells #[.int .i64 b.w, .int .i64 b.b] 37)).alloc (.cells #[.int .u32 x.src, .int .u16 x.item, .int .i64 x.n, .int .i64 x.price] 27)).alloc (.cells #[.int .i64 0, .int .i64 0] 37)).alloc (.cells #[.int .i64 0, .int .i64 0] 37)).alloc (.cells #[.int .i64 0, .int .i64 0] 37)).alloc (.cells #[.int .i64 0, .int .i64 0] 37)) := ⟨_, rfl⟩
  rw [← hW0] at HB0 HK
  have HW0 : Veil _ := ⟨hW0⟩
  generalize buyS a b l x = R at HK ⊢
  have hne : ∀ {v c w'}, BgQ w W0 R v c w' → c = R.2.2.2 := fun h => by
    rcases h.2 with ⟨h1, h2, -⟩ | ⟨-, h1⟩
    · rw [h1, h2]
    · rw [h1]
  have HNE : Veil _ := ⟨fun v c w' => @hne v c w'⟩
  have hrs : ∀ {v c w'}, BgQ w W0 R v c w' → w'.heap[w.heap.size + 3]? = some (.cells #[.int .i64 0, .int .i64 0] 37 (0, 0)) ∧ w'.heap[w.heap.size + 4]? = some (.cells #[.int .i64 0, .int .i64 0] 37 (0, 0)) ∧ Below w.heap.size w w' := fun h =>
    ⟨h.1.heap HB0.out.r (by omega), h.1.heap HB0.out.s (by omega), HB0.out.below.trans (h.1.toBelow HB0.out.below.size (fun k _ e => by rcases e with e | e <;> omega))⟩
  have HRS : Veil _ := ⟨fun v c w' => @hrs v c w'⟩
  clear hne hrs ha hb hx h hl hw hS hW0
  by_cases hc : R.2.2.2 = 0
  rotate_left 1
  · have HQ : Veil (∀ v c w', BgQ w W0 R v c w' → R = (Ac.zero, Ac.zero, [], c)) := ⟨fun v c w' h => by
      rcases h.2 with ⟨-, h2, -⟩ | ⟨-, h1⟩
      · exact absurd h2 hc
      · exact h1⟩
    obtain ⟨c0, hc0⟩ : ∃ c0, R.2.2.2 = c0 := ⟨_, rfl⟩
    rw [hc0] at hc HNE
    have HC0 : Veil _ := ⟨hc0⟩
    clear hc0
    obtain ⟨aw, ab⟩ := a
    obtain ⟨cw, cb⟩ := b
    obtain ⟨f, i, n, mo⟩ := x
    unfold Li.v Ac.v at *
    dsimp only at *
    go_enter Tryd.func21, Tryd.ntmps21
    go_wp2_with (go_at_call 34; rw [← HW0.out]; refine HK.out.mono ?_; rintro e w4 ⟨v4, c4, rfl, hq⟩; obtain rfl := HNE.out _ _ _ hq; have HQ4 : Veil _ := ⟨HQ.out _ _ _ hq⟩; have HR4 : Veil _ := ⟨HRS.out _ _ _ hq⟩; clear hq; obtain ⟨⟨y0, y1⟩, f0, f1⟩ := pk2 HR4.out.1; obtain ⟨⟨z0, z1⟩, g0, g1⟩ := pk2 HR4.out.2.1)
    rw [HQ4.out]
    exact bodyPost_ret (results_acc4 (g := w.heap.size + 3) (k := w.heap.size + 4) rfl rfl rfl rfl rfl (st22 (by omega) HR4.out.1 HR4.out.2.1 _ _ _ _).1 (st22 (by omega) HR4.out.1 HR4.out.2.1 _ _ _ _).2) rfl (BuyPost.nil (tn2 (tn2 HR4.out.2.2 (by omega) _ _) (by omega) _ _))
  · have HQ : Veil (∀ v c w', BgQ w W0 R v c w' → c = 0 ∧ w'.heap[w.heap.size + 5]? = some (.cells #[.int .i64 R.1.w, .int .i64 R.1.b] 37 (0, 0)) ∧ w'.heap[w.heap.size + 6]? = some (.cells #[.int .i64 R.2.1.w, .int .i64 R.2.1.b] 37 (0, 0)) ∧ FreshE elS W0.heap.size w' v R.2.2.1) := ⟨fun v c w' h => by
      rcases h.2 with ⟨h1, -, h3⟩ | ⟨h0, h1⟩
      · exact ⟨h1, h3⟩
      · rw [h1] at hc; exact absurd hc h0⟩
    have HS0 : Veil (w.heap.size + 7 = W0.heap.size) := ⟨by rw [HW0.out]; simp⟩
    clear HNE
    obtain ⟨⟨bw, bb⟩, ⟨dw, db⟩, T, c⟩ := R
    dsimp only at hc
    subst hc
    obtain ⟨aw, ab⟩ := a
    obtain ⟨cw, cb⟩ := b
    obtain ⟨f, i, n, mo⟩ := x
    unfold Li.v Ac.v at *
    dsimp only at *
    go_enter Tryd.func21, Tryd.ntmps21
    go_wp2_with (go_at_call 34; rw [← HW0.out]; refine HK.out.mono ?_; rintro e w4 ⟨v4, c4, rfl, hq⟩; have HR4 : Veil _ := ⟨HRS.out _ _ _ hq⟩; obtain ⟨rfl, h5, h6, hF⟩ := HQ.out _ _ _ hq; have H56 : Veil _ := ⟨And.intro h5 h6⟩; have HF4 : Veil _ := ⟨hF⟩; obtain ⟨p4, c4, ev4, -, -⟩ := hF.form; subst ev4; clear hq h5 h6 hF; obtain ⟨⟨y0, y1⟩, f0, f1⟩ := pk2 HR4.out.1; obtain ⟨⟨z0, z1⟩, g0, g1⟩ := pk2 HR4.out.2.1)
    obtain ⟨b6, h6⟩ : ∃ b, w.heap.size + 1 + 1 + 1 = b := ⟨_, rfl⟩
    obtain ⟨b7, h7⟩ : ∃ b, w.heap.size + 1 + 1 + 1 + 1 = b := ⟨_, rfl⟩
    obtain ⟨b11, h11⟩ : ∃ b, w.heap.size + 1 + 1 + 1 + 1 + 1 = b := ⟨_, rfl⟩
    obtain ⟨b13, h13⟩ : ∃ b, w.heap.size + 1 + 1 + 1 + 1 + 1 + 1 = b := ⟨_, rfl⟩
    have HR6 : Veil (w4.heap[b6]? = some (.cells #[.int .i64 0, .int .i64 0] 37 (0, 0)) ∧ w4.heap[b7]? = some (.cells #[.int .i64 0, .int .i64 0] 37 (0, 0)) ∧ w.heap.size ≤ b6 ∧ w.heap.size ≤ b7 ∧ Below w.heap.size w w4) := ⟨by rw [← h6]; exact HR4.out.1, by rw [← h7]; exact HR4.out.2.1, by omega, by omega, HR4.out.2.2⟩
    have HX5 : Veil (w4.heap[b13]? = some (.cells #[.int .i64 dw, .int .i64 db] 37 (0, 0)) ∧ w4.heap[b11]? = some (.cells #[.int .i64 bw, .int .i64 bb] 37 (0, 0))) := ⟨by rw [← h13]; exact H56.out.2, by rw [← h11]; exact H56.out.1⟩
    have HF : Veil (FreshE elS (w.heap.size + 7) w4 (.slice p4 T.length c4) T ∧ ∀ k, (k = b6 ∨ k = b7) → k < w.heap.size + 7) := ⟨by rw [HS0.out]; exact HF4.out, fun k hk => by omega⟩
    have n67 : b6 ≠ b7 := by omega
    have n611 : b6 ≠ b11 := by omega
    have n613 : b6 ≠ b13 := by omega
    have n711 : b7 ≠ b11 := by omega
    have n713 : b7 ≠ b13 := by omega
    rw [h13, h11, h7, h6]
    clear h6 h7 h11 h13 y0 y1 f0 f1 z0 z1 g0 g1 HR4 H56 HF4 HRS HQ HK HB0 HW0 HS0
    obtain ⟨⟨y0, y1⟩, f0, f1⟩ := pk2 HR6.out.1
    obtain ⟨⟨z0, z1⟩, g0, g1⟩ := pk2 HR6.out.2.1
    obtain ⟨⟨c0, c1⟩, -⟩ := pk2 HX5.out.2
    obtain ⟨⟨d0, d1⟩, -⟩ := pk2 HX5.out.1
    have HK : Veil (∀ W, Turned (fun k => k = b6 ∨ k = b7) w4 W → W.cell? ⟨b11, 0, none⟩ = some (.int .i64 bw) ∧ W.cell? ⟨b11, 1, none⟩ = some (.int .i64 bb) ∧ W.cell? ⟨b13, 0, none⟩ = some (.int .i64 dw) ∧ W.cell? ⟨b13, 1, none⟩ = some (.int .i64 db)) := ⟨fun W h => ⟨h.cell c0 (by dsimp only; omega), h.cell c1 (by dsimp only; omega), h.cell d0 (by dsimp only; omega), h.cell d1 (by dsimp only; omega)⟩⟩
    go_region_held3 (fun W => (W.cell? ⟨b11, 0, none⟩ = some (.int .i64 bw) ∧ W.cell? ⟨b11, 1, none⟩ = some (.int .i64 bb) ∧ W.cell? ⟨b13, 0, none⟩ = some (.int .i64 dw) ∧ W.cell? ⟨b13, 1, none⟩ = some (.int .i64 db))) (first | assumption | exact HK.out _ (Turned.refl _ _).drew | exact HK.out _ (tu1 w4 b6 b7 _ _).drew | exact HK.out _ (tu2 w4 b6 b7 _ _ _ _).drew) (fail)
    all_goals
      go_wp2
      refine bodyPost_ret (results_acc4 (g := b6) (k := b7) rfl rfl rfl rfl rfl (st22 n67 HR6.out.1 HR6.out.2.1 _ _ _ _).1 (st22 n67 HR6.out.1 HR6.out.2.1 _ _ _ _).2) rfl ⟨_, rfl, (HF.out.1.turned (tu2 w4 b6 b7 _ _ _ _).drew HF.out.2).base (Nat.le_add_right _ _), (tn2 (tn2 HR6.out.2.2.2.2 HR6.out.2.2.1 _ _) HR6.out.2.2.2.1 _ _).drew⟩
end Go.Proofs.YtckkiilbabbeaaaDoor
