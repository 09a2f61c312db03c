/- The walk of rising: keys that rise. -/
import Derived.RangeFuncCalls
import Derived.Test.YtgaahgnjmhnggaaKN6
namespace Go.Proofs.Ytgaahgnjmhnggaa
open Go Go.RowKit Sm
attribute [local go_sem] Oper.semAt_some

theorem keepsFrom_turned6 {F : Nat → Prop} {B : Nat} {A A' : World} (h : Turned F A A') (hF : ∀ k, F k → k < B ∨ ∃ c t fr, A.heap[k]? = some (.cells c t fr)) : KeepsFrom B A A' :=
  ⟨h.size, fun k o hB hk ho => h.heap hk fun hf => by
    rcases hF k hf with hlt | ⟨c, t, fr, hc⟩
    · omega
    · rw [hc] at hk; cases hk; cases ho⟩
theorem keepsFrom_new6 {B : Nat} {A A' : World} (h : Turned (fun _ => False) A A') : KeepsFrom B A A' := keepsFrom_turned6 h fun _ h => h.elim
theorem cell_row6 {w : World} {b : Nat} {x : Value} {t : TypeId} {fr : Nat × Nat} (h : w.heap[b]? = some (.cells #[x] t fr)) : w.cell? ⟨b, 0, none⟩ = some x := by simp [World.cell?, h]
theorem results_bool6 {fn : Func} {p : Tmp} {tmps : Array Value} {w : World} {g : Nat} {x : Value} (h : fn.results = #[.cell p 4]) (hp : tmps.getD p undef = .pointer (some ⟨g, 0, none⟩)) (hg : w.heap[g]? = some (.cells #[x] 4 (0, 0))) :
    (results fn tmps).run Try.prog w = .ok x w := by
  have hp' : tmps[p]?.getD undef = .pointer (some ⟨g, 0, none⟩) := by simpa using hp
  have c0 := cell_row6 hg
  simp [results, h, go_sem, hp', c0]

def prevK (KS : List (List UInt8)) (i : Nat) : List UInt8 := if i = 0 then [] else KS.getD (i - 1) []
def goodAt (KS : List (List UInt8)) (i : Nat) : Bool := lessB (prevK KS i) (KS.getD i []) && decide ((KS.getD i []).length ≤ 24)
def riseL (KS : List (List UInt8)) : Bool := allTo (goodAt KS) KS.length
theorem riseL_iff (KS : List (List UInt8)) : riseL KS = true ↔ ∀ i, i < KS.length → goodAt KS i = true := by simp [riseL, allTo_iff]

section
variable {w : World} {B1 B2 Bx : Nat} {n : Nd} {a : NdP} {q : List UInt8} {A A' : World}
end
end Go.Proofs.Ytgaahgnjmhnggaa
