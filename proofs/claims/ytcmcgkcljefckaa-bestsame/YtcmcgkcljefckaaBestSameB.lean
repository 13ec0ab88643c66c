/- Plain words on a port's best: it is one of those that were heard, and no other one is better. No program is read here. -/
import Derived.Test.YtcmcgkcljefckaaBestMath
import Derived.Test.YtcmcgkcljefckaaForeignMath
namespace Go.Proofs.Ytcmcgkcljefckaa
set_option maxRecDepth 100000
open Go.RowKit
set_option linter.unusedVariables false

theorem portN_cases (l : List Rs) (r : Pt) : portN l r = zeroCh ∨ ∃ a ∈ l, portN l r = ⟨recv r a, true⟩ ∧ ∀ s ∈ l, lessB (recv r s) (recv r a) = false := by
  unfold portN
  rcases allN_spec (hearL r l) with ⟨h, _⟩ | ⟨k, a, h, hk, hf, _⟩
  · left
    rw [h]
    rfl
  · right
    rw [h, if_neg (by omega), Int.toNat_natCast, List.getD_eq_getElem?_getD, hk]
    unfold hearL at hk
    rw [List.getElem?_map] at hk
    obtain ⟨b, hb, rfl⟩ := Option.map_eq_some_iff.1 hk
    refine ⟨b, List.mem_of_getElem? hb, rfl, fun s hs => ?_⟩
    exact (freeC_iff.1 hf).2 ⟨recv r s, true⟩ (List.mem_map.2 ⟨s, hs, rfl⟩) rfl
/-- is it among those that were heard? -/
def anyS (l : List Rs) (r : Pt) (c : Rs) : Bool := l.any fun s => eqR (recv r s) c
theorem anyS_step {l : List Rs} {r : Pt} {c a : Rs} {k : Nat} (hk : l[k]? = some a) : anyS (l.take (k + 1)) r c = (anyS (l.take k) r c || eqR (recv r a) c) := by
  unfold anyS
  rw [List.take_add_one, hk]
  simp
theorem anyS_yes {l : List Rs} {r : Pt} {a : Rs} (h : a ∈ l) : anyS l r (recv r a) = true := by
  unfold anyS
  rw [List.any_eq_true]
  exact ⟨a, h, eqR_self _⟩

end Go.Proofs.Ytcmcgkcljefckaa
