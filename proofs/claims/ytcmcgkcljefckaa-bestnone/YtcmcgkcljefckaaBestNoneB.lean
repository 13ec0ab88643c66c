/- Plain words on rows in which none is a set, but for the last one. -/
import Derived.Test.YtcmcgkcljefckaaBestMem
import Derived.Laws.OwnMore
namespace Go.Proofs.Ytcmcgkcljefckaa
set_option maxRecDepth 100000
open Go.RowKit
set_option linter.unusedVariables false

theorem made_chs (n : Nat) : (madeCells (Value.agg (chA zeroCh)).cells (n * 33)).toList = chsL (List.replicate n zeroCh) := by
  unfold madeCells
  rw [Array.toList_map, Array.toList_range]
  induction n with
  | zero => rfl
  | succ n ih =>
    rw [Nat.succ_mul, List.range_add, List.map_append, ih, List.replicate_succ', chsL_append]
    congr 1
    rw [List.map_map]
    have e : ∀ j ∈ List.range 33, ((fun x => (Value.agg (chA zeroCh)).cells[x % (Value.agg (chA zeroCh)).cells.size]!) ∘ fun x => n * 33 + x) j = (Value.agg (chA zeroCh)).cells[j]! := by
      intro j hj
      have hj' := List.mem_range.1 hj
      have hs : (Value.agg (chA zeroCh)).cells.size = 33 := rfl
      show (Value.agg (chA zeroCh)).cells[(n * 33 + j) % (Value.agg (chA zeroCh)).cells.size]! = _
      rw [hs, Nat.mul_comm, Nat.mul_add_mod, Nat.mod_eq_of_lt hj']
    rw [List.map_congr_left e]
    rfl
theorem allN_none (n : Nat) : allN (List.replicate n zeroCh) = -1 := by
  rcases allN_spec (List.replicate n zeroCh) with ⟨h, _⟩ | ⟨k, a, _, hk, hf, _⟩
  · exact h
  · have := List.eq_of_mem_replicate (List.mem_of_getElem? hk)
    subst this
    exact absurd (freeC_iff.1 hf).1 (by decide)
theorem allN_last (n : Nat) (s : Rs) : allN (List.replicate n zeroCh ++ [⟨s, true⟩]) = n := by
  have hfree : freeC (List.replicate n zeroCh ++ [⟨s, true⟩]) ⟨s, true⟩ = true := by
    refine freeC_iff.2 ⟨rfl, fun b hb hi => ?_⟩
    rcases List.mem_append.1 hb with h | h
    · have := List.eq_of_mem_replicate h
      subst this
      cases hi
    · rw [List.mem_singleton.1 h]
      exact lessB_self s
  rcases allN_spec (List.replicate n zeroCh ++ [⟨s, true⟩]) with ⟨_, h⟩ | ⟨k, a, h1, hk, hf, _⟩
  · rw [h ⟨s, true⟩ (by simp)] at hfree
    cases hfree
  · rw [h1]
    have hlen := (List.getElem?_eq_some_iff.1 hk).1
    simp only [List.length_append, List.length_replicate, List.length_singleton] at hlen
    by_cases hlt : k < n
    · rw [List.getElem?_append_left (by simpa using hlt), List.getElem?_replicate, if_pos hlt] at hk
      cases hk
      exact absurd (freeC_iff.1 hf).1 (by decide)
    · have : k = n := by omega
      rw [this]
theorem none_ok (n : Nat) : ∀ c ∈ List.replicate n zeroCh, c.s.ok := by
  intro c hc
  rw [List.eq_of_mem_replicate hc]
  exact ⟨by show Ck.ok ⟨0, 0, 0, 0, 0, 0, 0, 0⟩; unfold Ck.ok Ck.l isByte; decide, by show Ck.ok ⟨0, 0, 0, 0, 0, 0, 0, 0⟩; unfold Ck.ok Ck.l isByte; decide, by show Ck.ok ⟨0, 0, 0, 0, 0, 0, 0, 0⟩; unfold Ck.ok Ck.l isByte; decide, by decide, by decide⟩

end Go.Proofs.Ytcmcgkcljefckaa
