/- A value of the type of choices that can be read is a choice. -/
import Derived.Test.YtpdnfeooijmgoaaRankOpen
import Derived.Test.YtpdnfeooijmgoaaBestMem
namespace Go.Proofs.Ytpdnfeooijmgoaa
set_option maxRecDepth 100000
open Go.ChangeShapes Go.WideShapes Go.ChangeAt Go.RowKit
set_option linter.unusedVariables false

theorem ch_list {cs : List Value} (h : leavesOk [.int .i64 0, .int .i64 0, .int .i64 0, .int .i64 0, .int .i64 0, .int .u8 0, .int .u8 0, .int .u8 0, .int .u8 0, .int .u8 0, .int .u8 0, .int .u8 0, .int .u8 0, .int .i64 0, .int .u8 0, .int .u8 0, .int .u8 0, .int .u8 0, .int .u8 0, .int .u8 0, .int .u8 0, .int .u8 0, .int .i64 0, .int .u8 0, .int .u8 0, .int .u8 0, .int .u8 0, .int .u8 0, .int .u8 0, .int .u8 0, .int .u8 0, .int .i64 0, .bool false] cs) : ∃ m : Ch, cs = (chA m).toList ∧ m.s.ok := by
  obtain ⟨c0, d0, e0, h0, r0⟩ := leavesOk_split_ (a := [.int .i64 0, .int .i64 0, .int .i64 0, .int .i64 0, .int .i64 0, .int .u8 0, .int .u8 0, .int .u8 0, .int .u8 0, .int .u8 0, .int .u8 0, .int .u8 0, .int .u8 0, .int .i64 0, .int .u8 0, .int .u8 0, .int .u8 0, .int .u8 0, .int .u8 0, .int .u8 0, .int .u8 0, .int .u8 0, .int .i64 0, .int .u8 0, .int .u8 0, .int .u8 0, .int .u8 0, .int .u8 0, .int .u8 0, .int .u8 0, .int .u8 0, .int .i64 0]) (b := [.bool false]) h
  obtain ⟨m, h1, h2⟩ := rs_list h0
  simp only [leavesOk, leafOk] at r0
  obtain ⟨_, _, rfl, ⟨i, rfl⟩, rfl⟩ := r0
  refine ⟨⟨m, i⟩, ?_, h2⟩
  rw [e0, h1]
  rfl
theorem ch_open {cs : Array Value} (h : leavesOk [.int .i64 0, .int .i64 0, .int .i64 0, .int .i64 0, .int .i64 0, .int .u8 0, .int .u8 0, .int .u8 0, .int .u8 0, .int .u8 0, .int .u8 0, .int .u8 0, .int .u8 0, .int .i64 0, .int .u8 0, .int .u8 0, .int .u8 0, .int .u8 0, .int .u8 0, .int .u8 0, .int .u8 0, .int .u8 0, .int .i64 0, .int .u8 0, .int .u8 0, .int .u8 0, .int .u8 0, .int .u8 0, .int .u8 0, .int .u8 0, .int .u8 0, .int .i64 0, .bool false] cs.toList) : ∃ m : Ch, cs = chA m ∧ m.s.ok := by
  obtain ⟨m, h1, h2⟩ := ch_list h
  exact ⟨m, Array.toList_inj.1 h1, h2⟩

instance : Inhabited Ch := ⟨zeroCh⟩
section
variable {H : Type} {enc : TypeId × Value → H} {P : Program} {w : World} {base : Nat} {spare : Nat → Bool} {held : Bool}
/-- a slice of choices that can be read -/
theorem chs_open {t e : TypeId} {fuel : Nat} {A : Option Addr} {L C : Nat} {x : DataW H × List MemPlace} (ht : P.underlying t = some (.slice e)) (hk : leavesOf P 8 e = some [.int .i64 0, .int .i64 0, .int .i64 0, .int .i64 0, .int .i64 0, .int .u8 0, .int .u8 0, .int .u8 0, .int .u8 0, .int .u8 0, .int .u8 0, .int .u8 0, .int .u8 0, .int .i64 0, .int .u8 0, .int .u8 0, .int .u8 0, .int .u8 0, .int .u8 0, .int .u8 0, .int .u8 0, .int .u8 0, .int .i64 0, .int .u8 0, .int .u8 0, .int .u8 0, .int .u8 0, .int .u8 0, .int .u8 0, .int .u8 0, .int .u8 0, .int .i64 0, .bool false]) (hC : P.cellsOf e = 33) (h : DataW.trod enc P w base spare held fuel t [.slice A L C] = some x) : ∃ l, ChsOk w A L C l := by
  rcases Go.Deep.open_slice ht h with ⟨h0, _⟩ | ⟨a, len, cap, m, n, D, Pl, hcs, hb, hl, hm, hmm, _, hx⟩
  · simp at h0
    obtain ⟨rfl, rfl, rfl⟩ := h0
    exact ⟨[], rfl, by simp, by unfold maxLen; omega, by simp⟩
  · simp at hcs
    obtain ⟨rfl, rfl, rfl⟩ := hcs
    have hLm : L ≤ m := by rw [hmm]; split <;> omega
    have hel : ∀ i, i < L → ∃ s : Ch, s.s.ok ∧ ∀ j v, (chA s).toList[j]? = some v → w.cell? ((a.add (i * 33)).add j) = some v := by
      intro i hi
      obtain ⟨cs', h1, h2⟩ := hx i (by omega)
      rw [hC] at h1
      obtain ⟨s, hs, ho⟩ := ch_list (leaves_ok 8 hk h2)
      obtain ⟨_, hcl, hat⟩ := World.cells?_some h1
      refine ⟨s, ho, fun j v hv => ?_⟩
      have hj : j < 33 := by
        by_cases hj : j < 33
        · exact hj
        · rw [List.getElem?_eq_none (by have : (chA s).toList.length = 33 := rfl; omega)] at hv
          cases hv
      rw [hat j hj, hs, hv]
    obtain ⟨f, hf⟩ := Go.Deep.choose_lt (α := Ch) hel
    refine ⟨(List.range L).map f, by simp, ?_, by omega, ?_⟩
    · intro s hs
      obtain ⟨i, hi, rfl⟩ := List.mem_map.1 hs
      exact (hf i (List.mem_range.1 hi)).1
    · intro hpos
      obtain ⟨g, o, sp⟩ := a
      have hsp : sp = none := by
        have h0 := (hf 0 hpos).2 0 (.int .i64 (f 0).s.p1) rfl
        simp only [Nat.zero_mul, Addr.add, if_true] at h0
        cases sp with
        | none => rfl
        | some q =>
          unfold World.cell? at h0
          split at h0 <;> simp at h0
      subst hsp
      refine ⟨g, o, rfl, ?_⟩
      intro k s hk j v hv
      have hkL : k < L := by
        by_cases hkL : k < L
        · exact hkL
        · rw [List.getElem?_eq_none (by simp; omega)] at hk; cases hk
      simp [hkL] at hk
      subst hk
      have := (hf k hkL).2 j v hv
      rw [Addr.add_mid, Addr.add_mid] at this
      exact this
end

end Go.Proofs.Ytpdnfeooijmgoaa
