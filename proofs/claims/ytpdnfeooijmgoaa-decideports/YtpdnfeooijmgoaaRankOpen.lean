/- A value of the type of sets that can be read is a set. -/
import Derived.Test.YtpdnfeooijmgoaaFlat
import Derived.Test.YtpdnfeooijmgoaaRankSets
import Derived.Deep.Slices
import Derived.Test.YtpdnfeooijmgoaaIdentOpen
namespace Go.Proofs.Ytpdnfeooijmgoaa
set_option maxRecDepth 100000
open Go.ChangeShapes Go.WideShapes Go.ChangeAt Go.RowKit
set_option linter.unusedVariables false

theorem leavesOk_split_ : ∀ {a b : List Lit} {cs : List Value}, leavesOk (a ++ b) cs → ∃ c d, cs = c ++ d ∧ leavesOk a c ∧ leavesOk b d
  | [], b, cs, h => ⟨[], cs, rfl, rfl, h⟩
  | k :: a, b, cs, h => by
    obtain ⟨v, vs, rfl, hk, h⟩ := h
    obtain ⟨c, d, rfl, h1, h2⟩ := leavesOk_split_ h
    exact ⟨v :: c, d, rfl, ⟨v, c, rfl, hk, h1⟩, h2⟩
theorem open_r0 {cs : List Value} (h : leavesOk [.int .i64 0, .int .i64 0, .int .i64 0, .int .i64 0, .int .i64 0, .int .u8 0, .int .u8 0, .int .u8 0, .int .u8 0, .int .u8 0, .int .u8 0, .int .u8 0, .int .u8 0, .int .i64 0] cs) : ∃ a0 a1 a2 a3 a4 a5 a6 a7 a8 a9 a10 a11 a12 a13 : Int, cs = [.int .i64 a0, .int .i64 a1, .int .i64 a2, .int .i64 a3, .int .i64 a4, .int .u8 a5, .int .u8 a6, .int .u8 a7, .int .u8 a8, .int .u8 a9, .int .u8 a10, .int .u8 a11, .int .u8 a12, .int .i64 a13] ∧ (Lit.int .i64 a0).wf = true ∧ (Lit.int .i64 a1).wf = true ∧ (Lit.int .i64 a2).wf = true ∧ (Lit.int .i64 a3).wf = true ∧ (Lit.int .i64 a4).wf = true ∧ (Lit.int .u8 a5).wf = true ∧ (Lit.int .u8 a6).wf = true ∧ (Lit.int .u8 a7).wf = true ∧ (Lit.int .u8 a8).wf = true ∧ (Lit.int .u8 a9).wf = true ∧ (Lit.int .u8 a10).wf = true ∧ (Lit.int .u8 a11).wf = true ∧ (Lit.int .u8 a12).wf = true ∧ (Lit.int .i64 a13).wf = true := by
  simp only [leavesOk, leafOk] at h
  obtain ⟨_, _, rfl, ⟨a0, rfl, w0⟩, _, _, rfl, ⟨a1, rfl, w1⟩, _, _, rfl, ⟨a2, rfl, w2⟩, _, _, rfl, ⟨a3, rfl, w3⟩, _, _, rfl, ⟨a4, rfl, w4⟩, _, _, rfl, ⟨a5, rfl, w5⟩, _, _, rfl, ⟨a6, rfl, w6⟩, _, _, rfl, ⟨a7, rfl, w7⟩, _, _, rfl, ⟨a8, rfl, w8⟩, _, _, rfl, ⟨a9, rfl, w9⟩, _, _, rfl, ⟨a10, rfl, w10⟩, _, _, rfl, ⟨a11, rfl, w11⟩, _, _, rfl, ⟨a12, rfl, w12⟩, _, _, rfl, ⟨a13, rfl, w13⟩, rfl⟩ := h
  exact ⟨a0, a1, a2, a3, a4, a5, a6, a7, a8, a9, a10, a11, a12, a13, rfl, w0, w1, w2, w3, w4, w5, w6, w7, w8, w9, w10, w11, w12, w13⟩
theorem open_r1 {cs : List Value} (h : leavesOk [.int .u8 0, .int .u8 0, .int .u8 0, .int .u8 0, .int .u8 0, .int .u8 0, .int .u8 0, .int .u8 0, .int .i64 0] cs) : ∃ a14 a15 a16 a17 a18 a19 a20 a21 a22 : Int, cs = [.int .u8 a14, .int .u8 a15, .int .u8 a16, .int .u8 a17, .int .u8 a18, .int .u8 a19, .int .u8 a20, .int .u8 a21, .int .i64 a22] ∧ (Lit.int .u8 a14).wf = true ∧ (Lit.int .u8 a15).wf = true ∧ (Lit.int .u8 a16).wf = true ∧ (Lit.int .u8 a17).wf = true ∧ (Lit.int .u8 a18).wf = true ∧ (Lit.int .u8 a19).wf = true ∧ (Lit.int .u8 a20).wf = true ∧ (Lit.int .u8 a21).wf = true ∧ (Lit.int .i64 a22).wf = true := by
  simp only [leavesOk, leafOk] at h
  obtain ⟨_, _, rfl, ⟨a14, rfl, w14⟩, _, _, rfl, ⟨a15, rfl, w15⟩, _, _, rfl, ⟨a16, rfl, w16⟩, _, _, rfl, ⟨a17, rfl, w17⟩, _, _, rfl, ⟨a18, rfl, w18⟩, _, _, rfl, ⟨a19, rfl, w19⟩, _, _, rfl, ⟨a20, rfl, w20⟩, _, _, rfl, ⟨a21, rfl, w21⟩, _, _, rfl, ⟨a22, rfl, w22⟩, rfl⟩ := h
  exact ⟨a14, a15, a16, a17, a18, a19, a20, a21, a22, rfl, w14, w15, w16, w17, w18, w19, w20, w21, w22⟩
theorem open_r2 {cs : List Value} (h : leavesOk [.int .u8 0, .int .u8 0, .int .u8 0, .int .u8 0, .int .u8 0, .int .u8 0, .int .u8 0, .int .u8 0, .int .i64 0] cs) : ∃ a23 a24 a25 a26 a27 a28 a29 a30 a31 : Int, cs = [.int .u8 a23, .int .u8 a24, .int .u8 a25, .int .u8 a26, .int .u8 a27, .int .u8 a28, .int .u8 a29, .int .u8 a30, .int .i64 a31] ∧ (Lit.int .u8 a23).wf = true ∧ (Lit.int .u8 a24).wf = true ∧ (Lit.int .u8 a25).wf = true ∧ (Lit.int .u8 a26).wf = true ∧ (Lit.int .u8 a27).wf = true ∧ (Lit.int .u8 a28).wf = true ∧ (Lit.int .u8 a29).wf = true ∧ (Lit.int .u8 a30).wf = true ∧ (Lit.int .i64 a31).wf = true := by
  simp only [leavesOk, leafOk] at h
  obtain ⟨_, _, rfl, ⟨a23, rfl, w23⟩, _, _, rfl, ⟨a24, rfl, w24⟩, _, _, rfl, ⟨a25, rfl, w25⟩, _, _, rfl, ⟨a26, rfl, w26⟩, _, _, rfl, ⟨a27, rfl, w27⟩, _, _, rfl, ⟨a28, rfl, w28⟩, _, _, rfl, ⟨a29, rfl, w29⟩, _, _, rfl, ⟨a30, rfl, w30⟩, _, _, rfl, ⟨a31, rfl, w31⟩, rfl⟩ := h
  exact ⟨a23, a24, a25, a26, a27, a28, a29, a30, a31, rfl, w23, w24, w25, w26, w27, w28, w29, w30, w31⟩
theorem rs_list {cs : List Value} (h : leavesOk [.int .i64 0, .int .i64 0, .int .i64 0, .int .i64 0, .int .i64 0, .int .u8 0, .int .u8 0, .int .u8 0, .int .u8 0, .int .u8 0, .int .u8 0, .int .u8 0, .int .u8 0, .int .i64 0, .int .u8 0, .int .u8 0, .int .u8 0, .int .u8 0, .int .u8 0, .int .u8 0, .int .u8 0, .int .u8 0, .int .i64 0, .int .u8 0, .int .u8 0, .int .u8 0, .int .u8 0, .int .u8 0, .int .u8 0, .int .u8 0, .int .u8 0, .int .i64 0] cs) : ∃ m : Rs, cs = (rsA m).toList ∧ m.ok := by
  obtain ⟨c0, d0, e0, h0, r0⟩ := leavesOk_split_ (a := [.int .i64 0, .int .i64 0, .int .i64 0, .int .i64 0, .int .i64 0, .int .u8 0, .int .u8 0, .int .u8 0, .int .u8 0, .int .u8 0, .int .u8 0, .int .u8 0, .int .u8 0, .int .i64 0]) (b := [.int .u8 0, .int .u8 0, .int .u8 0, .int .u8 0, .int .u8 0, .int .u8 0, .int .u8 0, .int .u8 0, .int .i64 0, .int .u8 0, .int .u8 0, .int .u8 0, .int .u8 0, .int .u8 0, .int .u8 0, .int .u8 0, .int .u8 0, .int .i64 0]) h
  obtain ⟨c1, c2, e1, h1, h2⟩ := leavesOk_split_ (a := [.int .u8 0, .int .u8 0, .int .u8 0, .int .u8 0, .int .u8 0, .int .u8 0, .int .u8 0, .int .u8 0, .int .i64 0]) (b := [.int .u8 0, .int .u8 0, .int .u8 0, .int .u8 0, .int .u8 0, .int .u8 0, .int .u8 0, .int .u8 0, .int .i64 0]) r0
  obtain ⟨a0, a1, a2, a3, a4, a5, a6, a7, a8, a9, a10, a11, a12, a13, x0, w0, w1, w2, w3, w4, w5, w6, w7, w8, w9, w10, w11, w12, w13⟩ := open_r0 h0
  obtain ⟨a14, a15, a16, a17, a18, a19, a20, a21, a22, x1, w14, w15, w16, w17, w18, w19, w20, w21, w22⟩ := open_r1 h1
  obtain ⟨a23, a24, a25, a26, a27, a28, a29, a30, a31, x2, w23, w24, w25, w26, w27, w28, w29, w30, w31⟩ := open_r2 h2
  refine ⟨⟨a0, a1, a2, a3, a4, ⟨a5, a6, a7, a8, a9, a10, a11, a12⟩, a13, ⟨⟨a14, a15, a16, a17, a18, a19, a20, a21⟩, a22⟩, ⟨⟨a23, a24, a25, a26, a27, a28, a29, a30⟩, a31⟩⟩, ?_, ⟨(ok8 w5 w6 w7 w8 w9 w10 w11 w12), (ok8 w14 w15 w16 w17 w18 w19 w20 w21), (ok8 w23 w24 w25 w26 w27 w28 w29 w30), (in64_wf w13).1, (in64_wf w13).2⟩⟩
  rw [e0, e1, x0, x1, x2]
  rfl
theorem rs_open {cs : Array Value} (h : leavesOk [.int .i64 0, .int .i64 0, .int .i64 0, .int .i64 0, .int .i64 0, .int .u8 0, .int .u8 0, .int .u8 0, .int .u8 0, .int .u8 0, .int .u8 0, .int .u8 0, .int .u8 0, .int .i64 0, .int .u8 0, .int .u8 0, .int .u8 0, .int .u8 0, .int .u8 0, .int .u8 0, .int .u8 0, .int .u8 0, .int .i64 0, .int .u8 0, .int .u8 0, .int .u8 0, .int .u8 0, .int .u8 0, .int .u8 0, .int .u8 0, .int .u8 0, .int .i64 0] cs.toList) : ∃ m : Rs, cs = rsA m ∧ m.ok := by
  obtain ⟨m, h1, h2⟩ := rs_list h
  exact ⟨m, Array.toList_inj.1 h1, h2⟩

instance : Inhabited Rs := ⟨zeroR⟩
section
variable {H : Type} {enc : TypeId × Value → H} {P : Program} {w : World} {base : Nat} {spare : Nat → Bool} {held : Bool}
/-- a slice of sets that can be read -/
theorem sets_open {t e : TypeId} {fuel : Nat} {A : Option Addr} {L C : Nat} {x : DataW H × List MemPlace} (ht : P.underlying t = some (.slice e)) (hk : leavesOf P 8 e = some [.int .i64 0, .int .i64 0, .int .i64 0, .int .i64 0, .int .i64 0, .int .u8 0, .int .u8 0, .int .u8 0, .int .u8 0, .int .u8 0, .int .u8 0, .int .u8 0, .int .u8 0, .int .i64 0, .int .u8 0, .int .u8 0, .int .u8 0, .int .u8 0, .int .u8 0, .int .u8 0, .int .u8 0, .int .u8 0, .int .i64 0, .int .u8 0, .int .u8 0, .int .u8 0, .int .u8 0, .int .u8 0, .int .u8 0, .int .u8 0, .int .u8 0, .int .i64 0]) (hC : P.cellsOf e = 32) (h : DataW.trod enc P w base spare held fuel t [.slice A L C] = some x) : ∃ l, SetsOk w A L C l := by
  rcases Go.Deep.open_slice ht h with ⟨h0, _⟩ | ⟨a, len, cap, m, n, D, Pl, hcs, hb, hl, hm, hmm, _, hx⟩
  · simp at h0
    obtain ⟨rfl, rfl, rfl⟩ := h0
    exact ⟨[], rfl, by simp, by unfold maxLen; omega, by simp⟩
  · simp at hcs
    obtain ⟨rfl, rfl, rfl⟩ := hcs
    have hLm : L ≤ m := by rw [hmm]; split <;> omega
    have hel : ∀ i, i < L → ∃ s : Rs, s.ok ∧ ∀ j v, (rsA s).toList[j]? = some v → w.cell? ((a.add (i * 32)).add j) = some v := by
      intro i hi
      obtain ⟨cs', h1, h2⟩ := hx i (by omega)
      rw [hC] at h1
      obtain ⟨s, hs, ho⟩ := rs_list (leaves_ok 8 hk h2)
      obtain ⟨_, hcl, hat⟩ := World.cells?_some h1
      refine ⟨s, ho, fun j v hv => ?_⟩
      have hj : j < 32 := by
        by_cases hj : j < 32
        · exact hj
        · rw [List.getElem?_eq_none (by have : (rsA s).toList.length = 32 := rfl; omega)] at hv
          cases hv
      rw [hat j hj, hs, hv]
    obtain ⟨f, hf⟩ := Go.Deep.choose_lt (α := Rs) hel
    refine ⟨(List.range L).map f, by simp, ?_, by omega, ?_⟩
    · intro s hs
      obtain ⟨i, hi, rfl⟩ := List.mem_map.1 hs
      exact (hf i (List.mem_range.1 hi)).1
    · intro hpos
      obtain ⟨g, o, sp⟩ := a
      have hsp : sp = none := by
        have h0 := (hf 0 hpos).2 0 (.int .i64 (f 0).p1) rfl
        simp only [Nat.zero_mul, Addr.add, if_true] at h0
        cases sp with
        | none => rfl
        | some q =>
          unfold World.cell? at h0
          split at h0 <;> simp at h0
      subst hsp
      refine ⟨g, o, rfl, ?_⟩
      intro k s hk j v hv
      have hkL : k < L := by
        by_cases hkL : k < L
        · exact hkL
        · rw [List.getElem?_eq_none (by simp; omega)] at hk; cases hk
      simp [hkL] at hk
      subst hk
      have := (hf k hkL).2 j v hv
      rw [Addr.add_mid, Addr.add_mid] at this
      exact this
end

end Go.Proofs.Ytpdnfeooijmgoaa
