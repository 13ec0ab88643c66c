/- Plain words on codes of a clock that follows nobody; its class, made 1 to 127. No program is read here. -/
import Derived.Test.YtpdnfeooijmgoaaDecideLeadB
namespace Go.Proofs.Ytpdnfeooijmgoaa
set_option maxRecDepth 100000
open Go.RowKit
set_option linter.unusedVariables false

/-- another class -/
def withQ (me : Rs) (q : Int) : Rs := ⟨me.p1, me.p2, q, me.q2, me.q3, me.gr, me.st, me.sn, me.rc⟩
theorem withQ_ok {me : Rs} (h : me.ok) (q : Int) : (withQ me q).ok := ⟨h.g, h.s, h.r, h.lo, h.hi⟩
theorem and127 (x : Int) : 0 ≤ bits .and .i64 x 127 ∧ bits .and .i64 x 127 ≤ 127 := by
  have hb : (BitVec.ofInt IntKind.i64.bits 127).toNat = 127 := by decide
  have h : (BitVec.ofInt IntKind.i64.bits x &&& BitVec.ofInt IntKind.i64.bits 127).toNat ≤ 127 := by
    rw [BitVec.toNat_and, hb]
    exact Nat.and_le_right
  have hw : bits .and .i64 x 127 = IntKind.i64.wrap (((BitVec.ofInt IntKind.i64.bits x &&& BitVec.ofInt IntKind.i64.bits 127).toNat : Nat) : Int) := rfl
  rw [hw, IntKind.wrap_i64]
  omega
theorem class_bd (x : Int) : 0 < wrap64 (1 + (bits .and .i64 x 127).tmod 127) ∧ wrap64 (1 + (bits .and .i64 x 127).tmod 127) < 128 := by
  obtain ⟨h0, h1⟩ := and127 x
  generalize bits .and .i64 x 127 = y at *
  have h2 : y.tmod 127 = y % 127 := Int.tmod_eq_emod_of_nonneg h0
  rw [h2]
  have h3 : 0 ≤ y % 127 ∧ y % 127 < 127 := by omega
  generalize y % 127 = z at *
  have h4 : wrap64 (1 + z) = 1 + z := by unfold wrap64; omega
  rw [h4]
  omega
theorem dec_follows {me : Rs} {l : List Ch} {k : Nat} {st : Int} {r : Ch} (hr : l[k]? = some r) (hq : 0 < me.q1 ∧ me.q1 < 128) : decideN me l (k : Int) st = 0 ∨ decideN me l (k : Int) st = 1 ∨ (decideN me l (k : Int) st = 5 ∧ r.is = true) := by
  unfold decideN
  rw [getD_of hr]
  split
  · exact .inl rfl
  split
  · exact .inl rfl
  split
  · exact .inr (.inl rfl)
  · rename_i h
    refine .inr (.inr ⟨rfl, ?_⟩)
    cases hi : r.is
    · exact absurd (better_some rfl hi) h
    · rfl

end Go.Proofs.Ytpdnfeooijmgoaa
