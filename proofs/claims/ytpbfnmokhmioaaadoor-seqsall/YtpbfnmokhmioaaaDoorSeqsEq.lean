/- Numbers, rows of three and answers compared by ==. -/
import Derived.Test.YtpbfnmokhmioaaaDoorRankEq
import Derived.Test.YtpbfnmokhmioaaaDoorSeqsMath
namespace Go.Proofs.YtpbfnmokhmioaaaDoor
set_option maxRecDepth 100000
open Go.RowKit
set_option linter.unusedVariables false

theorem run_part_boolS {P : Program} (w : World) (t : TypeId) (cs : Array Value) (off : Nat) (v : Value) (h : P.underlying t = some .bool) (hc : cs[off]? = some v) : (part t cs off).run P w = .ok v w := by
  have hagg : (isAgg t).run P w = .ok false w := by
    unfold isAgg
    rw [Sem.run_bind, run_underlying h w]
    rfl
  simp [part, hagg, hc]
theorem size_intS (w : World) : (sizeOf 3).run Tryd.prog w = .ok 1 w := by kernel_rfl
def eqX3 (a0 a1 a2 b0 b1 b2 : Int) : Bool := [a0, a1, a2] == [b0, b1, b2]
theorem eqX3_iff {a0 a1 a2 b0 b1 b2 : Int} : eqX3 a0 a1 a2 b0 b1 b2 = true ↔ a0 = b0 ∧ a1 = b1 ∧ a2 = b2 := by
  unfold eqX3
  rw [beq_iff_eq]
  simp
theorem equal_x3 (d : Nat) (a0 a1 a2 b0 b1 b2 : Int) (w : World) : (Op.equalIn (d + 2) 36 (.agg #[.int .i64 a0, .int .i64 a1, .int .i64 a2]) (.agg #[.int .i64 b0, .int .i64 b1, .int .i64 b2])).run Tryd.prog w = .ok (eqX3 a0 a1 a2 b0 b1 b2) w := by
  have h := run_equal_ints (P := Tryd.prog) w d 36 3 3 .i64 (by kernel_rfl) (by kernel_rfl) size_intS [a0, a1, a2] [b0, b1, b2] rfl rfl
  simp only [List.map_cons, List.map_nil] at h
  exact h
theorem eql_x3 (a0 a1 a2 b0 b1 b2 : Int) (w : World) : (binOp .eql 36 (.agg #[.int .i64 a0, .int .i64 a1, .int .i64 a2]) (.agg #[.int .i64 b0, .int .i64 b1, .int .i64 b2])).run Tryd.prog w = .ok (.bool (eqX3 a0 a1 a2 b0 b1 b2)) w := by
  rw [run_eql_struct, equal_x3]
  rfl
theorem neq_x3 (a0 a1 a2 b0 b1 b2 : Int) (w : World) : (binOp .neq 36 (.agg #[.int .i64 a0, .int .i64 a1, .int .i64 a2]) (.agg #[.int .i64 b0, .int .i64 b1, .int .i64 b2])).run Tryd.prog w = .ok (.bool (!eqX3 a0 a1 a2 b0 b1 b2)) w := by
  rw [run_neq_struct, equal_x3]
  rfl
set_option maxHeartbeats 4000000 in
theorem equal_nb (i j : Bool) (a b : Int) (w : World) : (Op.equalIn 10000 70 (.agg #[.bool i, .int .i64 a]) (.agg #[.bool j, .int .i64 b])).run Tryd.prog w = .ok ((i == j) && (a == b)) w := by
  rw [run_equalIn_agg w 9999 _ _ _ (by kernel_rfl) (by kernel_rfl)]
  obtain ⟨fs, hfs⟩ : ∃ fs, Tryd.prog.fieldsOf 70 = fs := ⟨_, rfl⟩
  rw [hfs]
  have hu := Tryd.underlying70
  simp only [Program.fieldsOf, hu] at hfs
  subst hfs
  clear hu
  rw [show ((i == j) && (a == b)) = ((i == j) && ((a == b) && true)) by simp only [Bool.and_true]]
  refine (run_eqFields_consR w _ _ _ _ _ _ _ (i == j) _ (by decide) (run_part_boolS w _ _ _ _ Tryd.underlying4 rfl) (run_part_boolS w _ _ _ _ Tryd.underlying4 rfl) (run_equalIn_bool w _ _ _ _ Tryd.underlying4) ?_)
  refine (run_eqFields_consR w _ _ _ _ _ _ _ (a == b) _ (by decide) (run_part_cell w _ .i64 _ _ _ Tryd.underlying3 rfl) (run_part_cell w _ .i64 _ _ _ Tryd.underlying3 rfl) (run_equalIn_int w _ _ _ _ _ _ Tryd.underlying3) ?_)
  exact run_eqFields_nilR w _ _ _
theorem neq_nb (i j : Bool) (a b : Int) (w : World) : (binOp .neq 70 (.agg #[.bool i, .int .i64 a]) (.agg #[.bool j, .int .i64 b])).run Tryd.prog w = .ok (.bool (!((i == j) && (a == b)))) w := by
  rw [run_neq_struct, equal_nb]
  rfl
def eqAn (a b : An) : Bool := (a.n == b.n) && (eqX3 a.x0 a.x1 a.x2 b.x0 b.x1 b.x2 && (a.is == b.is))
theorem eqAn_iff {a b : An} : eqAn a b = true ↔ a = b := by
  obtain ⟨a0, a1, a2, a3, a4⟩ := a
  obtain ⟨b0, b1, b2, b3, b4⟩ := b
  unfold eqAn
  simp only [Bool.and_eq_true, beq_iff_eq, eqX3_iff, An.mk.injEq, and_assoc]
theorem eqAn_self (a : An) : eqAn a a = true := eqAn_iff.2 rfl
set_option maxHeartbeats 4000000 in
theorem equal_an (a b : An) (w : World) : (Op.equalIn 10000 40 (.agg (anA a)) (.agg (anA b))).run Tryd.prog w = .ok (eqAn a b) w := by
  rw [run_equalIn_agg w 9999 _ _ _ (by kernel_rfl) (by kernel_rfl)]
  obtain ⟨fs, hfs⟩ : ∃ fs, Tryd.prog.fieldsOf 40 = fs := ⟨_, rfl⟩
  rw [hfs]
  have hu := Tryd.underlying40
  simp only [Program.fieldsOf, hu] at hfs
  subst hfs
  clear hu
  rw [show eqAn a b = ((a.n == b.n) && (eqX3 a.x0 a.x1 a.x2 b.x0 b.x1 b.x2 && ((a.is == b.is) && true))) by simp only [eqAn, Bool.and_true]]
  refine (run_eqFields_consR w _ _ _ _ _ _ _ (a.n == b.n) _ (by decide) (run_part_cell w _ .i64 _ _ _ Tryd.underlying3 rfl) (run_part_cell w _ .i64 _ _ _ Tryd.underlying3 rfl) (run_equalIn_int w _ _ _ _ _ _ Tryd.underlying3) ?_)
  refine (run_eqFields_consR w _ _ _ _ _ (.agg #[.int .i64 a.x0, .int .i64 a.x1, .int .i64 a.x2]) (.agg #[.int .i64 b.x0, .int .i64 b.x1, .int .i64 b.x2]) (eqX3 a.x0 a.x1 a.x2 b.x0 b.x1 b.x2) _ (by decide) (run_part_aggR w _ _ _ _ _ Tryd.underlying36 rfl (by kernel_rfl) (by kernel_rfl)) (run_part_aggR w _ _ _ _ _ Tryd.underlying36 rfl (by kernel_rfl) (by kernel_rfl)) (equal_x3 9997 a.x0 a.x1 a.x2 b.x0 b.x1 b.x2 w) ?_)
  refine (run_eqFields_consR w _ _ _ _ _ _ _ (a.is == b.is) _ (by decide) (run_part_boolS w _ _ _ _ Tryd.underlying4 rfl) (run_part_boolS w _ _ _ _ Tryd.underlying4 rfl) (run_equalIn_bool w _ _ _ _ Tryd.underlying4) ?_)
  exact run_eqFields_nilR w _ _ _
theorem neq_an (a b : An) (w : World) : (binOp .neq 40 (.agg (anA a)) (.agg (anA b))).run Tryd.prog w = .ok (.bool (!eqAn a b)) w := by
  rw [run_neq_struct, equal_an]
  rfl

end Go.Proofs.YtpbfnmokhmioaaaDoor
