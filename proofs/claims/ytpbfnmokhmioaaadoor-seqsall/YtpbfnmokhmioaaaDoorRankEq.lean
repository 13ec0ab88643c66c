/- Sets compared by ==. -/
import Derived.Test.YtpbfnmokhmioaaaDoorForeignMath
import Derived.Test.YtpbfnmokhmioaaaDoorIdentEq
import Derived.Test.YtpbfnmokhmioaaaDoorBigCore
namespace Go.Proofs.YtpbfnmokhmioaaaDoor
set_option maxRecDepth 100000
open Go.RowKit
set_option linter.unusedVariables false

section
variable {P : Program} (w : World)
theorem run_eqFields_nilR (d : Nat) (xs ys : Array Value) : (Op.eqFields d xs ys []).run P w = .ok true w := by simp [Op.eqFields]
theorem run_eqFields_consR (d : Nat) (xs ys : Array Value) (f : Field) (fs : List Field) (x y : Value) (b c : Bool) (hn : f.name ≠ "_") (hx : (part f.type xs f.offset).run P w = .ok x w) (hy : (part f.type ys f.offset).run P w = .ok y w)
    (he : (Op.equalIn d f.type x y).run P w = .ok b w) (hr : (Op.eqFields d xs ys fs).run P w = .ok c w) : (Op.eqFields d xs ys (f :: fs)).run P w = .ok (b && c) w := by
  simp only [Op.eqFields, Sem.run_bind, Sem.run_ite, if_pos hn, hx, hy, he, Result.andThen_ok]
  cases b
  · simp
  · simp [hr]
theorem run_part_aggR (t : TypeId) (cs ls : Array Value) (off : Nat) (d : TypeDesc) (hu : P.underlying t = some d) (hd : d.isRow = true) (hi : (P.info? t).map (·.size) = some ls.size) (he : (cs.toList.drop off).take ls.toList.length = ls.toList) : (part t cs off).run P w = .ok (.agg ls) w := by
  have hagg : (isAgg t).run P w = .ok true w := by
    unfold isAgg
    rw [Sem.run_bind, run_underlying hu w]
    cases d <;> simp_all
  cases hq : P.info? t with
  | none => simp [hq] at hi
  | some i =>
    have hs : i.size = ls.size := by simpa [hq] using hi
    have he' : cs.extract off (off + ls.size) = ls := by
      apply Array.toList_inj.1
      rw [Array.toList_extract, List.extract_eq_take_drop, Nat.add_sub_cancel_left]
      rw [Array.length_toList] at he
      exact he
    simp [part, hagg, sizeOf, typeInfo, hq, hs, he']
end
theorem equal_clk9998R (a b : Ck) (w : World) : (Op.equalIn 9998 33 (.agg #[.int .u8 a.b0, .int .u8 a.b1, .int .u8 a.b2, .int .u8 a.b3, .int .u8 a.b4, .int .u8 a.b5, .int .u8 a.b6, .int .u8 a.b7]) (.agg #[.int .u8 b.b0, .int .u8 b.b1, .int .u8 b.b2, .int .u8 b.b3, .int .u8 b.b4, .int .u8 b.b5, .int .u8 b.b6, .int .u8 b.b7])).run Tryd.prog w = .ok (eqC a b) w := by
  have h := run_equal_ints (P := Tryd.prog) w 9996 33 5 8 .u8 (by kernel_rfl) (by kernel_rfl) size_byte a.l b.l rfl rfl
  simp only [Ck.l, List.map_cons, List.map_nil] at h
  exact h
theorem equal_clk9999R (a b : Ck) (w : World) : (Op.equalIn 9999 33 (.agg #[.int .u8 a.b0, .int .u8 a.b1, .int .u8 a.b2, .int .u8 a.b3, .int .u8 a.b4, .int .u8 a.b5, .int .u8 a.b6, .int .u8 a.b7]) (.agg #[.int .u8 b.b0, .int .u8 b.b1, .int .u8 b.b2, .int .u8 b.b3, .int .u8 b.b4, .int .u8 b.b5, .int .u8 b.b6, .int .u8 b.b7])).run Tryd.prog w = .ok (eqC a b) w := by
  have h := run_equal_ints (P := Tryd.prog) w 9997 33 5 8 .u8 (by kernel_rfl) (by kernel_rfl) size_byte a.l b.l rfl rfl
  simp only [Ck.l, List.map_cons, List.map_nil] at h
  exact h
set_option maxHeartbeats 4000000 in
theorem equal_prt9999R (a b : Pt) (w : World) : (Op.equalIn 9999 35 (.agg #[.int .u8 a.c.b0, .int .u8 a.c.b1, .int .u8 a.c.b2, .int .u8 a.c.b3, .int .u8 a.c.b4, .int .u8 a.c.b5, .int .u8 a.c.b6, .int .u8 a.c.b7, .int .i64 a.n]) (.agg #[.int .u8 b.c.b0, .int .u8 b.c.b1, .int .u8 b.c.b2, .int .u8 b.c.b3, .int .u8 b.c.b4, .int .u8 b.c.b5, .int .u8 b.c.b6, .int .u8 b.c.b7, .int .i64 b.n])).run Tryd.prog w = .ok (eqP a b) w := by
  rw [run_equalIn_agg w 9998 _ _ _ (by kernel_rfl) (by kernel_rfl)]
  obtain ⟨fs, hfs⟩ : ∃ fs, Tryd.prog.fieldsOf 35 = fs := ⟨_, rfl⟩
  rw [hfs]
  have hu := Tryd.underlying35
  simp only [Program.fieldsOf, hu] at hfs
  subst hfs
  clear hu
  rw [show eqP a b = (eqC a.c b.c && ((a.n == b.n) && true)) by simp only [eqP, Bool.and_true]]
  refine (run_eqFields_consR w _ _ _ _ _ (.agg #[.int .u8 a.c.b0, .int .u8 a.c.b1, .int .u8 a.c.b2, .int .u8 a.c.b3, .int .u8 a.c.b4, .int .u8 a.c.b5, .int .u8 a.c.b6, .int .u8 a.c.b7]) (.agg #[.int .u8 b.c.b0, .int .u8 b.c.b1, .int .u8 b.c.b2, .int .u8 b.c.b3, .int .u8 b.c.b4, .int .u8 b.c.b5, .int .u8 b.c.b6, .int .u8 b.c.b7]) (eqC a.c b.c) _ (by decide) (run_part_aggR w _ _ _ _ _ Tryd.underlying33 rfl (by kernel_rfl) (by kernel_rfl)) (run_part_aggR w _ _ _ _ _ Tryd.underlying33 rfl (by kernel_rfl) (by kernel_rfl)) (equal_clk9998R a.c b.c w) ?_)
  refine (run_eqFields_consR w _ _ _ _ _ _ _ (a.n == b.n) _ (by decide) (run_part_cell w _ .i64 _ _ _ Tryd.underlying3 rfl) (run_part_cell w _ .i64 _ _ _ Tryd.underlying3 rfl) (run_equalIn_int w _ _ _ _ _ _ Tryd.underlying3) ?_)
  exact run_eqFields_nilR w _ _ _
end Go.Proofs.YtpbfnmokhmioaaaDoor
