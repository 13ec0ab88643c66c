/- Sets compared by ==. -/
import Derived.Test.YtcmcgkcljefckaaForeignMath
import Derived.Test.YtcmcgkcljefckaaIdentEq
import Derived.Test.YtcmcgkcljefckaaBigCore
namespace Go.Proofs.Ytcmcgkcljefckaa
set_option maxRecDepth 100000
open Go.RowKit
set_option linter.unusedVariables false

section
variable {P : Program} (w : World)
theorem run_eqFields_nilR (d : Nat) (xs ys : Array Value) : (Op.eqFields d xs ys []).run P w = .ok true w := by simp [Op.eqFields]
theorem run_eqFields_consR (d : Nat) (xs ys : Array Value) (f : Field) (fs : List Field) (x y : Value) (b c : Bool) (hn : f.name ≠ "_") (hx : (part f.type xs f.offset).run P w = .ok x w) (hy : (part f.type ys f.offset).run P w = .ok y w)
    (he : (Op.equalIn d f.type x y).run P w = .ok b w) (hr : (Op.eqFields d xs ys fs).run P w = .ok c w) : (Op.eqFields d xs ys (f :: fs)).run P w = .ok (b && c) w := by
  simp only [Op.eqFields, Sem.run_bind, Sem.run_ite, if_pos hn, hx, hy, he, Result.andThen_ok]
  cases b
  · simp
  · simp [hr]
theorem run_part_aggR (t : TypeId) (cs ls : Array Value) (off : Nat) (d : TypeDesc) (hu : P.underlying t = some d) (hd : d.isRow = true) (hi : (P.info? t).map (·.size) = some ls.size) (he : (cs.toList.drop off).take ls.toList.length = ls.toList) : (part t cs off).run P w = .ok (.agg ls) w := by
  have hagg : (isAgg t).run P w = .ok true w := by
    unfold isAgg
    rw [Sem.run_bind, run_underlying hu w]
    cases d <;> simp_all
  cases hq : P.info? t with
  | none => simp [hq] at hi
  | some i =>
    have hs : i.size = ls.size := by simpa [hq] using hi
    have he' : cs.extract off (off + ls.size) = ls := by
      apply Array.toList_inj.1
      rw [Array.toList_extract, List.extract_eq_take_drop, Nat.add_sub_cancel_left]
      rw [Array.length_toList] at he
      exact he
    simp [part, hagg, sizeOf, typeInfo, hq, hs, he']
end
theorem equal_clk9998R (a b : Ck) (w : World) : (Op.equalIn 9998 24 (.agg #[.int .u8 a.b0, .int .u8 a.b1, .int .u8 a.b2, .int .u8 a.b3, .int .u8 a.b4, .int .u8 a.b5, .int .u8 a.b6, .int .u8 a.b7]) (.agg #[.int .u8 b.b0, .int .u8 b.b1, .int .u8 b.b2, .int .u8 b.b3, .int .u8 b.b4, .int .u8 b.b5, .int .u8 b.b6, .int .u8 b.b7])).run Try.prog w = .ok (eqC a b) w := by
  have h := run_equal_ints (P := Try.prog) w 9996 24 5 8 .u8 (by kernel_rfl) (by kernel_rfl) size_byte a.l b.l rfl rfl
  simp only [Ck.l, List.map_cons, List.map_nil] at h
  exact h
theorem equal_clk9999R (a b : Ck) (w : World) : (Op.equalIn 9999 24 (.agg #[.int .u8 a.b0, .int .u8 a.b1, .int .u8 a.b2, .int .u8 a.b3, .int .u8 a.b4, .int .u8 a.b5, .int .u8 a.b6, .int .u8 a.b7]) (.agg #[.int .u8 b.b0, .int .u8 b.b1, .int .u8 b.b2, .int .u8 b.b3, .int .u8 b.b4, .int .u8 b.b5, .int .u8 b.b6, .int .u8 b.b7])).run Try.prog w = .ok (eqC a b) w := by
  have h := run_equal_ints (P := Try.prog) w 9997 24 5 8 .u8 (by kernel_rfl) (by kernel_rfl) size_byte a.l b.l rfl rfl
  simp only [Ck.l, List.map_cons, List.map_nil] at h
  exact h
set_option maxHeartbeats 4000000 in
theorem equal_prt9999R (a b : Pt) (w : World) : (Op.equalIn 9999 26 (.agg #[.int .u8 a.c.b0, .int .u8 a.c.b1, .int .u8 a.c.b2, .int .u8 a.c.b3, .int .u8 a.c.b4, .int .u8 a.c.b5, .int .u8 a.c.b6, .int .u8 a.c.b7, .int .i64 a.n]) (.agg #[.int .u8 b.c.b0, .int .u8 b.c.b1, .int .u8 b.c.b2, .int .u8 b.c.b3, .int .u8 b.c.b4, .int .u8 b.c.b5, .int .u8 b.c.b6, .int .u8 b.c.b7, .int .i64 b.n])).run Try.prog w = .ok (eqP a b) w := by
  rw [run_equalIn_agg w 9998 _ _ _ (by kernel_rfl) (by kernel_rfl)]
  obtain ⟨fs, hfs⟩ : ∃ fs, Try.prog.fieldsOf 26 = fs := ⟨_, rfl⟩
  rw [hfs]
  have hu := Try.underlying26
  simp only [Program.fieldsOf, hu] at hfs
  subst hfs
  clear hu
  rw [show eqP a b = (eqC a.c b.c && ((a.n == b.n) && true)) by simp only [eqP, Bool.and_true]]
  refine (run_eqFields_consR w _ _ _ _ _ (.agg #[.int .u8 a.c.b0, .int .u8 a.c.b1, .int .u8 a.c.b2, .int .u8 a.c.b3, .int .u8 a.c.b4, .int .u8 a.c.b5, .int .u8 a.c.b6, .int .u8 a.c.b7]) (.agg #[.int .u8 b.c.b0, .int .u8 b.c.b1, .int .u8 b.c.b2, .int .u8 b.c.b3, .int .u8 b.c.b4, .int .u8 b.c.b5, .int .u8 b.c.b6, .int .u8 b.c.b7]) (eqC a.c b.c) _ (by decide) (run_part_aggR w _ _ _ _ _ Try.underlying24 rfl (by kernel_rfl) (by kernel_rfl)) (run_part_aggR w _ _ _ _ _ Try.underlying24 rfl (by kernel_rfl) (by kernel_rfl)) (equal_clk9998R a.c b.c w) ?_)
  refine (run_eqFields_consR w _ _ _ _ _ _ _ (a.n == b.n) _ (by decide) (run_part_cell w _ .i64 _ _ _ Try.underlying3 rfl) (run_part_cell w _ .i64 _ _ _ Try.underlying3 rfl) (run_equalIn_int w _ _ _ _ _ _ Try.underlying3) ?_)
  exact run_eqFields_nilR w _ _ _
set_option maxHeartbeats 4000000 in
theorem equal_qual9999R (a b c e f g : Int) (w : World) : (Op.equalIn 9999 29 (.agg #[.int .i64 a, .int .i64 b, .int .i64 c]) (.agg #[.int .i64 e, .int .i64 f, .int .i64 g])).run Try.prog w = .ok (a == e && (b == f && c == g)) w := by
  rw [run_equalIn_agg w 9998 _ _ _ (by kernel_rfl) (by kernel_rfl)]
  obtain ⟨fs, hfs⟩ : ∃ fs, Try.prog.fieldsOf 29 = fs := ⟨_, rfl⟩
  rw [hfs]
  have hu := Try.underlying29
  simp only [Program.fieldsOf, hu] at hfs
  subst hfs
  clear hu
  rw [show (a == e && (b == f && c == g)) = ((a == e) && ((b == f) && ((c == g) && true))) by simp only [Bool.and_true]]
  refine (run_eqFields_consR w _ _ _ _ _ _ _ (a == e) _ (by decide) (run_part_cell w _ .i64 _ _ _ Try.underlying3 rfl) (run_part_cell w _ .i64 _ _ _ Try.underlying3 rfl) (run_equalIn_int w _ _ _ _ _ _ Try.underlying3) ?_)
  refine (run_eqFields_consR w _ _ _ _ _ _ _ (b == f) _ (by decide) (run_part_cell w _ .i64 _ _ _ Try.underlying3 rfl) (run_part_cell w _ .i64 _ _ _ Try.underlying3 rfl) (run_equalIn_int w _ _ _ _ _ _ Try.underlying3) ?_)
  refine (run_eqFields_consR w _ _ _ _ _ _ _ (c == g) _ (by decide) (run_part_cell w _ .i64 _ _ _ Try.underlying3 rfl) (run_part_cell w _ .i64 _ _ _ Try.underlying3 rfl) (run_equalIn_int w _ _ _ _ _ _ Try.underlying3) ?_)
  exact run_eqFields_nilR w _ _ _
set_option maxHeartbeats 4000000 in
theorem equal_set10000R (a b : Rs) (w : World) : (Op.equalIn 10000 31 (.agg (rsA a)) (.agg (rsA b))).run Try.prog w = .ok (eqR a b) w := by
  rw [run_equalIn_agg w 9999 _ _ _ (by kernel_rfl) (by kernel_rfl)]
  obtain ⟨fs, hfs⟩ : ∃ fs, Try.prog.fieldsOf 31 = fs := ⟨_, rfl⟩
  rw [hfs]
  have hu := Try.underlying31
  simp only [Program.fieldsOf, hu] at hfs
  subst hfs
  clear hu
  rw [show eqR a b = ((a.p1 == b.p1) && ((a.p2 == b.p2) && ((a.q1 == b.q1 && (a.q2 == b.q2 && a.q3 == b.q3)) && (eqC a.gr b.gr && ((a.st == b.st) && (eqP a.sn b.sn && (eqP a.rc b.rc && true))))))) by simp only [eqR, Bool.and_true]]
  refine (run_eqFields_consR w _ _ _ _ _ _ _ (a.p1 == b.p1) _ (by decide) (run_part_cell w _ .i64 _ _ _ Try.underlying3 rfl) (run_part_cell w _ .i64 _ _ _ Try.underlying3 rfl) (run_equalIn_int w _ _ _ _ _ _ Try.underlying3) ?_)
  refine (run_eqFields_consR w _ _ _ _ _ _ _ (a.p2 == b.p2) _ (by decide) (run_part_cell w _ .i64 _ _ _ Try.underlying3 rfl) (run_part_cell w _ .i64 _ _ _ Try.underlying3 rfl) (run_equalIn_int w _ _ _ _ _ _ Try.underlying3) ?_)
  refine (run_eqFields_consR w _ _ _ _ _ (.agg #[.int .i64 a.q1, .int .i64 a.q2, .int .i64 a.q3]) (.agg #[.int .i64 b.q1, .int .i64 b.q2, .int .i64 b.q3]) (a.q1 == b.q1 && (a.q2 == b.q2 && a.q3 == b.q3)) _ (by decide) (run_part_aggR w _ _ _ _ _ Try.underlying29 rfl (by kernel_rfl) (by kernel_rfl)) (run_part_aggR w _ _ _ _ _ Try.underlying29 rfl (by kernel_rfl) (by kernel_rfl)) (equal_qual9999R a.q1 a.q2 a.q3 b.q1 b.q2 b.q3 w) ?_)
  refine (run_eqFields_consR w _ _ _ _ _ (.agg #[.int .u8 a.gr.b0, .int .u8 a.gr.b1, .int .u8 a.gr.b2, .int .u8 a.gr.b3, .int .u8 a.gr.b4, .int .u8 a.gr.b5, .int .u8 a.gr.b6, .int .u8 a.gr.b7]) (.agg #[.int .u8 b.gr.b0, .int .u8 b.gr.b1, .int .u8 b.gr.b2, .int .u8 b.gr.b3, .int .u8 b.gr.b4, .int .u8 b.gr.b5, .int .u8 b.gr.b6, .int .u8 b.gr.b7]) (eqC a.gr b.gr) _ (by decide) (run_part_aggR w _ _ _ _ _ Try.underlying24 rfl (by kernel_rfl) (by kernel_rfl)) (run_part_aggR w _ _ _ _ _ Try.underlying24 rfl (by kernel_rfl) (by kernel_rfl)) (equal_clk9999R a.gr b.gr w) ?_)
  refine (run_eqFields_consR w _ _ _ _ _ _ _ (a.st == b.st) _ (by decide) (run_part_cell w _ .i64 _ _ _ Try.underlying3 rfl) (run_part_cell w _ .i64 _ _ _ Try.underlying3 rfl) (run_equalIn_int w _ _ _ _ _ _ Try.underlying3) ?_)
  refine (run_eqFields_consR w _ _ _ _ _ (.agg #[.int .u8 a.sn.c.b0, .int .u8 a.sn.c.b1, .int .u8 a.sn.c.b2, .int .u8 a.sn.c.b3, .int .u8 a.sn.c.b4, .int .u8 a.sn.c.b5, .int .u8 a.sn.c.b6, .int .u8 a.sn.c.b7, .int .i64 a.sn.n]) (.agg #[.int .u8 b.sn.c.b0, .int .u8 b.sn.c.b1, .int .u8 b.sn.c.b2, .int .u8 b.sn.c.b3, .int .u8 b.sn.c.b4, .int .u8 b.sn.c.b5, .int .u8 b.sn.c.b6, .int .u8 b.sn.c.b7, .int .i64 b.sn.n]) (eqP a.sn b.sn) _ (by decide) (run_part_aggR w _ _ _ _ _ Try.underlying26 rfl (by kernel_rfl) (by kernel_rfl)) (run_part_aggR w _ _ _ _ _ Try.underlying26 rfl (by kernel_rfl) (by kernel_rfl)) (equal_prt9999R a.sn b.sn w) ?_)
  refine (run_eqFields_consR w _ _ _ _ _ (.agg #[.int .u8 a.rc.c.b0, .int .u8 a.rc.c.b1, .int .u8 a.rc.c.b2, .int .u8 a.rc.c.b3, .int .u8 a.rc.c.b4, .int .u8 a.rc.c.b5, .int .u8 a.rc.c.b6, .int .u8 a.rc.c.b7, .int .i64 a.rc.n]) (.agg #[.int .u8 b.rc.c.b0, .int .u8 b.rc.c.b1, .int .u8 b.rc.c.b2, .int .u8 b.rc.c.b3, .int .u8 b.rc.c.b4, .int .u8 b.rc.c.b5, .int .u8 b.rc.c.b6, .int .u8 b.rc.c.b7, .int .i64 b.rc.n]) (eqP a.rc b.rc) _ (by decide) (run_part_aggR w _ _ _ _ _ Try.underlying26 rfl (by kernel_rfl) (by kernel_rfl)) (run_part_aggR w _ _ _ _ _ Try.underlying26 rfl (by kernel_rfl) (by kernel_rfl)) (equal_prt9999R a.rc b.rc w) ?_)
  exact run_eqFields_nilR w _ _ _
theorem eql_setR (a b : Rs) (w : World) : (binOp .eql 31 (.agg (rsA a)) (.agg (rsA b))).run Try.prog w = .ok (.bool (eqR a b)) w := by
  rw [run_eql_struct, equal_set10000R]
  rfl
theorem neq_setR (a b : Rs) (w : World) : (binOp .neq 31 (.agg (rsA a)) (.agg (rsA b))).run Try.prog w = .ok (.bool (!eqR a b)) w := by
  rw [run_neq_struct, equal_set10000R]
  rfl

end Go.Proofs.Ytcmcgkcljefckaa
