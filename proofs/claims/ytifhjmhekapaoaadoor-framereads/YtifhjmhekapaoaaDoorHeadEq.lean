/- Heads compared by ==. -/
import Derived.Test.YtifhjmhekapaoaaDoorHeadMath
namespace Go.Proofs.YtifhjmhekapaoaaDoor
set_option maxRecDepth 100000
open Go.RowKit
set_option linter.unusedVariables false

def eqH (a b : Hd) : Bool := a.t == b.t && (a.d == b.d && (a.f == b.f && (a.c == b.c && (eqP a.p b.p && (a.s == b.s && a.l == b.l)))))
theorem eqH_self (a : Hd) : eqH a a = true := by unfold eqH; simp [eqP_self]
theorem eqH_iff {a b : Hd} : eqH a b = true ↔ a = b := by
  constructor
  · intro h
    unfold eqH at h
    simp only [Bool.and_eq_true, beq_iff_eq, eqP_iff] at h
    exact Hd.ext' h.1 h.2.1 h.2.2.1 h.2.2.2.1 h.2.2.2.2.1 h.2.2.2.2.2.1 h.2.2.2.2.2.2
  · rintro rfl; exact eqH_self a
set_option maxRecDepth 100000 in
set_option maxHeartbeats 2000000 in
theorem equal_head (a b : Hd) (w : World) : (Op.equalIn 10000 28 (.agg #[.int .i64 a.t, .int .i64 a.d, .int .i64 a.f, .int .i64 a.c, .int .u8 a.p.c.b0, .int .u8 a.p.c.b1, .int .u8 a.p.c.b2, .int .u8 a.p.c.b3, .int .u8 a.p.c.b4, .int .u8 a.p.c.b5, .int .u8 a.p.c.b6, .int .u8 a.p.c.b7, .int .i64 a.p.n, .int .i64 a.s, .int .i64 a.l]) (.agg #[.int .i64 b.t, .int .i64 b.d, .int .i64 b.f, .int .i64 b.c, .int .u8 b.p.c.b0, .int .u8 b.p.c.b1, .int .u8 b.p.c.b2, .int .u8 b.p.c.b3, .int .u8 b.p.c.b4, .int .u8 b.p.c.b5, .int .u8 b.p.c.b6, .int .u8 b.p.c.b7, .int .i64 b.p.n, .int .i64 b.s, .int .i64 b.l])).run Tryd.prog w = .ok (eqH a b) w := by
  have hp := run_equal_ints (P := Tryd.prog) w 9996 24 5 8 .u8 (by kernel_rfl) (by kernel_rfl) size_byte a.p.c.l b.p.c.l rfl rfl
  simp only [Ck.l, List.map_cons, List.map_nil] at hp
  have hq : eqC a.p.c b.p.c = ([a.p.c.b0, a.p.c.b1, a.p.c.b2, a.p.c.b3, a.p.c.b4, a.p.c.b5, a.p.c.b6, a.p.c.b7] == [b.p.c.b0, b.p.c.b1, b.p.c.b2, b.p.c.b3, b.p.c.b4, b.p.c.b5, b.p.c.b6, b.p.c.b7]) := rfl
  rw [← hq] at hp
  clear hq
  rw [run_equalIn_agg w 9999 _ _ _ (by kernel_rfl) (by kernel_rfl)]
  unfold eqH eqP
  cases h0 : (a.t == b.t)
  · go_simp
  cases h1 : (a.d == b.d)
  · go_simp
  cases h2 : (a.f == b.f)
  · go_simp
  cases h3 : (a.c == b.c)
  · go_simp
  cases h4 : eqC a.p.c b.p.c
  · rw [h4] at hp
    go_simp
  rw [h4] at hp
  cases h7 : (a.p.n == b.p.n)
  · go_simp
  cases h5 : (a.s == b.s)
  · go_simp
  cases h6 : (a.l == b.l) <;> go_simp
theorem eql_head (a b : Hd) (w : World) : (binOp .eql 28 (.agg #[.int .i64 a.t, .int .i64 a.d, .int .i64 a.f, .int .i64 a.c, .int .u8 a.p.c.b0, .int .u8 a.p.c.b1, .int .u8 a.p.c.b2, .int .u8 a.p.c.b3, .int .u8 a.p.c.b4, .int .u8 a.p.c.b5, .int .u8 a.p.c.b6, .int .u8 a.p.c.b7, .int .i64 a.p.n, .int .i64 a.s, .int .i64 a.l]) (.agg #[.int .i64 b.t, .int .i64 b.d, .int .i64 b.f, .int .i64 b.c, .int .u8 b.p.c.b0, .int .u8 b.p.c.b1, .int .u8 b.p.c.b2, .int .u8 b.p.c.b3, .int .u8 b.p.c.b4, .int .u8 b.p.c.b5, .int .u8 b.p.c.b6, .int .u8 b.p.c.b7, .int .i64 b.p.n, .int .i64 b.s, .int .i64 b.l])).run Tryd.prog w = .ok (.bool (eqH a b)) w := by
  rw [run_eql_struct, equal_head]
  rfl
theorem neq_head (a b : Hd) (w : World) : (binOp .neq 28 (.agg #[.int .i64 a.t, .int .i64 a.d, .int .i64 a.f, .int .i64 a.c, .int .u8 a.p.c.b0, .int .u8 a.p.c.b1, .int .u8 a.p.c.b2, .int .u8 a.p.c.b3, .int .u8 a.p.c.b4, .int .u8 a.p.c.b5, .int .u8 a.p.c.b6, .int .u8 a.p.c.b7, .int .i64 a.p.n, .int .i64 a.s, .int .i64 a.l]) (.agg #[.int .i64 b.t, .int .i64 b.d, .int .i64 b.f, .int .i64 b.c, .int .u8 b.p.c.b0, .int .u8 b.p.c.b1, .int .u8 b.p.c.b2, .int .u8 b.p.c.b3, .int .u8 b.p.c.b4, .int .u8 b.p.c.b5, .int .u8 b.p.c.b6, .int .u8 b.p.c.b7, .int .i64 b.p.n, .int .i64 b.s, .int .i64 b.l])).run Tryd.prog w = .ok (.bool (!eqH a b)) w := by
  rw [run_neq_struct, equal_head]
  rfl
set_option maxRecDepth 100000 in
set_option maxHeartbeats 2000000 in
theorem equal_rhead (a b : Hd) (w : World) : (Op.equalIn 10000 32 (.agg #[.int .i64 a.t, .int .i64 a.d, .int .i64 a.f, .int .i64 a.c, .int .u8 a.p.c.b0, .int .u8 a.p.c.b1, .int .u8 a.p.c.b2, .int .u8 a.p.c.b3, .int .u8 a.p.c.b4, .int .u8 a.p.c.b5, .int .u8 a.p.c.b6, .int .u8 a.p.c.b7, .int .i64 a.p.n, .int .i64 a.s, .int .i64 a.l]) (.agg #[.int .i64 b.t, .int .i64 b.d, .int .i64 b.f, .int .i64 b.c, .int .u8 b.p.c.b0, .int .u8 b.p.c.b1, .int .u8 b.p.c.b2, .int .u8 b.p.c.b3, .int .u8 b.p.c.b4, .int .u8 b.p.c.b5, .int .u8 b.p.c.b6, .int .u8 b.p.c.b7, .int .i64 b.p.n, .int .i64 b.s, .int .i64 b.l])).run Tryd.prog w = .ok (eqH a b) w := by
  have hp := run_equal_ints (P := Tryd.prog) w 9996 24 5 8 .u8 (by kernel_rfl) (by kernel_rfl) size_byte a.p.c.l b.p.c.l rfl rfl
  simp only [Ck.l, List.map_cons, List.map_nil] at hp
  have hq : eqC a.p.c b.p.c = ([a.p.c.b0, a.p.c.b1, a.p.c.b2, a.p.c.b3, a.p.c.b4, a.p.c.b5, a.p.c.b6, a.p.c.b7] == [b.p.c.b0, b.p.c.b1, b.p.c.b2, b.p.c.b3, b.p.c.b4, b.p.c.b5, b.p.c.b6, b.p.c.b7]) := rfl
  rw [← hq] at hp
  clear hq
  rw [run_equalIn_agg w 9999 _ _ _ (by kernel_rfl) (by kernel_rfl)]
  unfold eqH eqP
  cases h0 : (a.t == b.t)
  · go_simp
  cases h1 : (a.d == b.d)
  · go_simp
  cases h2 : (a.f == b.f)
  · go_simp
  cases h3 : (a.c == b.c)
  · go_simp
  cases h4 : eqC a.p.c b.p.c
  · rw [h4] at hp
    go_simp
  rw [h4] at hp
  cases h7 : (a.p.n == b.p.n)
  · go_simp
  cases h5 : (a.s == b.s)
  · go_simp
  cases h6 : (a.l == b.l) <;> go_simp
theorem eql_rhead (a b : Hd) (w : World) : (binOp .eql 32 (.agg #[.int .i64 a.t, .int .i64 a.d, .int .i64 a.f, .int .i64 a.c, .int .u8 a.p.c.b0, .int .u8 a.p.c.b1, .int .u8 a.p.c.b2, .int .u8 a.p.c.b3, .int .u8 a.p.c.b4, .int .u8 a.p.c.b5, .int .u8 a.p.c.b6, .int .u8 a.p.c.b7, .int .i64 a.p.n, .int .i64 a.s, .int .i64 a.l]) (.agg #[.int .i64 b.t, .int .i64 b.d, .int .i64 b.f, .int .i64 b.c, .int .u8 b.p.c.b0, .int .u8 b.p.c.b1, .int .u8 b.p.c.b2, .int .u8 b.p.c.b3, .int .u8 b.p.c.b4, .int .u8 b.p.c.b5, .int .u8 b.p.c.b6, .int .u8 b.p.c.b7, .int .i64 b.p.n, .int .i64 b.s, .int .i64 b.l])).run Tryd.prog w = .ok (.bool (eqH a b)) w := by
  rw [run_eql_struct, equal_rhead]
  rfl
theorem neq_rhead (a b : Hd) (w : World) : (binOp .neq 32 (.agg #[.int .i64 a.t, .int .i64 a.d, .int .i64 a.f, .int .i64 a.c, .int .u8 a.p.c.b0, .int .u8 a.p.c.b1, .int .u8 a.p.c.b2, .int .u8 a.p.c.b3, .int .u8 a.p.c.b4, .int .u8 a.p.c.b5, .int .u8 a.p.c.b6, .int .u8 a.p.c.b7, .int .i64 a.p.n, .int .i64 a.s, .int .i64 a.l]) (.agg #[.int .i64 b.t, .int .i64 b.d, .int .i64 b.f, .int .i64 b.c, .int .u8 b.p.c.b0, .int .u8 b.p.c.b1, .int .u8 b.p.c.b2, .int .u8 b.p.c.b3, .int .u8 b.p.c.b4, .int .u8 b.p.c.b5, .int .u8 b.p.c.b6, .int .u8 b.p.c.b7, .int .i64 b.p.n, .int .i64 b.s, .int .i64 b.l])).run Tryd.prog w = .ok (.bool (!eqH a b)) w := by
  rw [run_neq_struct, equal_rhead]
  rfl

end Go.Proofs.YtifhjmhekapaoaaDoor
