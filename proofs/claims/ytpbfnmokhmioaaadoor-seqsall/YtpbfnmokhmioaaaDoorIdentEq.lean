/- Arrays of bytes, and structs that hold them, compared by ==. -/
import Derived.Test.YtpbfnmokhmioaaaDoorIdentMath
namespace Go.Proofs.YtpbfnmokhmioaaaDoor
set_option maxRecDepth 100000
open Go.RowKit
set_option linter.unusedVariables false

/-- an array's elements compared one by one, as the model's loop does -/
def eqElems (d : Nat) (e : TypeId) (n : Nat) (xs ys : Array Value) : List Nat → Sem Bool
  | [] => pure true
  | i :: is => do
    let a ← part e xs (i * n)
    let b ← part e ys (i * n)
    let r ← Op.equalIn d e a b
    if (!r) = true then pure false else eqElems d e n xs ys is

section
variable {P : Program} (w : World)
theorem run_equalIn_array (d : Nat) (t e : TypeId) (n c : Nat) (xs ys : Array Value) (ht : P.underlying t = some (.array n e)) (hs : ∀ w, (sizeOf e).run P w = .ok c w) :
    (Op.equalIn (d + 1) t (.agg xs) (.agg ys)).run P w = (eqElems d e c xs ys (List.range n)).run P w := by
  simp only [Op.equalIn, Sem.run_bind, run_underlying ht, Result.andThen_ok, hs]
  rw [Std.Legacy.Range.forIn_eq_forIn_range', Std.Legacy.Range.size]
  simp only [Nat.sub_zero, Nat.add_one_sub_one, Nat.div_one, ← List.range_eq_range']
  generalize List.range n = is
  clear ht
  induction is generalizing w with
  | nil => simp [eqElems]
  | cons i is ih =>
    simp only [List.forIn_cons, eqElems, Sem.run_bind, Sem.run_ite]
    generalize (part e xs (i * c)).run P w = r1
    cases r1 with
    | ok a w1 =>
      simp only [Result.andThen_ok]
      generalize (part e ys (i * c)).run P w1 = r2
      cases r2 with
      | ok b w2 =>
        simp only [Result.andThen_ok]
        generalize (Op.equalIn d e a b).run P w2 = r3
        cases r3 with
        | ok r w3 =>
          cases r
          · simp only [Result.andThen_ok, Bool.not_false, if_true, Sem.run_pure]
          · simp only [Result.andThen_ok, Bool.not_true, Bool.false_eq_true, if_false, Sem.run_pure]
            exact ih w3
        | halt x w3 => simp [Result.andThen]
      | halt x w2 => simp [Result.andThen]
    | halt x w1 => simp [Result.andThen]

theorem run_part_cell (t : TypeId) (k : IntKind) (cs : Array Value) (off : Nat) (v : Value) (h : P.underlying t = some (.int k)) (hc : cs[off]? = some v) : (part t cs off).run P w = .ok v w := by
  simp [part, isAgg, run_underlying h, hc]

theorem run_eqElems (d : Nat) (e : TypeId) (k : IntKind) (he : P.underlying e = some (.int k)) (xs ys : List Int) (hl : xs.length = ys.length) : ∀ n, n ≤ xs.length →
    (eqElems (d + 1) e 1 ((xs.map (Value.int k)).toArray) ((ys.map (Value.int k)).toArray) (List.range' (xs.length - n) n)).run P w = .ok (xs.drop (xs.length - n) == ys.drop (xs.length - n)) w
  | 0, _ => by simp [eqElems, hl]
  | n + 1, h => by
    have hx : xs.length - (n + 1) < xs.length := by omega
    have hy : xs.length - (n + 1) < ys.length := by omega
    have ih := run_eqElems d e k he xs ys hl n (by omega)
    have e1 : xs.length - n = xs.length - (n + 1) + 1 := by omega
    rw [List.range'_succ, eqElems, Nat.mul_one]
    simp only [Sem.run_bind]
    rw [run_part_cell w e k _ _ (.int k xs[xs.length - (n + 1)]) he (by simp [hx]), Result.andThen_ok,
      run_part_cell w e k _ _ (.int k ys[xs.length - (n + 1)]) he (by simp [hy]), Result.andThen_ok,
      run_equalIn_int w d e k k _ _ he, Result.andThen_ok, ← e1, Sem.run_ite, ih, List.drop_eq_getElem_cons hx, List.drop_eq_getElem_cons hy, ← e1]
    cases hq : (xs[xs.length - (n + 1)] == ys[xs.length - (n + 1)]) <;> simp [hq]

theorem run_equal_ints (d : Nat) (t e : TypeId) (n : Nat) (k : IntKind) (ht : P.underlying t = some (.array n e)) (he : P.underlying e = some (.int k)) (hs : ∀ w, (sizeOf e).run P w = .ok 1 w) (xs ys : List Int) (hx : xs.length = n) (hy : ys.length = n) :
    (Op.equalIn (d + 2) t (.agg ((xs.map (Value.int k)).toArray)) (.agg ((ys.map (Value.int k)).toArray))).run P w = .ok (xs == ys) w := by
  rw [run_equalIn_array w (d + 1) t e n 1 _ _ ht hs, List.range_eq_range']
  have := run_eqElems w d e k he xs ys (by omega) n (by omega)
  rw [hx, Nat.sub_self] at this
  exact this
end

theorem size_byte (w : World) : (sizeOf 5).run Tryd.prog w = .ok 1 w := by kernel_rfl

theorem eql_clock (a b : Ck) (w : World) : (binOp .eql 33 (.agg #[.int .u8 a.b0, .int .u8 a.b1, .int .u8 a.b2, .int .u8 a.b3, .int .u8 a.b4, .int .u8 a.b5, .int .u8 a.b6, .int .u8 a.b7]) (.agg #[.int .u8 b.b0, .int .u8 b.b1, .int .u8 b.b2, .int .u8 b.b3, .int .u8 b.b4, .int .u8 b.b5, .int .u8 b.b6, .int .u8 b.b7])).run Tryd.prog w = .ok (.bool (eqC a b)) w := by
  rw [run_eql_struct]
  have := run_equal_ints (P := Tryd.prog) w 9998 33 5 8 .u8 (by kernel_rfl) (by kernel_rfl) size_byte a.l b.l rfl rfl
  simp only [Ck.l, List.map_cons, List.map_nil] at this
  rw [this]
  rfl
theorem neq_clock (a b : Ck) (w : World) : (binOp .neq 33 (.agg #[.int .u8 a.b0, .int .u8 a.b1, .int .u8 a.b2, .int .u8 a.b3, .int .u8 a.b4, .int .u8 a.b5, .int .u8 a.b6, .int .u8 a.b7]) (.agg #[.int .u8 b.b0, .int .u8 b.b1, .int .u8 b.b2, .int .u8 b.b3, .int .u8 b.b4, .int .u8 b.b5, .int .u8 b.b6, .int .u8 b.b7])).run Tryd.prog w = .ok (.bool (!eqC a b)) w := by
  rw [run_neq_struct]
  have := run_equal_ints (P := Tryd.prog) w 9998 33 5 8 .u8 (by kernel_rfl) (by kernel_rfl) size_byte a.l b.l rfl rfl
  simp only [Ck.l, List.map_cons, List.map_nil] at this
  rw [this]
  rfl
theorem equal_port (a b : Pt) (w : World) : (Op.equalIn 10000 35 (.agg #[.int .u8 a.c.b0, .int .u8 a.c.b1, .int .u8 a.c.b2, .int .u8 a.c.b3, .int .u8 a.c.b4, .int .u8 a.c.b5, .int .u8 a.c.b6, .int .u8 a.c.b7, .int .i64 a.n]) (.agg #[.int .u8 b.c.b0, .int .u8 b.c.b1, .int .u8 b.c.b2, .int .u8 b.c.b3, .int .u8 b.c.b4, .int .u8 b.c.b5, .int .u8 b.c.b6, .int .u8 b.c.b7, .int .i64 b.n])).run Tryd.prog w = .ok (eqP a b) w := by
  have h := run_equal_ints (P := Tryd.prog) w 9997 33 5 8 .u8 (by kernel_rfl) (by kernel_rfl) size_byte a.c.l b.c.l rfl rfl
  simp only [Ck.l, List.map_cons, List.map_nil] at h
  rw [run_equalIn_agg w 9999 _ _ _ (by kernel_rfl) (by kernel_rfl)]
  unfold eqP
  have hq : eqC a.c b.c = ([a.c.b0, a.c.b1, a.c.b2, a.c.b3, a.c.b4, a.c.b5, a.c.b6, a.c.b7] == [b.c.b0, b.c.b1, b.c.b2, b.c.b3, b.c.b4, b.c.b5, b.c.b6, b.c.b7]) := rfl
  rw [← hq] at h
  clear hq
  cases h1 : eqC a.c b.c <;> rw [h1] at h <;> cases h2 : (a.n == b.n) <;> go_simp
theorem eql_port (a b : Pt) (w : World) : (binOp .eql 35 (.agg #[.int .u8 a.c.b0, .int .u8 a.c.b1, .int .u8 a.c.b2, .int .u8 a.c.b3, .int .u8 a.c.b4, .int .u8 a.c.b5, .int .u8 a.c.b6, .int .u8 a.c.b7, .int .i64 a.n]) (.agg #[.int .u8 b.c.b0, .int .u8 b.c.b1, .int .u8 b.c.b2, .int .u8 b.c.b3, .int .u8 b.c.b4, .int .u8 b.c.b5, .int .u8 b.c.b6, .int .u8 b.c.b7, .int .i64 b.n])).run Tryd.prog w = .ok (.bool (eqP a b)) w := by
  rw [run_eql_struct, equal_port]
  rfl
theorem neq_port (a b : Pt) (w : World) : (binOp .neq 35 (.agg #[.int .u8 a.c.b0, .int .u8 a.c.b1, .int .u8 a.c.b2, .int .u8 a.c.b3, .int .u8 a.c.b4, .int .u8 a.c.b5, .int .u8 a.c.b6, .int .u8 a.c.b7, .int .i64 a.n]) (.agg #[.int .u8 b.c.b0, .int .u8 b.c.b1, .int .u8 b.c.b2, .int .u8 b.c.b3, .int .u8 b.c.b4, .int .u8 b.c.b5, .int .u8 b.c.b6, .int .u8 b.c.b7, .int .i64 b.n])).run Tryd.prog w = .ok (.bool (!eqP a b)) w := by
  rw [run_neq_struct, equal_port]
  rfl

end Go.Proofs.YtpbfnmokhmioaaaDoor
