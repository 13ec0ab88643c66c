/- Parts of this proof, one behind the other: StampPlain, StampWire, StampGet. -/
import Derived.Test.YtdjomckfifcfdaaWideAll
import Derived.Test.YtdjomckfifcfdaaStampMath
import Derived.Test.YtdjomckfifcfdaaCells
import Derived.Deep.RegionHeld3
import Derived.Laws.CopyOwn

/- The walks over stamp's plain functions: Down, Up, Scaled, Less, Right, Of, Nanos. -/
namespace Go.Proofs.Ytdjomckfifcfdaa
set_option maxRecDepth 100000
open Go.RowKit
set_option linter.unusedVariables false

set_option maxHeartbeats 400000 in
theorem down_any (n : Int) (w : World) :
    Calls Try.prog 54 #[.int .i64 n] w fun e w' => e = .returned (.int .i64 (n / 65536)) ∧ w = w' := by
  go_enter Try.func54, Try.ntmps54
  go_wp2
  go_ret
  exact ⟨rfl, rfl⟩

set_option maxHeartbeats 400000 in
theorem up_any (n : Int) (w : World) (h0 : -9223372036854775808 ≤ n) (h1 : n ≤ 9223372036854775807) :
    Calls Try.prog 55 #[.int .i64 n] w fun e w' => e = .returned (.int .i64 (upN n)) ∧ w = w' := by
  by_cases hm : n / 65536 * 65536 = n
  · have hm' : (n / 65536 * 65536 != n) = false := by simp [hm]
    have H := Lib.hid (show upN n = n / 65536 by unfold upN; omega)
    clear hm
    go_enter Try.func55, Try.ntmps55
    go_wp2_with fail
    refine (down_any n _).mono ?_
    rintro e w' ⟨rfl, rfl⟩
    go_wp2
    go_ret
    exact ⟨ret_int H.out.symm, rfl⟩
  · have hm' : (n / 65536 * 65536 != n) = true := by simp [hm]
    have H := Lib.hid (show upN n = n / 65536 + 1 by unfold upN; omega)
    clear hm
    go_enter Try.func55, Try.ntmps55
    go_wp2_with fail
    refine (down_any n _).mono ?_
    rintro e w' ⟨rfl, rfl⟩
    go_wp2
    go_ret
    exact ⟨ret_int H.out.symm, rfl⟩

theorem scaled_num (n : Int) (h0 : -9223372036854775808 ≤ n) (h1 : n ≤ 9223372036854775807) :
    (wrap64 (n * 65536) / 65536 = n ∧ scB n = true ∧ wrap64 (n * 65536) = n * 65536) ∨ (wrap64 (n * 65536) / 65536 ≠ n ∧ scB n = false) := by
  cases h : scB n
  · right
    refine ⟨?_, rfl⟩
    have : ¬ (-140737488355328 ≤ n ∧ n ≤ 140737488355327) := by rw [← scB_iff, h]; simp
    unfold wrap64; omega
  · left
    have := scB_iff.1 h
    exact ⟨by unfold wrap64; omega, rfl, by unfold wrap64; omega⟩

/-- two stamps are the same -/
def sameB (a b c d : Int) : Bool := (a == c) && (b == d)
theorem sameB_iff {a b c d : Int} : sameB a b c d = true ↔ a = c ∧ b = d := by unfold sameB; simp
theorem mulB_sec {s : Int} (h0 : 0 ≤ s) (h1 : s ≤ 281474976710655) : floorB s 1000000000 1 = decide (s * 1000000000 ≤ 4611686018427387904) := by
  unfold floorB smallB
  rw [Int.ediv_one]
  rw [Bool.eq_iff_iff]
  simp
  omega

end Go.Proofs.Ytdjomckfifcfdaa

/- The walks over stamp.write, read, Put, Get. -/
namespace Go.Proofs.Ytdjomckfifcfdaa
set_option maxRecDepth 100000
open Go.RowKit
set_option linter.unusedVariables false

/-- the world behind write of six bytes, and of four behind them -/
def put6 (w : World) (g : Nat) (n : Int) : World :=
  (((((w.setCell ⟨g, 5, none⟩ (.int .u8 (n % 256))).setCell ⟨g, 4, none⟩ (.int .u8 (n / 256 % 256))).setCell ⟨g, 3, none⟩ (.int .u8 (n / 256 / 256 % 256))).setCell ⟨g, 2, none⟩ (.int .u8 (n / 256 / 256 / 256 % 256))).setCell ⟨g, 1, none⟩ (.int .u8 (n / 256 / 256 / 256 / 256 % 256))).setCell ⟨g, 0, none⟩ (.int .u8 (n / 256 / 256 / 256 / 256 / 256 % 256))
def put4 (w : World) (g : Nat) (n : Int) : World :=
  (((w.setCell ⟨g, 9, none⟩ (.int .u8 (n % 256))).setCell ⟨g, 8, none⟩ (.int .u8 (n / 256 % 256))).setCell ⟨g, 7, none⟩ (.int .u8 (n / 256 / 256 % 256))).setCell ⟨g, 6, none⟩ (.int .u8 (n / 256 / 256 / 256 % 256))
theorem put6_below {B g : Nat} {w0 w : World} (h : Below B w0 w) (hg : B ≤ g) (n : Int) : Below B w0 (put6 w g n) := by
  unfold put6
  exact (((((h.setCell hg _).setCell hg _).setCell hg _).setCell hg _).setCell hg _).setCell hg _
theorem put4_below {B g : Nat} {w0 w : World} (h : Below B w0 w) (hg : B ≤ g) (n : Int) : Below B w0 (put4 w g n) := by
  unfold put4
  exact (((h.setCell hg _).setCell hg _).setCell hg _).setCell hg _
theorem put6_aside {w : World} {g k : Nat} {t : TypeId} {cs : Array Value} (h : Holds w k t cs) (hk : g ≠ k) (n : Int) : Holds (put6 w g n) k t cs := by
  unfold put6
  exact (((((h.aside hk _).aside hk _).aside hk _).aside hk _).aside hk _).aside hk _
theorem put4_aside {w : World} {g k : Nat} {t : TypeId} {cs : Array Value} (h : Holds w k t cs) (hk : g ≠ k) (n : Int) : Holds (put4 w g n) k t cs := by
  unfold put4
  exact (((h.aside hk _).aside hk _).aside hk _).aside hk _
theorem put6_holds {w : World} {g : Nat} {t : TypeId} {x0 x1 x2 x3 x4 x5 x6 x7 x8 x9 : Value} (h : Holds w g t #[x0, x1, x2, x3, x4, x5, x6, x7, x8, x9]) (n : Int) :
    Holds (put6 w g n) g t (((beL 6 n).map (Value.int .u8)).toArray ++ #[x6, x7, x8, x9]) := by
  unfold put6
  have := (((((h.put 5 (.int .u8 (n % 256))).put 4 (.int .u8 (n / 256 % 256))).put 3 (.int .u8 (n / 256 / 256 % 256))).put 2 (.int .u8 (n / 256 / 256 / 256 % 256))).put 1 (.int .u8 (n / 256 / 256 / 256 / 256 % 256))).put 0 (.int .u8 (n / 256 / 256 / 256 / 256 / 256 % 256))
  simpa [beL] using this
theorem put4_holds {w : World} {g : Nat} {t : TypeId} {y0 y1 y2 y3 y4 y5 x6 x7 x8 x9 : Value} (h : Holds w g t #[y0, y1, y2, y3, y4, y5, x6, x7, x8, x9]) (n : Int) :
    Holds (put4 w g n) g t (#[y0, y1, y2, y3, y4, y5] ++ ((beL 4 n).map (Value.int .u8)).toArray) := by
  unfold put4
  have := (((h.put 9 (.int .u8 (n % 256))).put 8 (.int .u8 (n / 256 % 256))).put 7 (.int .u8 (n / 256 / 256 % 256))).put 6 (.int .u8 (n / 256 / 256 / 256 % 256))
  simpa [beL] using this

/-- what Put leaves: a new row of ten bytes -/
def PutYes (t : TypeId) (zs : List Int) (w : World) (e : Ending) (w' : World) : Prop :=
  ∃ g, w.heap.size ≤ g ∧ Holds w' g t (byteCells zs) ∧ Below w.heap.size w w' ∧ e = .returned (.tuple #[.slice (some ⟨g, 0, none⟩) zs.length zs.length, .int .i64 0])

theorem put_done {w w2 : World} {g : Nat} {t : TypeId} {s n : Int} {z6 z7 z8 z9 : Value} (h : Holds w2 g t (((beL 6 s).map (Value.int .u8)).toArray ++ #[z6, z7, z8, z9])) :
    Holds (put4 w2 g n) g t (byteCells (beL 6 s ++ beL 4 n)) := by
  have h2 := put4_holds (w := w2) (g := g) (t := t) (y0 := .int .u8 (s / 256 / 256 / 256 / 256 / 256 % 256)) (y1 := .int .u8 (s / 256 / 256 / 256 / 256 % 256)) (y2 := .int .u8 (s / 256 / 256 / 256 % 256)) (y3 := .int .u8 (s / 256 / 256 % 256)) (y4 := .int .u8 (s / 256 % 256)) (y5 := .int .u8 (s % 256)) (x6 := z6) (x7 := z7) (x8 := z8) (x9 := z9) (by simpa [beL] using h) n
  simpa [beL, byteCells] using h2

end Go.Proofs.Ytdjomckfifcfdaa

/- The walk over stamp.Get. -/
namespace Go.Proofs.Ytdjomckfifcfdaa
set_option maxRecDepth 100000
open Go.RowKit
set_option linter.unusedVariables false

/-- how a stamp and an error are told -/
def stampR (B : Bool) (s n : Int) : Ending := .returned (.tuple #[.agg #[.int .i64 (told B s), .int .i64 (told B n)], .int .i64 (if B then 0 else 20)])

end Go.Proofs.Ytdjomckfifcfdaa
