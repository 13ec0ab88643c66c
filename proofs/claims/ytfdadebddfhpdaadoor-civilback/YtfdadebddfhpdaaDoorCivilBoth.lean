/- The contracts of Day, Date and Of, without a case. -/
import Derived.Test.YtfdadebddfhpdaaDoorCivilPlain2
import Derived.Test.YtfdadebddfhpdaaDoorCivilRef6
import Derived.Test.YtfdadebddfhpdaaDoorCivilLess
import Derived.Test.YtfdadebddfhpdaaDoorCivilLawMath
import Derived.Deep.DeepCutAuto
namespace Go.Proofs.YtfdadebddfhpdaaDoor
set_option maxRecDepth 100000
open Go.RowKit
set_option linter.unusedVariables false
set_option linter.unusedSimpArgs false

def dayV (y m d : Int) : Int := if dayB y m d then dayN y m d else 0
theorem pday15_any (y m d : Int) (w : World) (hT : Mons w) : Calls Tryd.prog 11 #[.int .i64 y, .int .i64 m, .int .i64 d] w fun e w' => e = .returned (.tuple #[.int .i64 (dayV y m d), .bool (dayB y m d)]) ∧ w = w' := by
  rcases Bool.eq_false_or_eq_true (dayB y m d) with h | h
  · have e : dayV y m d = dayN y m d := by unfold dayV; rw [h]; rfl
    rw [e, h]
    exact pday15_yes y m d w hT h
  · have e : dayV y m d = 0 := by unfold dayV; rw [h]; rfl
    rw [e, h]
    exact pday15_no y m d w hT h
theorem rday15_any (y m d : Int) (w : World) : Calls Tryd.prog 12 #[.int .i64 y, .int .i64 m, .int .i64 d] w fun e w' => e = .returned (.tuple #[.int .i64 (dayV y m d), .bool (dayB y m d)]) ∧ w = w' := by
  rcases Bool.eq_false_or_eq_true (dayB y m d) with h | h
  · have e : dayV y m d = dayN y m d := by unfold dayV; rw [h]; rfl
    rw [e, h]
    exact rday15_yes y m d w h
  · have e : dayV y m d = 0 := by unfold dayV; rw [h]; rfl
    rw [e, h]
    exact rday15_no y m d w h
/-- a number's day, or none: what both tell -/
theorem date_ex (n : Int) (h1 : n ≤ 9223372036854775807) : ∃ (l : Lb) (b : Bool),
    (∀ w, Mons w → Calls Tryd.prog 13 #[.int .i64 n] w fun e w' => e = .returned (.tuple #[.int .i64 l.y, .int .i64 l.m, .int .i64 l.d, .bool b]) ∧ w = w') ∧
    (∀ w, Calls Tryd.prog 14 #[.int .i64 n] w fun e w' => e = .returned (.tuple #[.agg (lbA l), .bool b]) ∧ Below w.heap.size w w') ∧
    (b = true → dayB l.y l.m l.d = true ∧ dayN l.y l.m l.d = n) ∧ (b = false → n < 0 ∨ yearsN 8030 ≤ n) := by
  by_cases h : n < 0 ∨ yearsN 8030 ≤ n
  · exact ⟨zLb, false, fun w hT => pdate15_no n w h h1, fun w => rdate15_no n w h h1, fun hb => absurd hb (by decide), fun _ => h⟩
  · obtain ⟨y, m, d, hd, rfl⟩ := day_ex (n := n) (by omega) (by omega)
    exact ⟨⟨y, m, d, 0, 0, 0⟩, true, fun w hT => pdate15_yes y m d w hT hd, fun w => rdate15_yes y m d w hd, fun _ => ⟨hd, rfl⟩, fun hb => absurd hb (by decide)⟩
theorem of_lb {y m d r : Int} (h : dayB y m d = true) (r0 : 0 ≤ r) (r1 : r < 86400) : lbB (ofL y m d r) = true ∧ secN (ofL y m d r) = dayN y m d * 86400 + r ∧ (ofL y m d r).se ≤ 59 := by
  unfold lbB secN ofL
  obtain ⟨hh, h2⟩ : ∃ x, r / 3600 = x := ⟨_, rfl⟩
  rw [h2]
  obtain ⟨mi, h3⟩ : ∃ x, (r - hh * 3600) / 60 = x := ⟨_, rfl⟩
  rw [h3]
  obtain ⟨N, hN⟩ : ∃ x, dayN y m d = x := ⟨_, rfl⟩
  refine ⟨?_, ?_, ?_⟩
  · show (dayB y m d && (decide (0 ≤ hh) && (decide (hh ≤ 23) && (decide (0 ≤ mi) && (decide (mi ≤ 59) && (decide (0 ≤ r - hh * 3600 - mi * 60) && (decide (r - hh * 3600 - mi * 60 < 60) || _))))))) = true
    rw [h, decide_eq_true (show 0 ≤ hh by omega), decide_eq_true (show hh ≤ 23 by omega), decide_eq_true (show 0 ≤ mi by omega), decide_eq_true (show mi ≤ 59 by omega), decide_eq_true (show 0 ≤ r - hh * 3600 - mi * 60 by omega), decide_eq_true (show r - hh * 3600 - mi * 60 < 60 by omega)]
    rfl
  · show ((dayN y m d * 24 + hh) * 60 + mi) * 60 + (r - hh * 3600 - mi * 60) = dayN y m d * 86400 + r
    rw [hN]
    omega
  · show r - hh * 3600 - mi * 60 ≤ 59
    omega
theorem of_ex (n : Int) (h1 : n ≤ 9223372036854775807) : ∃ (l : Lb) (b : Bool),
    (∀ w, Mons w → Calls Tryd.prog 20 #[.int .i64 n] w fun e w' => e = .returned (.tuple #[.agg (lbA l), .bool b]) ∧ Below w.heap.size w w') ∧
    (∀ w, Calls Tryd.prog 21 #[.int .i64 n] w fun e w' => e = .returned (.tuple #[.agg (lbA l), .bool b]) ∧ Below w.heap.size w w') ∧
    (b = true → lbB l = true ∧ secL l = n ∧ l.se ≤ 59) := by
  have hy := yearsN_all
  by_cases h : n < 0 ∨ yearsN 8030 * 86400 ≤ n
  · exact ⟨zLb, false, fun w hT => pof15_no n w h h1, fun w => rof15_no n w h h1, fun hb => absurd hb (by decide)⟩
  · rw [hy] at h
    obtain ⟨y, m, d, hd, he⟩ := day_ex (n := n / 86400) (by omega) (by rw [hy]; omega)
    have e : n = dayN y m d * 86400 + n % 86400 := by rw [he]; omega
    have r0 : 0 ≤ n % 86400 := by omega
    have r1 : n % 86400 < 86400 := by omega
    obtain ⟨r, hr⟩ : ∃ r, n % 86400 = r := ⟨_, rfl⟩
    rw [hr] at e r0 r1
    subst e
    obtain ⟨l1, l2, l3⟩ := of_lb hd r0 r1
    exact ⟨ofL y m d r, true, fun w hT => pof15_yes y m d r w hT hd r0 r1, fun w => rof15_yes y m d r w hd r0 r1, fun _ => ⟨l1, by unfold secL; rw [if_pos l1]; exact l2, l3⟩⟩
/-- labels compared -/
theorem eql_lb15 (l : Lb) (w : World) : (binOp .eql 27 (.agg (lbA l)) (.agg (lbA l))).run Tryd.prog w = .ok (.bool true) w := by
  unfold lbA
  rw [run_eql_struct, run_equalIn_agg w 9999 _ _ _ (by kernel_rfl) (by kernel_rfl)]
  go_simp

end Go.Proofs.YtfdadebddfhpdaaDoor
