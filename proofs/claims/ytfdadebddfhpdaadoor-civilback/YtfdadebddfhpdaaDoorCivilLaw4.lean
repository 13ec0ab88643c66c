/- The walk over CivilBack. -/
import Derived.Test.YtfdadebddfhpdaaDoorCivilBackA
import Derived.Test.YtfdadebddfhpdaaDoorCivilBackB
import Derived.Test.YtfdadebddfhpdaaDoorCivilBackC
import Derived.Test.YtfdadebddfhpdaaDoorCivilBackD
import Derived.Deep.DeepCutAuto
import Derived.Deep.LoopGhost
namespace Go.Proofs.YtfdadebddfhpdaaDoor
set_option maxRecDepth 100000
open Go.RowKit
set_option linter.unusedVariables false
set_option linter.unusedSimpArgs false

set_option maxRecDepth 100000 in
set_option maxHeartbeats 20000000 in
theorem back15 (day sec : Int) (x : Lb) (w : World) (hT : Tabs w) (h1 : day ≤ 9223372036854775807) (h2 : sec ≤ 9223372036854775807) :
    Calls Tryd.prog 6 #[.int .i64 day, .int .i64 sec, .agg (lbA x)] w fun e w' => e = .returned (.bool true) ∧ Below w.heap.size w w' := by
  obtain ⟨N1, hN1⟩ : ∃ z_, IntKind.i64.wrap (day + 1) = z_ := ⟨_, rfl⟩
  have hn1 : N1 ≤ 9223372036854775807 := by rw [← hN1, IntKind.wrap_i64]; omega
  obtain ⟨⟨y, m, d, _, _, _⟩, b, c1, -, e1, _⟩ := date_ex day h1
  obtain ⟨⟨y', m', d', _, _, _⟩, b2, c2, -, e2, e3⟩ := date_ex N1 hn1
  obtain ⟨u, c, c3, -, e4⟩ := of_ex sec h2
  replace c1 : ∀ w, Mons w → Calls Tryd.prog 13 #[.int .i64 day] w fun e w' => e = .returned (.tuple #[.int .i64 y, .int .i64 m, .int .i64 d, .bool b]) ∧ w = w' := c1
  replace c2 : ∀ w, Mons w → Calls Tryd.prog 13 #[.int .i64 N1] w fun e w' => e = .returned (.tuple #[.int .i64 y', .int .i64 m', .int .i64 d', .bool b2]) ∧ w = w' := c2
  replace e1 : b = true → dayB y m d = true ∧ dayN y m d = day := e1
  replace e2 : b2 = true → dayB y' m' d' = true ∧ dayN y' m' d' = N1 := e2
  have C3 := Lib.hid c3
  have C1 := Lib.hid c1
  have C2 := Lib.hid c2
  clear c1 c2 c3 h1 h2
  cases b
  · exact back15_w1 day sec y m d x u c w hT C1 C3 e4
  · obtain ⟨hd, hn⟩ := e1 rfl
    have hbd := dayN_bd hd
    have h31 := (monN_bd y m).2
    obtain ⟨_, _, hd0, hd1⟩ := dayB_iff.1 hd
    have HD := Lib.hid (fun (w : World) (hT : Mons w) => pday15_yes y m d w hT hd)
    rw [hn] at HD hbd
    have hn2 : N1 = day + 1 := by rw [← hN1, IntKind.wrap_i64] <;> omega
    obtain ⟨d1, hw⟩ : ∃ z_, IntKind.i64.wrap (d + 1) = z_ := ⟨_, rfl⟩
    have hd2 : d1 = d + 1 := by rw [← hw, IntKind.wrap_i64] <;> omega
    cases b2
    · have hg : ¬ d < monN y m := by
        intro hl
        have h3 := next_has hd hl
        have h4 := e3 rfl
        omega
      exact back15_w2 day sec N1 y m d y' m' d' d1 _ x u c w hT C1 C2 HD hN1 hw (Lib.hid rfl) (decide_eq_false hg) C3 e4
    · obtain ⟨hd', hn'⟩ := e2 rfl
      have hls := next_less hd hd' (by omega)
      by_cases hl : d < monN y m
      · obtain ⟨ey, em, ed⟩ := next_in hd hd' (by omega) hl
        rw [ey, em, ed, ← hd2] at C2 hls
        exact back15_w3 day sec N1 y m d d1 _ x u c w hT C1 C2 HD hN1 hw (Lib.hid rfl) (Lib.hid hls) (decide_eq_true hl) C3 e4
      · exact back15_w4 day sec N1 y m d y' m' d' d1 _ x u c w hT C1 C2 HD hN1 hw (Lib.hid rfl) (Lib.hid hls) (decide_eq_false hl) C3 e4

end Go.Proofs.YtfdadebddfhpdaaDoor
