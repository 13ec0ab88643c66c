/- The walk over BestAll. -/
import Derived.Test.YtcmcgkcljefckaaBestLaw1
import Derived.Test.YtcmcgkcljefckaaBestOwn
import Derived.Deep.DeepCutAuto
import Derived.Deep.LoopGhost
import Derived.WalkMore
namespace Go.Proofs.Ytcmcgkcljefckaa
set_option maxRecDepth 100000
open Go.RowKit
set_option linter.unusedVariables false
set_option linter.unusedSimpArgs false

set_option maxHeartbeats 4000000 in
theorem all9 (A : Option Addr) (n c : Nat) (l : List Ch) (w : World) (hl : ChsOk w A n c l) :
    Calls Try.prog 4 #[.slice A n c] w fun e w' => e = .returned (.bool true) ∧ Below w.heap.size w w' := by
  have SL := Lib.hid hl
  clear hl
  have HB := Lib.hid (Below.refl w.heap.size w)
  have SI := Lib.hid (chs_ok_in SL.out)
  have HO := Lib.hid (SL.out).ok
  have HLN := Lib.hid (SL.out).len
  go_enter Try.func4, Try.ntmps4
  go_wp2_with fail
  refine (alive9_any _).mono ?_
  rintro e c1 ⟨rfl, hc1⟩
  replace SI := Lib.hid ((SI.out).keptB hc1)
  replace HB := Lib.hid (bstep HB.out hc1)
  clear hc1
  by_cases hn : 60 < n
  · have d : decide ((60 : Int) < (n : Int)) = true := decide_eq_true (by omega)
    clear hn
    go_wp2
    try rw [Exit.noGoto_ret]
    go_ret
    exact ⟨rfl, HB.out⟩
  · have d : decide ((60 : Int) < (n : Int)) = false := decide_eq_false (by omega)
    have HN : Hid (n ≤ 60) := by rw [Hid]; omega
    clear hn
    go_wp2_with fail
    refine (own9_in A n c l _ (by have := HN.out; omega) SI.out).mono ?_
    rintro e c2 ⟨x, rfl, hx, hc2⟩
    replace SI := Lib.hid ((SI.out).keptB hc2)
    replace HB := Lib.hid (bstep HB.out hc2)
    clear hc2
    have CI := Lib.hid hx
    clear hx
    go_wp2_with fail
    refine (pall9_in x l _ HO.out (by have := HN.out; have := HLN.out; omega) CI.out).mono ?_
    rintro e c3 ⟨rfl, hc3⟩
    replace SI := Lib.hid ((SI.out).keptB hc3)
    replace HB := Lib.hid (bstep HB.out hc3)
    clear hc3
    clear CI
    go_wp2_with fail
    refine (rall9_in _ l _ HO.out (by have := HN.out; have := HLN.out; omega) SI.out).mono ?_
    rintro e c4 ⟨rfl, hc4⟩
    replace SI := Lib.hid ((SI.out).keptB hc4)
    replace HB := Lib.hid (bstep HB.out hc4)
    clear hc4
    go_wp2
    try rw [Exit.noGoto_ret]
    go_ret
    exact ⟨rfl, HB.out⟩

end Go.Proofs.Ytcmcgkcljefckaa
