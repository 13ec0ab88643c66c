/- The walk over the laws' own alive. -/
import Derived.Test.YtibhhhadjpmjiaaPortFit
import Derived.Test.YtibhhhadjpmjiaaPortTick
import Derived.Deep.DeepCutAuto
namespace Go.Proofs.Ytibhhhadjpmjiaa
set_option maxRecDepth 100000
open Go.RowKit
set_option linter.unusedVariables false
set_option linter.unusedSimpArgs false

def mA0 : Pm := newP 10 3 false
def mA1 : Pm := startP mA0 5
theorem av0 : mayB 10 3 = true := by decide
theorem av1 : (mA0.st == 1) = true := by decide
theorem av2 : mA1.un = 35 := by decide
theorem av3 : tickN mA1 34 = 0 := by decide
theorem av4 : tickP mA1 34 = mA1 := by rfl
theorem av5 : tickN mA1 35 = 2 := by decide
theorem av6 : (tickP mA1 35).st = 6 := by decide
theorem av7 : (tickP mA1 35).un = 0 := by decide
theorem mA0_ok : mA0.ok := (new_fit av0).ok
theorem mA1_ok : mA1.ok := same_ok mA0_ok rfl rfl
set_option maxHeartbeats 4000000 in
theorem alive12_any  (w : World) :
    Calls Try.prog 11 #[] w fun e w' => e = .returned (.bool true) ∧ Below w.heap.size w w' := by
  have HB := Lib.hid (Below.refl w.heap.size w)
  go_enter Try.func11, Try.ntmps11
  go_wp2_with fail
  refine (pnew12_any 10 3 false _).mono ?_
  intro e w1 hh
  obtain ⟨gM, rfl, hm, hl, hb⟩ := hh.2 av0
  clear hh
  have M : Hid (Holds w1 gM 51 (mcA mA0)) := hm
  have LM := Lib.hid (Nat.le_trans (HB.out).size hl)
  replace HB := Lib.hid (bstep HB.out hb)
  clear hm hl hb
  go_wp2_with fail
  have LZ := Lib.hid (HB.out).size
  refine (pstart12_any gM mA0 5 _ M.out mA0_ok).mono ?_
  rintro e c1 ⟨rfl, hm, ho⟩
  replace M := Lib.hid hm
  replace HB := Lib.hid (bonly8 HB.out ho LZ.out (by have := LM.out; simp; omega))
  clear hm ho LZ
  rw [av1]
  replace M : Hid (Holds _ gM 51 (mcA mA1)) := M
  go_wp2_with fail
  refine (puntil12_any gM mA1 _ M.out).mono ?_
  rintro e w1 ⟨rfl, rfl⟩
  rw [av2]
  go_wp2_with fail
  have LZ := Lib.hid (HB.out).size
  refine (ptick12_any gM mA1 34 _ M.out mA1_ok).mono ?_
  rintro e c1 ⟨rfl, hm, ho⟩
  replace M := Lib.hid hm
  replace HB := Lib.hid (bonly8 HB.out ho LZ.out (by have := LM.out; simp; omega))
  clear hm ho LZ
  rw [av3]
  rw [av4] at M
  go_wp2_with fail
  have LZ := Lib.hid (HB.out).size
  refine (ptick12_any gM mA1 35 _ M.out mA1_ok).mono ?_
  rintro e c1 ⟨rfl, hm, ho⟩
  replace M := Lib.hid hm
  replace HB := Lib.hid (bonly8 HB.out ho LZ.out (by have := LM.out; simp; omega))
  clear hm ho LZ
  rw [av5]
  go_wp2_with fail
  refine (pstate12_any gM (tickP mA1 35) _ M.out).mono ?_
  rintro e w1 ⟨rfl, rfl⟩
  rw [av6]
  go_wp2_with fail
  refine (puntil12_any gM (tickP mA1 35) _ M.out).mono ?_
  rintro e w1 ⟨rfl, rfl⟩
  rw [av7]
  go_wp2
  go_ret
  exact ⟨rfl, HB.out⟩

end Go.Proofs.Ytibhhhadjpmjiaa
