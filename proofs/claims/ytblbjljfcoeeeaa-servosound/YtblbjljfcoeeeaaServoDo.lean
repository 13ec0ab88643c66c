/- The walk over the laws' own does. -/
import Derived.Test.YtblbjljfcoeeeaaServoObs
import Derived.Deep.DeepCutAuto
namespace Go.Proofs.Ytblbjljfcoeeeaa
set_option maxRecDepth 100000
open Go.RowKit
set_option linter.unusedVariables false
set_option linter.unusedSimpArgs false

set_option maxHeartbeats 4000000 in
theorem does14_any (gM : Nat) (s : Sv) (x : Oo) (w : World) (hM : Holds w gM 63 (scA s)) (hf : smallB s.tm = true) (n0 : 0 ≤ s.n) (n1 : s.n ≤ 1000000) :
    Calls Try.prog 12 #[.pointer (some ⟨gM, 0, none⟩), .agg (ooA x)] w fun e w' => e = .returned (.bool (doSB s x)) ∧ Holds w' gM 63 (scA (doSv s x)) ∧ Only [gM] w.heap.size w w' := by
  by_cases h0 : x.kd = 0
  · have HX : Hid (doSv s x = obsS s x.o x.tm) := if_pos h0
    have HY : Hid (doSB s x = obsB s x.o x.tm) := if_pos h0
    have d0 : (x.kd == 0) = true := by simp [h0]
    clear h0
    have HB := Lib.hid (Below.refl w.heap.size w)
    have M := Lib.hid hM
    clear hM
    go_enter Try.func12, Try.ntmps12
    go_upto_region 1 with ((refine big_box rfl 33 _ rfl (ooA x) rfl (by kernel_rfl) ?_; intro gK3 wK3 hlK3 nK3 hbK3; have K3 := Lib.hid nK3; have LK3 := Lib.hid (Nat.le_trans (HB.out).size hlK3); have OMK3 := Lib.hid ((M.out).off hlK3); replace M := Lib.hid ((M.out).keptB hbK3); replace HB := Lib.hid (bstep HB.out hbK3); clear hlK3 nK3 hbK3; try simp only [Act.put, List.setIfInBounds_toArray, List.set_cons_zero, List.set_cons_succ]))
    have y0 := (K3.out).reads (i := 0) (x := .int .i64 x.kd) rfl
    go_upto_region 3 with fail
    clear y0
    have y1 := (K3.out).reads (i := 1) (x := .int .i64 x.tm) rfl
    go_wp2_with ((refine big_load rfl 29 _ rfl gK3 2 rfl K3.out [.int .i64 x.o.lo, .int .i64 x.o.hi, .bool x.o.k] rfl Try.underlying29 rfl (by kernel_rfl) ?_; try simp only [Act.put, List.setIfInBounds_toArray, List.set_cons_zero, List.set_cons_succ]))
    clear y1
    refine (pobs14_any gM s x.o x.tm _ M.out hf n0 n1).mono ?_
    rintro e c1 ⟨rfl, hm, ho⟩
    replace M := Lib.hid hm
    have LZ := Lib.hid (HB.out).size
    have HO := Lib.hid (Only.then_ HB.out ho LZ.out)
    clear hm ho LZ HB
    go_wp2
    go_ret
    rw [HX.out, HY.out]
    exact ⟨rfl, M.out, HO.out⟩
  · by_cases h1 : x.kd = 1
    · have HX : Hid (doSv s x = newSv s.ppb) := by unfold doSv; rw [Hid, if_neg h0, if_pos h1]
      have HY : Hid (doSB s x = true) := if_neg h0
      have d0 : (x.kd == 0) = false := by simpa using h0
      have d1 : (x.kd == 1) = true := by simp [h1]
      clear h0 h1
      have HB := Lib.hid (Below.refl w.heap.size w)
      have M := Lib.hid hM
      clear hM
      go_enter Try.func12, Try.ntmps12
      go_upto_region 1 with ((refine big_box rfl 33 _ rfl (ooA x) rfl (by kernel_rfl) ?_; intro gK3 wK3 hlK3 nK3 hbK3; have K3 := Lib.hid nK3; have LK3 := Lib.hid (Nat.le_trans (HB.out).size hlK3); have OMK3 := Lib.hid ((M.out).off hlK3); replace M := Lib.hid ((M.out).keptB hbK3); replace HB := Lib.hid (bstep HB.out hbK3); clear hlK3 nK3 hbK3; try simp only [Act.put, List.setIfInBounds_toArray, List.set_cons_zero, List.set_cons_succ]))
      have y0 := (K3.out).reads (i := 0) (x := .int .i64 x.kd) rfl
      go_upto_region 5 with fail
      clear y0
      go_wp2_with fail
      refine (preset14_any gM s _ M.out).mono ?_
      rintro e c1 ⟨rfl, hm, ho⟩
      replace M := Lib.hid hm
      have LZ := Lib.hid (HB.out).size
      have HO := Lib.hid (Only.then_ HB.out ho LZ.out)
      clear hm ho LZ HB
      go_wp2
      go_ret
      rw [HX.out, HY.out]
      exact ⟨rfl, M.out, HO.out⟩
    · have HX : Hid (doSv s x = s) := by unfold doSv; rw [Hid, if_neg h0, if_neg h1]
      have HY : Hid (doSB s x = true) := if_neg h0
      have d0 : (x.kd == 0) = false := by simpa using h0
      have d1 : (x.kd == 1) = false := by simpa using h1
      clear h0 h1
      have HB := Lib.hid (Below.refl w.heap.size w)
      have M := Lib.hid hM
      clear hM
      go_enter Try.func12, Try.ntmps12
      go_upto_region 1 with ((refine big_box rfl 33 _ rfl (ooA x) rfl (by kernel_rfl) ?_; intro gK3 wK3 hlK3 nK3 hbK3; have K3 := Lib.hid nK3; have LK3 := Lib.hid (Nat.le_trans (HB.out).size hlK3); have OMK3 := Lib.hid ((M.out).off hlK3); replace M := Lib.hid ((M.out).keptB hbK3); replace HB := Lib.hid (bstep HB.out hbK3); clear hlK3 nK3 hbK3; try simp only [Act.put, List.setIfInBounds_toArray, List.set_cons_zero, List.set_cons_succ]))
      have y0 := (K3.out).reads (i := 0) (x := .int .i64 x.kd) rfl
      go_upto_region 6 with fail
      clear y0
      go_wp2
      go_ret
      rw [HX.out, HY.out]
      exact ⟨rfl, M.out, only_of HB.out⟩

end Go.Proofs.Ytblbjljfcoeeeaa
