/- The walk over PortAlone. -/
import Derived.Test.YtibhhhadjpmjiaaPortDo
import Derived.Test.YtibhhhadjpmjiaaPortAlive
import Derived.Test.YtibhhhadjpmjiaaPortOpen
import Derived.Test.YtibhhhadjpmjiaaPortInv
import Derived.Deep.DeepCutAuto
import Derived.Deep.LoopGhost
namespace Go.Proofs.Ytibhhhadjpmjiaa
set_option maxRecDepth 100000
open Go.RowKit
set_option linter.unusedVariables false
set_option linter.unusedSimpArgs false

set_option maxHeartbeats 4000000 in
theorem alone12 (ev of : Int) (sl : Bool) (A : Option Addr) (n c : Nat) (l : List Po) (w : World) (hs : PosOk w A n c l) :
    Calls Try.prog 6 #[.agg (kdA ev of sl), .slice A n c] w fun e w' => e = .returned (.bool true) ∧ Below w.heap.size w w' := by
  cases hmy : mayB ev of
  · have HMY := Lib.hid hmy
    clear hmy
    have HB := Lib.hid (Below.refl w.heap.size w)
    have HLS := Lib.hid hs
    clear hs
    go_enter Try.func6, Try.ntmps6
    go_upto_region 1 with ((refine big_box rfl 23 _ rfl (kdA ev of sl) rfl (by kernel_rfl) ?_; intro gK2 wK2 hlK2 nK2 hbK2; have K2 := Lib.hid nK2; have LK2 := Lib.hid (Nat.le_trans (HB.out).size hlK2); replace HB := Lib.hid (bstep HB.out hbK2); clear hlK2 nK2 hbK2; try simp only [Act.put, List.setIfInBounds_toArray, List.set_cons_zero, List.set_cons_succ]))
    have k0 := (K2.out).reads (i := 0) (x := .int .i64 ev) rfl
    have k1 := (K2.out).reads (i := 1) (x := .int .i64 of) rfl
    have k2 := (K2.out).reads (i := 2) (x := .bool sl) rfl
    go_wp2_with fail
    clear k0 k1 k2
    refine (pnew12_any ev of sl _).mono ?_
    intro e w1 hh
    obtain ⟨rfl, rfl⟩ := hh.1 HMY.out
    clear hh
    go_wp2_with fail
    refine (alive12_any _).mono ?_
    rintro e ca ⟨rfl, hca⟩
    replace HB := Lib.hid (bstep HB.out hca)
    clear hca
    go_wp2
    try rw [Exit.noGoto_ret]
    go_ret
    exact ⟨rfl, HB.out⟩
  · have HMY := Lib.hid hmy
    clear hmy
    have HB := Lib.hid (Below.refl w.heap.size w)
    have HLS := Lib.hid hs
    clear hs
    go_enter Try.func6, Try.ntmps6
    go_upto_region 1 with ((refine big_box rfl 23 _ rfl (kdA ev of sl) rfl (by kernel_rfl) ?_; intro gK2 wK2 hlK2 nK2 hbK2; have K2 := Lib.hid nK2; have LK2 := Lib.hid (Nat.le_trans (HB.out).size hlK2); replace HB := Lib.hid (bstep HB.out hbK2); clear hlK2 nK2 hbK2; try simp only [Act.put, List.setIfInBounds_toArray, List.set_cons_zero, List.set_cons_succ]))
    have k0 := (K2.out).reads (i := 0) (x := .int .i64 ev) rfl
    have k1 := (K2.out).reads (i := 1) (x := .int .i64 of) rfl
    have k2 := (K2.out).reads (i := 2) (x := .bool sl) rfl
    go_wp2_with fail
    clear k0 k1 k2
    refine (pnew12_any ev of sl _).mono ?_
    intro e w1 hh
    obtain ⟨gM, rfl, hm, hl, hb⟩ := hh.2 HMY.out
    have OMK2 : Hid (gM ≠ gK2) := by rw [Hid]; have := (K2.out).inside; omega
    replace K2 := Lib.hid ((K2.out).keptB hb)
    have LM := Lib.hid (Nat.le_trans (HB.out).size hl)
    have M := Lib.hid hm
    replace HB := Lib.hid (bstep HB.out hb)
    clear hh hm hl hb
    by_cases q0 : (2000 : Int) < (n : Int)
    · have e0 : decide ((2000 : Int) < (n : Int)) = true := decide_eq_true q0
      clear q0
      go_wp2_with fail
      refine (alive12_any _).mono ?_
      rintro e ca ⟨rfl, hca⟩
      replace HB := Lib.hid (bstep HB.out hca)
      clear hca
      go_wp2
      try rw [Exit.noGoto_ret]
      go_ret
      exact ⟨rfl, HB.out⟩
    · have e0 : decide ((2000 : Int) < (n : Int)) = false := decide_eq_false q0
      have hn4 : n ≤ 2000 := by omega
      clear q0
      go_wp2
      go_loopg [37] n (fun gh i v => ∃ (j : Nat) (m : Pm), j + gh = n ∧ i = .int .i64 j ∧ Hid (Holds v gM 51 (mcA m)) ∧ Hid (m.fine ev of sl) ∧ Hid (Holds v gK2 23 (kdA ev of sl)) ∧ Hid (Below w.heap.size w v))
      case atStart => exact ⟨0, newP ev of sl, by omega, rfl, M, Lib.hid (new_fine HMY.out), K2, HB⟩
      case round =>
        clear M HB K2
        obtain ⟨j, m, hj, rfl, M, HR, K2, HB⟩ := hrel
        cases gk with
        | zero =>
          have hd : decide ((j : Int) < (n : Int)) = false := decide_eq_false (by omega)
          go_wp2_with fail
          refine (pstate12_any gM m _ M.out).mono ?_
          rintro e w1 ⟨rfl, rfl⟩
          go_wp2_with fail
          refine (puntil12_any gM m _ M.out).mono ?_
          rintro e w1 ⟨rfl, rfl⟩
          by_cases hst : m.st < 4 ∨ m.st = 6
          · have hun : m.un = 0 := (HR.out).fit.rest hst
            have hwt : waitPB m = false := by rw [← Bool.not_eq_true, wait_st (HR.out).fit]; exact fun h => h hst
            have HT := Lib.hid (tick_rest hwt 4611686018427387904)
            have eu : (m.un == 0) = true := by simp [hun]
            obtain ⟨s0, s1⟩ := (HR.out).fit.st
            have e4 : (m.st == 4) = false := by simp only [beq_eq_false_iff_ne, ne_eq]; omega
            have e5 : (m.st == 5) = false := by simp only [beq_eq_false_iff_ne, ne_eq]; omega
            have e7 : (m.st == 7) = false := by simp only [beq_eq_false_iff_ne, ne_eq]; omega
            have e8 : (m.st == 8) = false := by simp only [beq_eq_false_iff_ne, ne_eq]; omega
            have e9 : (m.st == 9) = false := by simp only [beq_eq_false_iff_ne, ne_eq]; omega
            have es : (m.st == m.st) = true := by simp
            have en : (m.st != m.st) = false := by simp
            clear hst hun hwt s0 s1
            go_wp2_with fail
            refine (alive12_any _).mono ?_
            rintro e ca ⟨rfl, hca⟩
            replace M := Lib.hid ((M.out).keptB hca)
            replace HB := Lib.hid (bstep HB.out hca)
            clear hca
            go_wp2_with fail
            have LZ := Lib.hid (HB.out).size
            refine (ptick12_any gM m 4611686018427387904 _ M.out (HR.out).fit.ok).mono ?_
            rintro e c1 ⟨rfl, hm, ho⟩
            replace M := Lib.hid hm
            replace HB := Lib.hid (bonly8 HB.out ho LZ.out (by have := LM.out; simp; omega))
            clear hm ho LZ
            rw [(HT.out).2]
            rw [(HT.out).1] at M
            go_wp2_with fail
            refine (pstate12_any gM m _ M.out).mono ?_
            rintro e w1 ⟨rfl, rfl⟩
            go_wp2
            try rw [Exit.noGoto_ret]
            go_ret
            exact ⟨rfl, HB.out⟩
          · have HW : Hid (waitPB m = true) := (wait_st (HR.out).fit).2 hst
            obtain ⟨s0, s1⟩ := (HR.out).fit.st
            obtain ⟨u0, u1⟩ := And.intro (HR.out).fit.u0 (HR.out).fit.u1
            have HA := Lib.hid (tick_at HR.out HW.out)
            have hq : m.st = 4 ∨ m.st = 5 ∨ m.st = 7 ∨ m.st = 8 ∨ m.st = 9 := by omega
            clear hst s0 s1
            rcases hq with hk | hk | hk | hk | hk
            · have e4 : (m.st == 4) = true := by rw [hk]; rfl
              clear hk
              have es : (m.st == m.st) = true := by simp
              have en : (m.st != m.st) = false := by simp
              by_cases hp : 0 < m.un
              · have dp : decide (0 < m.un) = true := decide_eq_true hp
                have HT := Lib.hid (tick_before (HR.out).fit (now := m.un - 1) (by omega) (by omega))
                go_wp2_with fail
                have LZ := Lib.hid (HB.out).size
                refine (ptick12_any gM m (m.un - 1) _ M.out (HR.out).fit.ok).mono ?_
                rintro e c1 ⟨rfl, hm, ho⟩
                replace K2 := Lib.hid ((K2.out).only ho (by have := OMK2.out; simp; omega))
                replace M := Lib.hid hm
                replace HB := Lib.hid (bonly8 HB.out ho LZ.out (by have := LM.out; simp; omega))
                clear hm ho LZ
                rw [(HT.out).2]
                rw [(HT.out).1] at M
                clear HT
                go_wp2_with fail
                refine (pstate12_any gM m _ M.out).mono ?_
                rintro e w1 ⟨rfl, rfl⟩
                clear dp hp
                rcases Bool.eq_false_or_eq_true sl with hsl | hsl
                · have HSL := Lib.hid hsl
                  clear hsl
                  have k2 := (K2.out).reads (i := 2) (x := .bool sl) rfl
                  rw [HSL.out] at k2
                  go_upto_region 18 with fail
                  clear k2
                  go_wp2_with fail
                  refine (alive12_any _).mono ?_
                  rintro e ca ⟨rfl, hca⟩
                  replace M := Lib.hid ((M.out).keptB hca)
                  replace HB := Lib.hid (bstep HB.out hca)
                  clear hca
                  go_wp2_with fail
                  have LZ := Lib.hid (HB.out).size
                  refine (ptick12_any gM m m.un _ M.out (HR.out).fit.ok).mono ?_
                  rintro e c1 ⟨rfl, hm, ho⟩
                  replace M := Lib.hid hm
                  replace HB := Lib.hid (bonly8 HB.out ho LZ.out (by have := LM.out; simp; omega))
                  clear hm ho LZ
                  have et := (HA.out).1
                  have et2 : (tickN m m.un != 0) = true := by unfold bne; rw [et]; rfl
                  have et3 : (!(tickN m m.un == 0)) = true := et2
                  have HAS : Hid ((tickP m m.un).st = 4) := by rw [Hid, (HA.out).2, HSL.out]; rfl
                  go_wp2_with fail
                  refine (pstate12_any gM (tickP m m.un) _ M.out).mono ?_
                  rintro e w1 ⟨rfl, rfl⟩
                  rw [HAS.out]
                  go_wp2
                  try rw [Exit.noGoto_ret]
                  go_ret
                  exact ⟨rfl, HB.out⟩
                · have HSL := Lib.hid hsl
                  clear hsl
                  have k2 := (K2.out).reads (i := 2) (x := .bool sl) rfl
                  rw [HSL.out] at k2
                  go_upto_region 18 with fail
                  clear k2
                  go_wp2_with fail
                  refine (alive12_any _).mono ?_
                  rintro e ca ⟨rfl, hca⟩
                  replace M := Lib.hid ((M.out).keptB hca)
                  replace HB := Lib.hid (bstep HB.out hca)
                  clear hca
                  go_wp2_with fail
                  have LZ := Lib.hid (HB.out).size
                  refine (ptick12_any gM m m.un _ M.out (HR.out).fit.ok).mono ?_
                  rintro e c1 ⟨rfl, hm, ho⟩
                  replace M := Lib.hid hm
                  replace HB := Lib.hid (bonly8 HB.out ho LZ.out (by have := LM.out; simp; omega))
                  clear hm ho LZ
                  have et := (HA.out).1
                  have et2 : (tickN m m.un != 0) = true := by unfold bne; rw [et]; rfl
                  have et3 : (!(tickN m m.un == 0)) = true := et2
                  have HAS : Hid ((tickP m m.un).st = 6) := by rw [Hid, (HA.out).2, HSL.out]; rfl
                  go_wp2_with fail
                  refine (pstate12_any gM (tickP m m.un) _ M.out).mono ?_
                  rintro e w1 ⟨rfl, rfl⟩
                  rw [HAS.out]
                  go_wp2
                  try rw [Exit.noGoto_ret]
                  go_ret
                  exact ⟨rfl, HB.out⟩
              · have dp : decide (0 < m.un) = false := decide_eq_false hp
                rcases Bool.eq_false_or_eq_true sl with hsl | hsl
                · have HSL := Lib.hid hsl
                  clear hsl
                  have k2 := (K2.out).reads (i := 2) (x := .bool sl) rfl
                  rw [HSL.out] at k2
                  go_upto_region 18 with fail
                  clear k2
                  go_wp2_with fail
                  refine (alive12_any _).mono ?_
                  rintro e ca ⟨rfl, hca⟩
                  replace M := Lib.hid ((M.out).keptB hca)
                  replace HB := Lib.hid (bstep HB.out hca)
                  clear hca
                  go_wp2_with fail
                  have LZ := Lib.hid (HB.out).size
                  refine (ptick12_any gM m m.un _ M.out (HR.out).fit.ok).mono ?_
                  rintro e c1 ⟨rfl, hm, ho⟩
                  replace M := Lib.hid hm
                  replace HB := Lib.hid (bonly8 HB.out ho LZ.out (by have := LM.out; simp; omega))
                  clear hm ho LZ
                  have et := (HA.out).1
                  have et2 : (tickN m m.un != 0) = true := by unfold bne; rw [et]; rfl
                  have et3 : (!(tickN m m.un == 0)) = true := et2
                  have HAS : Hid ((tickP m m.un).st = 4) := by rw [Hid, (HA.out).2, HSL.out]; rfl
                  go_wp2_with fail
                  refine (pstate12_any gM (tickP m m.un) _ M.out).mono ?_
                  rintro e w1 ⟨rfl, rfl⟩
                  rw [HAS.out]
                  go_wp2
                  try rw [Exit.noGoto_ret]
                  go_ret
                  exact ⟨rfl, HB.out⟩
                · have HSL := Lib.hid hsl
                  clear hsl
                  have k2 := (K2.out).reads (i := 2) (x := .bool sl) rfl
                  rw [HSL.out] at k2
                  go_upto_region 18 with fail
                  clear k2
                  go_wp2_with fail
                  refine (alive12_any _).mono ?_
                  rintro e ca ⟨rfl, hca⟩
                  replace M := Lib.hid ((M.out).keptB hca)
                  replace HB := Lib.hid (bstep HB.out hca)
                  clear hca
                  go_wp2_with fail
                  have LZ := Lib.hid (HB.out).size
                  refine (ptick12_any gM m m.un _ M.out (HR.out).fit.ok).mono ?_
                  rintro e c1 ⟨rfl, hm, ho⟩
                  replace M := Lib.hid hm
                  replace HB := Lib.hid (bonly8 HB.out ho LZ.out (by have := LM.out; simp; omega))
                  clear hm ho LZ
                  have et := (HA.out).1
                  have et2 : (tickN m m.un != 0) = true := by unfold bne; rw [et]; rfl
                  have et3 : (!(tickN m m.un == 0)) = true := et2
                  have HAS : Hid ((tickP m m.un).st = 6) := by rw [Hid, (HA.out).2, HSL.out]; rfl
                  go_wp2_with fail
                  refine (pstate12_any gM (tickP m m.un) _ M.out).mono ?_
                  rintro e w1 ⟨rfl, rfl⟩
                  rw [HAS.out]
                  go_wp2
                  try rw [Exit.noGoto_ret]
                  go_ret
                  exact ⟨rfl, HB.out⟩
            · have e4 : (m.st == 4) = false := by rw [hk]; rfl
              have e5 : (m.st == 5) = true := by rw [hk]; rfl
              clear hk
              have es : (m.st == m.st) = true := by simp
              have en : (m.st != m.st) = false := by simp
              by_cases hp : 0 < m.un
              · have dp : decide (0 < m.un) = true := decide_eq_true hp
                have HT := Lib.hid (tick_before (HR.out).fit (now := m.un - 1) (by omega) (by omega))
                go_wp2_with fail
                have LZ := Lib.hid (HB.out).size
                refine (ptick12_any gM m (m.un - 1) _ M.out (HR.out).fit.ok).mono ?_
                rintro e c1 ⟨rfl, hm, ho⟩
                replace K2 := Lib.hid ((K2.out).only ho (by have := OMK2.out; simp; omega))
                replace M := Lib.hid hm
                replace HB := Lib.hid (bonly8 HB.out ho LZ.out (by have := LM.out; simp; omega))
                clear hm ho LZ
                rw [(HT.out).2]
                rw [(HT.out).1] at M
                clear HT
                go_wp2_with fail
                refine (pstate12_any gM m _ M.out).mono ?_
                rintro e w1 ⟨rfl, rfl⟩
                clear dp hp
                rcases Bool.eq_false_or_eq_true sl with hsl | hsl
                · have HSL := Lib.hid hsl
                  clear hsl
                  have k2 := (K2.out).reads (i := 2) (x := .bool sl) rfl
                  rw [HSL.out] at k2
                  go_upto_region 18 with fail
                  clear k2
                  go_wp2_with fail
                  refine (alive12_any _).mono ?_
                  rintro e ca ⟨rfl, hca⟩
                  replace M := Lib.hid ((M.out).keptB hca)
                  replace HB := Lib.hid (bstep HB.out hca)
                  clear hca
                  go_wp2_with fail
                  have LZ := Lib.hid (HB.out).size
                  refine (ptick12_any gM m m.un _ M.out (HR.out).fit.ok).mono ?_
                  rintro e c1 ⟨rfl, hm, ho⟩
                  replace M := Lib.hid hm
                  replace HB := Lib.hid (bonly8 HB.out ho LZ.out (by have := LM.out; simp; omega))
                  clear hm ho LZ
                  have et := (HA.out).1
                  have et2 : (tickN m m.un != 0) = true := by unfold bne; rw [et]; rfl
                  have et3 : (!(tickN m m.un == 0)) = true := et2
                  have HAS : Hid ((tickP m m.un).st = 4) := by rw [Hid, (HA.out).2, HSL.out]; rfl
                  go_wp2_with fail
                  refine (pstate12_any gM (tickP m m.un) _ M.out).mono ?_
                  rintro e w1 ⟨rfl, rfl⟩
                  rw [HAS.out]
                  go_wp2
                  try rw [Exit.noGoto_ret]
                  go_ret
                  exact ⟨rfl, HB.out⟩
                · have HSL := Lib.hid hsl
                  clear hsl
                  have k2 := (K2.out).reads (i := 2) (x := .bool sl) rfl
                  rw [HSL.out] at k2
                  go_upto_region 18 with fail
                  clear k2
                  go_wp2_with fail
                  refine (alive12_any _).mono ?_
                  rintro e ca ⟨rfl, hca⟩
                  replace M := Lib.hid ((M.out).keptB hca)
                  replace HB := Lib.hid (bstep HB.out hca)
                  clear hca
                  go_wp2_with fail
                  have LZ := Lib.hid (HB.out).size
                  refine (ptick12_any gM m m.un _ M.out (HR.out).fit.ok).mono ?_
                  rintro e c1 ⟨rfl, hm, ho⟩
                  replace M := Lib.hid hm
                  replace HB := Lib.hid (bonly8 HB.out ho LZ.out (by have := LM.out; simp; omega))
                  clear hm ho LZ
                  have et := (HA.out).1
                  have et2 : (tickN m m.un != 0) = true := by unfold bne; rw [et]; rfl
                  have et3 : (!(tickN m m.un == 0)) = true := et2
                  have HAS : Hid ((tickP m m.un).st = 6) := by rw [Hid, (HA.out).2, HSL.out]; rfl
                  go_wp2_with fail
                  refine (pstate12_any gM (tickP m m.un) _ M.out).mono ?_
                  rintro e w1 ⟨rfl, rfl⟩
                  rw [HAS.out]
                  go_wp2
                  try rw [Exit.noGoto_ret]
                  go_ret
                  exact ⟨rfl, HB.out⟩
              · have dp : decide (0 < m.un) = false := decide_eq_false hp
                rcases Bool.eq_false_or_eq_true sl with hsl | hsl
                · have HSL := Lib.hid hsl
                  clear hsl
                  have k2 := (K2.out).reads (i := 2) (x := .bool sl) rfl
                  rw [HSL.out] at k2
                  go_upto_region 18 with fail
                  clear k2
                  go_wp2_with fail
                  refine (alive12_any _).mono ?_
                  rintro e ca ⟨rfl, hca⟩
                  replace M := Lib.hid ((M.out).keptB hca)
                  replace HB := Lib.hid (bstep HB.out hca)
                  clear hca
                  go_wp2_with fail
                  have LZ := Lib.hid (HB.out).size
                  refine (ptick12_any gM m m.un _ M.out (HR.out).fit.ok).mono ?_
                  rintro e c1 ⟨rfl, hm, ho⟩
                  replace M := Lib.hid hm
                  replace HB := Lib.hid (bonly8 HB.out ho LZ.out (by have := LM.out; simp; omega))
                  clear hm ho LZ
                  have et := (HA.out).1
                  have et2 : (tickN m m.un != 0) = true := by unfold bne; rw [et]; rfl
                  have et3 : (!(tickN m m.un == 0)) = true := et2
                  have HAS : Hid ((tickP m m.un).st = 4) := by rw [Hid, (HA.out).2, HSL.out]; rfl
                  go_wp2_with fail
                  refine (pstate12_any gM (tickP m m.un) _ M.out).mono ?_
                  rintro e w1 ⟨rfl, rfl⟩
                  rw [HAS.out]
                  go_wp2
                  try rw [Exit.noGoto_ret]
                  go_ret
                  exact ⟨rfl, HB.out⟩
                · have HSL := Lib.hid hsl
                  clear hsl
                  have k2 := (K2.out).reads (i := 2) (x := .bool sl) rfl
                  rw [HSL.out] at k2
                  go_upto_region 18 with fail
                  clear k2
                  go_wp2_with fail
                  refine (alive12_any _).mono ?_
                  rintro e ca ⟨rfl, hca⟩
                  replace M := Lib.hid ((M.out).keptB hca)
                  replace HB := Lib.hid (bstep HB.out hca)
                  clear hca
                  go_wp2_with fail
                  have LZ := Lib.hid (HB.out).size
                  refine (ptick12_any gM m m.un _ M.out (HR.out).fit.ok).mono ?_
                  rintro e c1 ⟨rfl, hm, ho⟩
                  replace M := Lib.hid hm
                  replace HB := Lib.hid (bonly8 HB.out ho LZ.out (by have := LM.out; simp; omega))
                  clear hm ho LZ
                  have et := (HA.out).1
                  have et2 : (tickN m m.un != 0) = true := by unfold bne; rw [et]; rfl
                  have et3 : (!(tickN m m.un == 0)) = true := et2
                  have HAS : Hid ((tickP m m.un).st = 6) := by rw [Hid, (HA.out).2, HSL.out]; rfl
                  go_wp2_with fail
                  refine (pstate12_any gM (tickP m m.un) _ M.out).mono ?_
                  rintro e w1 ⟨rfl, rfl⟩
                  rw [HAS.out]
                  go_wp2
                  try rw [Exit.noGoto_ret]
                  go_ret
                  exact ⟨rfl, HB.out⟩
            · have e4 : (m.st == 4) = false := by rw [hk]; rfl
              have e5 : (m.st == 5) = false := by rw [hk]; rfl
              have e7 : (m.st == 7) = true := by rw [hk]; rfl
              clear hk
              have es : (m.st == m.st) = true := by simp
              have en : (m.st != m.st) = false := by simp
              by_cases hp : 0 < m.un
              · have dp : decide (0 < m.un) = true := decide_eq_true hp
                have HT := Lib.hid (tick_before (HR.out).fit (now := m.un - 1) (by omega) (by omega))
                go_wp2_with fail
                have LZ := Lib.hid (HB.out).size
                refine (ptick12_any gM m (m.un - 1) _ M.out (HR.out).fit.ok).mono ?_
                rintro e c1 ⟨rfl, hm, ho⟩
                replace K2 := Lib.hid ((K2.out).only ho (by have := OMK2.out; simp; omega))
                replace M := Lib.hid hm
                replace HB := Lib.hid (bonly8 HB.out ho LZ.out (by have := LM.out; simp; omega))
                clear hm ho LZ
                rw [(HT.out).2]
                rw [(HT.out).1] at M
                clear HT
                go_wp2_with fail
                refine (pstate12_any gM m _ M.out).mono ?_
                rintro e w1 ⟨rfl, rfl⟩
                clear dp hp
                rcases Bool.eq_false_or_eq_true sl with hsl | hsl
                · have HSL := Lib.hid hsl
                  clear hsl
                  have k2 := (K2.out).reads (i := 2) (x := .bool sl) rfl
                  rw [HSL.out] at k2
                  go_upto_region 18 with fail
                  clear k2
                  go_wp2_with fail
                  refine (alive12_any _).mono ?_
                  rintro e ca ⟨rfl, hca⟩
                  replace M := Lib.hid ((M.out).keptB hca)
                  replace HB := Lib.hid (bstep HB.out hca)
                  clear hca
                  go_wp2_with fail
                  have LZ := Lib.hid (HB.out).size
                  refine (ptick12_any gM m m.un _ M.out (HR.out).fit.ok).mono ?_
                  rintro e c1 ⟨rfl, hm, ho⟩
                  replace M := Lib.hid hm
                  replace HB := Lib.hid (bonly8 HB.out ho LZ.out (by have := LM.out; simp; omega))
                  clear hm ho LZ
                  have et := (HA.out).1
                  have et2 : (tickN m m.un != 0) = true := by unfold bne; rw [et]; rfl
                  have et3 : (!(tickN m m.un == 0)) = true := et2
                  have HAS : Hid ((tickP m m.un).st = 4) := by rw [Hid, (HA.out).2, HSL.out]; rfl
                  go_wp2_with fail
                  refine (pstate12_any gM (tickP m m.un) _ M.out).mono ?_
                  rintro e w1 ⟨rfl, rfl⟩
                  rw [HAS.out]
                  go_wp2
                  try rw [Exit.noGoto_ret]
                  go_ret
                  exact ⟨rfl, HB.out⟩
                · have HSL := Lib.hid hsl
                  clear hsl
                  have k2 := (K2.out).reads (i := 2) (x := .bool sl) rfl
                  rw [HSL.out] at k2
                  go_upto_region 18 with fail
                  clear k2
                  go_wp2_with fail
                  refine (alive12_any _).mono ?_
                  rintro e ca ⟨rfl, hca⟩
                  replace M := Lib.hid ((M.out).keptB hca)
                  replace HB := Lib.hid (bstep HB.out hca)
                  clear hca
                  go_wp2_with fail
                  have LZ := Lib.hid (HB.out).size
                  refine (ptick12_any gM m m.un _ M.out (HR.out).fit.ok).mono ?_
                  rintro e c1 ⟨rfl, hm, ho⟩
                  replace M := Lib.hid hm
                  replace HB := Lib.hid (bonly8 HB.out ho LZ.out (by have := LM.out; simp; omega))
                  clear hm ho LZ
                  have et := (HA.out).1
                  have et2 : (tickN m m.un != 0) = true := by unfold bne; rw [et]; rfl
                  have et3 : (!(tickN m m.un == 0)) = true := et2
                  have HAS : Hid ((tickP m m.un).st = 6) := by rw [Hid, (HA.out).2, HSL.out]; rfl
                  go_wp2_with fail
                  refine (pstate12_any gM (tickP m m.un) _ M.out).mono ?_
                  rintro e w1 ⟨rfl, rfl⟩
                  rw [HAS.out]
                  go_wp2
                  try rw [Exit.noGoto_ret]
                  go_ret
                  exact ⟨rfl, HB.out⟩
              · have dp : decide (0 < m.un) = false := decide_eq_false hp
                rcases Bool.eq_false_or_eq_true sl with hsl | hsl
                · have HSL := Lib.hid hsl
                  clear hsl
                  have k2 := (K2.out).reads (i := 2) (x := .bool sl) rfl
                  rw [HSL.out] at k2
                  go_upto_region 18 with fail
                  clear k2
                  go_wp2_with fail
                  refine (alive12_any _).mono ?_
                  rintro e ca ⟨rfl, hca⟩
                  replace M := Lib.hid ((M.out).keptB hca)
                  replace HB := Lib.hid (bstep HB.out hca)
                  clear hca
                  go_wp2_with fail
                  have LZ := Lib.hid (HB.out).size
                  refine (ptick12_any gM m m.un _ M.out (HR.out).fit.ok).mono ?_
                  rintro e c1 ⟨rfl, hm, ho⟩
                  replace M := Lib.hid hm
                  replace HB := Lib.hid (bonly8 HB.out ho LZ.out (by have := LM.out; simp; omega))
                  clear hm ho LZ
                  have et := (HA.out).1
                  have et2 : (tickN m m.un != 0) = true := by unfold bne; rw [et]; rfl
                  have et3 : (!(tickN m m.un == 0)) = true := et2
                  have HAS : Hid ((tickP m m.un).st = 4) := by rw [Hid, (HA.out).2, HSL.out]; rfl
                  go_wp2_with fail
                  refine (pstate12_any gM (tickP m m.un) _ M.out).mono ?_
                  rintro e w1 ⟨rfl, rfl⟩
                  rw [HAS.out]
                  go_wp2
                  try rw [Exit.noGoto_ret]
                  go_ret
                  exact ⟨rfl, HB.out⟩
                · have HSL := Lib.hid hsl
                  clear hsl
                  have k2 := (K2.out).reads (i := 2) (x := .bool sl) rfl
                  rw [HSL.out] at k2
                  go_upto_region 18 with fail
                  clear k2
                  go_wp2_with fail
                  refine (alive12_any _).mono ?_
                  rintro e ca ⟨rfl, hca⟩
                  replace M := Lib.hid ((M.out).keptB hca)
                  replace HB := Lib.hid (bstep HB.out hca)
                  clear hca
                  go_wp2_with fail
                  have LZ := Lib.hid (HB.out).size
                  refine (ptick12_any gM m m.un _ M.out (HR.out).fit.ok).mono ?_
                  rintro e c1 ⟨rfl, hm, ho⟩
                  replace M := Lib.hid hm
                  replace HB := Lib.hid (bonly8 HB.out ho LZ.out (by have := LM.out; simp; omega))
                  clear hm ho LZ
                  have et := (HA.out).1
                  have et2 : (tickN m m.un != 0) = true := by unfold bne; rw [et]; rfl
                  have et3 : (!(tickN m m.un == 0)) = true := et2
                  have HAS : Hid ((tickP m m.un).st = 6) := by rw [Hid, (HA.out).2, HSL.out]; rfl
                  go_wp2_with fail
                  refine (pstate12_any gM (tickP m m.un) _ M.out).mono ?_
                  rintro e w1 ⟨rfl, rfl⟩
                  rw [HAS.out]
                  go_wp2
                  try rw [Exit.noGoto_ret]
                  go_ret
                  exact ⟨rfl, HB.out⟩
            · have e4 : (m.st == 4) = false := by rw [hk]; rfl
              have e5 : (m.st == 5) = false := by rw [hk]; rfl
              have e7 : (m.st == 7) = false := by rw [hk]; rfl
              have e8 : (m.st == 8) = true := by rw [hk]; rfl
              clear hk
              have es : (m.st == m.st) = true := by simp
              have en : (m.st != m.st) = false := by simp
              by_cases hp : 0 < m.un
              · have dp : decide (0 < m.un) = true := decide_eq_true hp
                have HT := Lib.hid (tick_before (HR.out).fit (now := m.un - 1) (by omega) (by omega))
                go_wp2_with fail
                have LZ := Lib.hid (HB.out).size
                refine (ptick12_any gM m (m.un - 1) _ M.out (HR.out).fit.ok).mono ?_
                rintro e c1 ⟨rfl, hm, ho⟩
                replace K2 := Lib.hid ((K2.out).only ho (by have := OMK2.out; simp; omega))
                replace M := Lib.hid hm
                replace HB := Lib.hid (bonly8 HB.out ho LZ.out (by have := LM.out; simp; omega))
                clear hm ho LZ
                rw [(HT.out).2]
                rw [(HT.out).1] at M
                clear HT
                go_wp2_with fail
                refine (pstate12_any gM m _ M.out).mono ?_
                rintro e w1 ⟨rfl, rfl⟩
                clear dp hp
                rcases Bool.eq_false_or_eq_true sl with hsl | hsl
                · have HSL := Lib.hid hsl
                  clear hsl
                  have k2 := (K2.out).reads (i := 2) (x := .bool sl) rfl
                  rw [HSL.out] at k2
                  go_upto_region 18 with fail
                  clear k2
                  go_wp2_with fail
                  refine (alive12_any _).mono ?_
                  rintro e ca ⟨rfl, hca⟩
                  replace M := Lib.hid ((M.out).keptB hca)
                  replace HB := Lib.hid (bstep HB.out hca)
                  clear hca
                  go_wp2_with fail
                  have LZ := Lib.hid (HB.out).size
                  refine (ptick12_any gM m m.un _ M.out (HR.out).fit.ok).mono ?_
                  rintro e c1 ⟨rfl, hm, ho⟩
                  replace M := Lib.hid hm
                  replace HB := Lib.hid (bonly8 HB.out ho LZ.out (by have := LM.out; simp; omega))
                  clear hm ho LZ
                  have et := (HA.out).1
                  have et2 : (tickN m m.un != 0) = true := by unfold bne; rw [et]; rfl
                  have et3 : (!(tickN m m.un == 0)) = true := et2
                  have HAS : Hid ((tickP m m.un).st = 4) := by rw [Hid, (HA.out).2, HSL.out]; rfl
                  go_wp2_with fail
                  refine (pstate12_any gM (tickP m m.un) _ M.out).mono ?_
                  rintro e w1 ⟨rfl, rfl⟩
                  rw [HAS.out]
                  go_wp2
                  try rw [Exit.noGoto_ret]
                  go_ret
                  exact ⟨rfl, HB.out⟩
                · have HSL := Lib.hid hsl
                  clear hsl
                  have k2 := (K2.out).reads (i := 2) (x := .bool sl) rfl
                  rw [HSL.out] at k2
                  go_upto_region 18 with fail
                  clear k2
                  go_wp2_with fail
                  refine (alive12_any _).mono ?_
                  rintro e ca ⟨rfl, hca⟩
                  replace M := Lib.hid ((M.out).keptB hca)
                  replace HB := Lib.hid (bstep HB.out hca)
                  clear hca
                  go_wp2_with fail
                  have LZ := Lib.hid (HB.out).size
                  refine (ptick12_any gM m m.un _ M.out (HR.out).fit.ok).mono ?_
                  rintro e c1 ⟨rfl, hm, ho⟩
                  replace M := Lib.hid hm
                  replace HB := Lib.hid (bonly8 HB.out ho LZ.out (by have := LM.out; simp; omega))
                  clear hm ho LZ
                  have et := (HA.out).1
                  have et2 : (tickN m m.un != 0) = true := by unfold bne; rw [et]; rfl
                  have et3 : (!(tickN m m.un == 0)) = true := et2
                  have HAS : Hid ((tickP m m.un).st = 6) := by rw [Hid, (HA.out).2, HSL.out]; rfl
                  go_wp2_with fail
                  refine (pstate12_any gM (tickP m m.un) _ M.out).mono ?_
                  rintro e w1 ⟨rfl, rfl⟩
                  rw [HAS.out]
                  go_wp2
                  try rw [Exit.noGoto_ret]
                  go_ret
                  exact ⟨rfl, HB.out⟩
              · have dp : decide (0 < m.un) = false := decide_eq_false hp
                rcases Bool.eq_false_or_eq_true sl with hsl | hsl
                · have HSL := Lib.hid hsl
                  clear hsl
                  have k2 := (K2.out).reads (i := 2) (x := .bool sl) rfl
                  rw [HSL.out] at k2
                  go_upto_region 18 with fail
                  clear k2
                  go_wp2_with fail
                  refine (alive12_any _).mono ?_
                  rintro e ca ⟨rfl, hca⟩
                  replace M := Lib.hid ((M.out).keptB hca)
                  replace HB := Lib.hid (bstep HB.out hca)
                  clear hca
                  go_wp2_with fail
                  have LZ := Lib.hid (HB.out).size
                  refine (ptick12_any gM m m.un _ M.out (HR.out).fit.ok).mono ?_
                  rintro e c1 ⟨rfl, hm, ho⟩
                  replace M := Lib.hid hm
                  replace HB := Lib.hid (bonly8 HB.out ho LZ.out (by have := LM.out; simp; omega))
                  clear hm ho LZ
                  have et := (HA.out).1
                  have et2 : (tickN m m.un != 0) = true := by unfold bne; rw [et]; rfl
                  have et3 : (!(tickN m m.un == 0)) = true := et2
                  have HAS : Hid ((tickP m m.un).st = 4) := by rw [Hid, (HA.out).2, HSL.out]; rfl
                  go_wp2_with fail
                  refine (pstate12_any gM (tickP m m.un) _ M.out).mono ?_
                  rintro e w1 ⟨rfl, rfl⟩
                  rw [HAS.out]
                  go_wp2
                  try rw [Exit.noGoto_ret]
                  go_ret
                  exact ⟨rfl, HB.out⟩
                · have HSL := Lib.hid hsl
                  clear hsl
                  have k2 := (K2.out).reads (i := 2) (x := .bool sl) rfl
                  rw [HSL.out] at k2
                  go_upto_region 18 with fail
                  clear k2
                  go_wp2_with fail
                  refine (alive12_any _).mono ?_
                  rintro e ca ⟨rfl, hca⟩
                  replace M := Lib.hid ((M.out).keptB hca)
                  replace HB := Lib.hid (bstep HB.out hca)
                  clear hca
                  go_wp2_with fail
                  have LZ := Lib.hid (HB.out).size
                  refine (ptick12_any gM m m.un _ M.out (HR.out).fit.ok).mono ?_
                  rintro e c1 ⟨rfl, hm, ho⟩
                  replace M := Lib.hid hm
                  replace HB := Lib.hid (bonly8 HB.out ho LZ.out (by have := LM.out; simp; omega))
                  clear hm ho LZ
                  have et := (HA.out).1
                  have et2 : (tickN m m.un != 0) = true := by unfold bne; rw [et]; rfl
                  have et3 : (!(tickN m m.un == 0)) = true := et2
                  have HAS : Hid ((tickP m m.un).st = 6) := by rw [Hid, (HA.out).2, HSL.out]; rfl
                  go_wp2_with fail
                  refine (pstate12_any gM (tickP m m.un) _ M.out).mono ?_
                  rintro e w1 ⟨rfl, rfl⟩
                  rw [HAS.out]
                  go_wp2
                  try rw [Exit.noGoto_ret]
                  go_ret
                  exact ⟨rfl, HB.out⟩
            · have e4 : (m.st == 4) = false := by rw [hk]; rfl
              have e5 : (m.st == 5) = false := by rw [hk]; rfl
              have e7 : (m.st == 7) = false := by rw [hk]; rfl
              have e8 : (m.st == 8) = false := by rw [hk]; rfl
              have e9 : (m.st == 9) = true := by rw [hk]; rfl
              clear hk
              have es : (m.st == m.st) = true := by simp
              have en : (m.st != m.st) = false := by simp
              by_cases hp : 0 < m.un
              · have dp : decide (0 < m.un) = true := decide_eq_true hp
                have HT := Lib.hid (tick_before (HR.out).fit (now := m.un - 1) (by omega) (by omega))
                go_wp2_with fail
                have LZ := Lib.hid (HB.out).size
                refine (ptick12_any gM m (m.un - 1) _ M.out (HR.out).fit.ok).mono ?_
                rintro e c1 ⟨rfl, hm, ho⟩
                replace K2 := Lib.hid ((K2.out).only ho (by have := OMK2.out; simp; omega))
                replace M := Lib.hid hm
                replace HB := Lib.hid (bonly8 HB.out ho LZ.out (by have := LM.out; simp; omega))
                clear hm ho LZ
                rw [(HT.out).2]
                rw [(HT.out).1] at M
                clear HT
                go_wp2_with fail
                refine (pstate12_any gM m _ M.out).mono ?_
                rintro e w1 ⟨rfl, rfl⟩
                clear dp hp
                rcases Bool.eq_false_or_eq_true sl with hsl | hsl
                · have HSL := Lib.hid hsl
                  clear hsl
                  have k2 := (K2.out).reads (i := 2) (x := .bool sl) rfl
                  rw [HSL.out] at k2
                  go_upto_region 18 with fail
                  clear k2
                  go_wp2_with fail
                  refine (alive12_any _).mono ?_
                  rintro e ca ⟨rfl, hca⟩
                  replace M := Lib.hid ((M.out).keptB hca)
                  replace HB := Lib.hid (bstep HB.out hca)
                  clear hca
                  go_wp2_with fail
                  have LZ := Lib.hid (HB.out).size
                  refine (ptick12_any gM m m.un _ M.out (HR.out).fit.ok).mono ?_
                  rintro e c1 ⟨rfl, hm, ho⟩
                  replace M := Lib.hid hm
                  replace HB := Lib.hid (bonly8 HB.out ho LZ.out (by have := LM.out; simp; omega))
                  clear hm ho LZ
                  have et := (HA.out).1
                  have et2 : (tickN m m.un != 0) = true := by unfold bne; rw [et]; rfl
                  have et3 : (!(tickN m m.un == 0)) = true := et2
                  have HAS : Hid ((tickP m m.un).st = 4) := by rw [Hid, (HA.out).2, HSL.out]; rfl
                  go_wp2_with fail
                  refine (pstate12_any gM (tickP m m.un) _ M.out).mono ?_
                  rintro e w1 ⟨rfl, rfl⟩
                  rw [HAS.out]
                  go_wp2
                  try rw [Exit.noGoto_ret]
                  go_ret
                  exact ⟨rfl, HB.out⟩
                · have HSL := Lib.hid hsl
                  clear hsl
                  have k2 := (K2.out).reads (i := 2) (x := .bool sl) rfl
                  rw [HSL.out] at k2
                  go_upto_region 18 with fail
                  clear k2
                  go_wp2_with fail
                  refine (alive12_any _).mono ?_
                  rintro e ca ⟨rfl, hca⟩
                  replace M := Lib.hid ((M.out).keptB hca)
                  replace HB := Lib.hid (bstep HB.out hca)
                  clear hca
                  go_wp2_with fail
                  have LZ := Lib.hid (HB.out).size
                  refine (ptick12_any gM m m.un _ M.out (HR.out).fit.ok).mono ?_
                  rintro e c1 ⟨rfl, hm, ho⟩
                  replace M := Lib.hid hm
                  replace HB := Lib.hid (bonly8 HB.out ho LZ.out (by have := LM.out; simp; omega))
                  clear hm ho LZ
                  have et := (HA.out).1
                  have et2 : (tickN m m.un != 0) = true := by unfold bne; rw [et]; rfl
                  have et3 : (!(tickN m m.un == 0)) = true := et2
                  have HAS : Hid ((tickP m m.un).st = 6) := by rw [Hid, (HA.out).2, HSL.out]; rfl
                  go_wp2_with fail
                  refine (pstate12_any gM (tickP m m.un) _ M.out).mono ?_
                  rintro e w1 ⟨rfl, rfl⟩
                  rw [HAS.out]
                  go_wp2
                  try rw [Exit.noGoto_ret]
                  go_ret
                  exact ⟨rfl, HB.out⟩
              · have dp : decide (0 < m.un) = false := decide_eq_false hp
                rcases Bool.eq_false_or_eq_true sl with hsl | hsl
                · have HSL := Lib.hid hsl
                  clear hsl
                  have k2 := (K2.out).reads (i := 2) (x := .bool sl) rfl
                  rw [HSL.out] at k2
                  go_upto_region 18 with fail
                  clear k2
                  go_wp2_with fail
                  refine (alive12_any _).mono ?_
                  rintro e ca ⟨rfl, hca⟩
                  replace M := Lib.hid ((M.out).keptB hca)
                  replace HB := Lib.hid (bstep HB.out hca)
                  clear hca
                  go_wp2_with fail
                  have LZ := Lib.hid (HB.out).size
                  refine (ptick12_any gM m m.un _ M.out (HR.out).fit.ok).mono ?_
                  rintro e c1 ⟨rfl, hm, ho⟩
                  replace M := Lib.hid hm
                  replace HB := Lib.hid (bonly8 HB.out ho LZ.out (by have := LM.out; simp; omega))
                  clear hm ho LZ
                  have et := (HA.out).1
                  have et2 : (tickN m m.un != 0) = true := by unfold bne; rw [et]; rfl
                  have et3 : (!(tickN m m.un == 0)) = true := et2
                  have HAS : Hid ((tickP m m.un).st = 4) := by rw [Hid, (HA.out).2, HSL.out]; rfl
                  go_wp2_with fail
                  refine (pstate12_any gM (tickP m m.un) _ M.out).mono ?_
                  rintro e w1 ⟨rfl, rfl⟩
                  rw [HAS.out]
                  go_wp2
                  try rw [Exit.noGoto_ret]
                  go_ret
                  exact ⟨rfl, HB.out⟩
                · have HSL := Lib.hid hsl
                  clear hsl
                  have k2 := (K2.out).reads (i := 2) (x := .bool sl) rfl
                  rw [HSL.out] at k2
                  go_upto_region 18 with fail
                  clear k2
                  go_wp2_with fail
                  refine (alive12_any _).mono ?_
                  rintro e ca ⟨rfl, hca⟩
                  replace M := Lib.hid ((M.out).keptB hca)
                  replace HB := Lib.hid (bstep HB.out hca)
                  clear hca
                  go_wp2_with fail
                  have LZ := Lib.hid (HB.out).size
                  refine (ptick12_any gM m m.un _ M.out (HR.out).fit.ok).mono ?_
                  rintro e c1 ⟨rfl, hm, ho⟩
                  replace M := Lib.hid hm
                  replace HB := Lib.hid (bonly8 HB.out ho LZ.out (by have := LM.out; simp; omega))
                  clear hm ho LZ
                  have et := (HA.out).1
                  have et2 : (tickN m m.un != 0) = true := by unfold bne; rw [et]; rfl
                  have et3 : (!(tickN m m.un == 0)) = true := et2
                  have HAS : Hid ((tickP m m.un).st = 6) := by rw [Hid, (HA.out).2, HSL.out]; rfl
                  go_wp2_with fail
                  refine (pstate12_any gM (tickP m m.un) _ M.out).mono ?_
                  rintro e w1 ⟨rfl, rfl⟩
                  rw [HAS.out]
                  go_wp2
                  try rw [Exit.noGoto_ret]
                  go_ret
                  exact ⟨rfl, HB.out⟩
        | succ g1 =>
          have hlt : j < n := by omega
          have hd : decide ((j : Int) < (n : Int)) = true := decide_eq_true (by omega)
          obtain ⟨o, ho⟩ : ∃ o, l[j]? = some o := ⟨_, List.getElem?_eq_getElem (show j < l.length by have := (HLS.out).len; omega)⟩
          have HK := Lib.hid hlt
          have HKO : Hid o.fits := (HLS.out).ok o (List.mem_of_getElem? ho)
          obtain ⟨g, f, hA, hcl⟩ := (HLS.out).at_ (by omega)
          subst hA
          have HP : Hid (∀ v, Below w.heap.size w v → v.rangeAt g (f + j * 5) (poA o).toList) := fun v hv => hcl.now poA_five (by decide) hv ho
          clear hcl ho hlt
          go_upto_region 7 with (first | (refine big_fill rfl 35 _ _ rfl gK9 (poA o) rfl rfl K9.out (by kernel_rfl) (by kernel_rfl) (by kernel_rfl) ?_; intro vK90 nK9 htK9; replace K9 := Lib.hid nK9; replace M := Lib.hid ((M.out).touch htK9 OMK9.out); replace K2 := Lib.hid ((K2.out).touch htK9 OK2K9.out); replace HB := Lib.hid (btouch HB.out htK9 LK9.out); clear nK9 htK9; try simp only [Act.put, List.setIfInBounds_toArray, List.set_cons_zero, List.set_cons_succ]) | (refine big_alloc rfl 35 rfl (poA ⟨0, 0, 0, 0, false⟩) (by kernel_rfl) ?_; intro gK9 wK9 hlK9 nK9 hbK9; have K9 := Lib.hid nK9; have LK9 := Lib.hid (Nat.le_trans (HB.out).size hlK9); have OMK9 := Lib.hid ((M.out).off hlK9); have OK2K9 := Lib.hid ((K2.out).off hlK9); replace M := Lib.hid ((M.out).keptB hbK9); replace K2 := Lib.hid ((K2.out).keptB hbK9); replace HB := Lib.hid (bstep HB.out hbK9); clear hlK9 nK9 hbK9; try simp only [Act.put, List.setIfInBounds_toArray, List.set_cons_zero, List.set_cons_succ]) | (refine big_loadAt rfl 35 _ rfl g (f + j * 5) rfl (poA o) (HP.out _ HB.out) Try.underlying35 rfl (by kernel_rfl) ?_; try simp only [Act.put, List.setIfInBounds_toArray, List.set_cons_zero, List.set_cons_succ]) | (refine big_index rfl 24 _ _ rfl g f n c j 5 rfl rfl HK.out Try.underlying24 (by kernel_rfl) ?_; try simp only [Act.put, List.setIfInBounds_toArray, List.set_cons_zero, List.set_cons_succ]))
          go_wp2_with ((refine big_whole rfl 35 _ rfl gK9 rfl K9.out Try.underlying35 rfl (by kernel_rfl) ?_; try simp only [Act.put, List.setIfInBounds_toArray, List.set_cons_zero, List.set_cons_succ]))
          have LZ := Lib.hid (HB.out).size
          refine (does12_any gM m o _ M.out (HR.out).fit HKO.out).mono ?_
          rintro e c1 ⟨rfl, hm, ho⟩
          replace K2 := Lib.hid ((K2.out).only ho (by have := OMK2.out; simp; omega))
          replace K9 := Lib.hid ((K9.out).only ho (by have := OMK9.out; simp; omega))
          replace M := Lib.hid hm
          replace HB := Lib.hid (bonly8 HB.out ho LZ.out (by have := LM.out; simp; omega))
          clear hm ho LZ
          clear K9 LK9 OMK9 OK2K9
          have HR2 : Hid ((doP m o).fine ev of sl) := do_fine HR.out o
          obtain ⟨m2, hm2⟩ : ∃ x, doP m o = x := ⟨_, rfl⟩
          rw [hm2] at M HR2
          clear hm2 HR
          go_wp2
          go_roundg g1
          case measure => omega
          case rel => exact ⟨j + 1, m2, by omega, by go_num, M, HR2, K2, HB⟩

end Go.Proofs.Ytibhhhadjpmjiaa
