/- The walks over the laws' own one and does. -/
import Derived.Test.YtibhhhadjpmjiaaPortFit
import Derived.Test.YtibhhhadjpmjiaaPortTick
import Derived.Test.YtibhhhadjpmjiaaPortDecide2
import Derived.Deep.DeepCutAuto
namespace Go.Proofs.Ytibhhhadjpmjiaa
set_option maxRecDepth 100000
open Go.RowKit
set_option linter.unusedVariables false
set_option linter.unusedSimpArgs false

set_option maxHeartbeats 4000000 in
theorem one12_any (b : Bool) (w : World) :
    Calls Try.prog 30 #[.bool b] w fun e w' => e = .returned (.int .i64 (oneN b)) ∧ w = w' := by
  cases b
  · go_enter Try.func30, Try.ntmps30
    go_wp2
    go_ret
    exact ⟨rfl, rfl⟩
  · go_enter Try.func30, Try.ntmps30
    go_wp2
    go_ret
    exact ⟨rfl, rfl⟩
set_option maxHeartbeats 4000000 in
theorem does12_any (gM : Nat) (m : Pm) (o : Po) (w : World) (hM : Holds w gM 51 (mcA m)) (hf : m.fit) (hcd : -9223372036854775808 ≤ o.code ∧ o.code ≤ 9223372036854775807) :
    Calls Try.prog 13 #[.pointer (some ⟨gM, 0, none⟩), .agg (poA o)] w fun e w' => e = .returned (.int .i64 (doPN m o)) ∧ Holds w' gM 51 (mcA (doP m o)) ∧ Only [gM] w.heap.size w w' := by
  by_cases h0 : o.kd = 0
  · have HX : Hid (doP m o = startP m o.now) := by
      unfold doP
      rw [Hid, if_pos h0]
      exact rfl
    have HY : Hid (doPN m o = oneN (m.st == 1)) := by
      unfold doPN
      rw [Hid, if_pos h0]
      exact (one_eq m 1).symm
    have d0 : (o.kd == 0) = true := by simp [h0]
    clear h0
    have HO := Lib.hid (Only.refl [gM] w.heap.size w)
    have M := Lib.hid hM
    clear hM
    have HF := Lib.hid hf
    have HC := Lib.hid hcd
    clear hf hcd
    go_enter Try.func13, Try.ntmps13
    go_upto_region 1 with ((refine big_box rfl 35 _ rfl (poA o) rfl (by kernel_rfl) ?_; intro gK3 wK3 hlK3 nK3 hbK3; have K3 := Lib.hid nK3; have LK3 := Lib.hid (Nat.le_trans (HO.out).size hlK3); have OMK3 := Lib.hid ((M.out).off hlK3); replace M := Lib.hid ((M.out).keptB hbK3); replace HO := Lib.hid ((HO.out).step hbK3); clear hlK3 nK3 hbK3; try simp only [Act.put, List.setIfInBounds_toArray, List.set_cons_zero, List.set_cons_succ]))
    have y0 := (K3.out).reads (i := 0) (x := .int .i64 o.kd) rfl
    have y1 := (K3.out).reads (i := 1) (x := .int .i64 o.code) rfl
    have y2 := (K3.out).reads (i := 2) (x := .int .i64 o.steps) rfl
    have y3 := (K3.out).reads (i := 3) (x := .int .i64 o.now) rfl
    have y4 := (K3.out).reads (i := 4) (x := .bool o.same) rfl
    go_upto_region 3 with fail
    go_wp2_with fail
    clear y0 y1 y2 y3 y4
    refine (pstart12_any gM m o.now _ M.out (HF.out).ok).mono ?_
    rintro e c1 ⟨rfl, hm, ho⟩
    replace M := Lib.hid hm
    replace K3 := Lib.hid ((K3.out).only ho (by have := OMK3.out; simp; omega))
    replace HO := Lib.hid ((HO.out).trans ho (by simp))
    clear hm ho
    go_wp2_with fail
    refine (one12_any (m.st == 1) _).mono ?_
    rintro e v5 ⟨rfl, rfl⟩
    go_wp2
    go_ret
    rw [HX.out, HY.out]
    exact ⟨rfl, M.out, HO.out⟩
  · by_cases h1 : o.kd = 1
    · have HX : Hid (doP m o = faultP m) := by
        unfold doP
        rw [Hid, if_neg h0, if_pos h1]
        exact rfl
      have HY : Hid (doPN m o = oneN (faultB m)) := by
        unfold doPN
        rw [Hid, if_neg h0, if_pos h1]
        exact (one_fault m).symm
      have d0 : (o.kd == 0) = false := by simpa using h0
      have d1 : (o.kd == 1) = true := by simp [h1]
      clear h0 h1
      have HO := Lib.hid (Only.refl [gM] w.heap.size w)
      have M := Lib.hid hM
      clear hM
      have HF := Lib.hid hf
      have HC := Lib.hid hcd
      clear hf hcd
      go_enter Try.func13, Try.ntmps13
      go_upto_region 1 with ((refine big_box rfl 35 _ rfl (poA o) rfl (by kernel_rfl) ?_; intro gK3 wK3 hlK3 nK3 hbK3; have K3 := Lib.hid nK3; have LK3 := Lib.hid (Nat.le_trans (HO.out).size hlK3); have OMK3 := Lib.hid ((M.out).off hlK3); replace M := Lib.hid ((M.out).keptB hbK3); replace HO := Lib.hid ((HO.out).step hbK3); clear hlK3 nK3 hbK3; try simp only [Act.put, List.setIfInBounds_toArray, List.set_cons_zero, List.set_cons_succ]))
      have y0 := (K3.out).reads (i := 0) (x := .int .i64 o.kd) rfl
      have y1 := (K3.out).reads (i := 1) (x := .int .i64 o.code) rfl
      have y2 := (K3.out).reads (i := 2) (x := .int .i64 o.steps) rfl
      have y3 := (K3.out).reads (i := 3) (x := .int .i64 o.now) rfl
      have y4 := (K3.out).reads (i := 4) (x := .bool o.same) rfl
      go_upto_region 5 with fail
      go_wp2_with fail
      clear y0 y1 y2 y3 y4
      refine (pfault12_any gM m _ M.out).mono ?_
      rintro e c1 ⟨rfl, hm, ho⟩
      replace M := Lib.hid hm
      replace K3 := Lib.hid ((K3.out).only ho (by have := OMK3.out; simp; omega))
      replace HO := Lib.hid ((HO.out).trans ho (by simp))
      clear hm ho
      go_wp2_with fail
      refine (one12_any (faultB m) _).mono ?_
      rintro e v5 ⟨rfl, rfl⟩
      go_wp2
      go_ret
      rw [HX.out, HY.out]
      exact ⟨rfl, M.out, HO.out⟩
    · by_cases h2 : o.kd = 2
      · have HX : Hid (doP m o = turnP m 2 1) := by
          unfold doP
          rw [Hid, if_neg h0, if_neg h1, if_pos h2]
          exact (turn_rest hf (.inl rfl)).symm
        have HY : Hid (doPN m o = oneN (m.st == 2)) := by
          unfold doPN
          rw [Hid, if_neg h0, if_neg h1, if_pos h2]
          exact (one_eq m 2).symm
        have d0 : (o.kd == 0) = false := by simpa using h0
        have d1 : (o.kd == 1) = false := by simpa using h1
        have d2 : (o.kd == 2) = true := by simp [h2]
        clear h0 h1 h2
        have HO := Lib.hid (Only.refl [gM] w.heap.size w)
        have M := Lib.hid hM
        clear hM
        have HF := Lib.hid hf
        have HC := Lib.hid hcd
        clear hf hcd
        go_enter Try.func13, Try.ntmps13
        go_upto_region 1 with ((refine big_box rfl 35 _ rfl (poA o) rfl (by kernel_rfl) ?_; intro gK3 wK3 hlK3 nK3 hbK3; have K3 := Lib.hid nK3; have LK3 := Lib.hid (Nat.le_trans (HO.out).size hlK3); have OMK3 := Lib.hid ((M.out).off hlK3); replace M := Lib.hid ((M.out).keptB hbK3); replace HO := Lib.hid ((HO.out).step hbK3); clear hlK3 nK3 hbK3; try simp only [Act.put, List.setIfInBounds_toArray, List.set_cons_zero, List.set_cons_succ]))
        have y0 := (K3.out).reads (i := 0) (x := .int .i64 o.kd) rfl
        have y1 := (K3.out).reads (i := 1) (x := .int .i64 o.code) rfl
        have y2 := (K3.out).reads (i := 2) (x := .int .i64 o.steps) rfl
        have y3 := (K3.out).reads (i := 3) (x := .int .i64 o.now) rfl
        have y4 := (K3.out).reads (i := 4) (x := .bool o.same) rfl
        go_upto_region 7 with fail
        go_wp2_with fail
        clear y0 y1 y2 y3 y4
        refine (pclear12_any gM m _ M.out).mono ?_
        rintro e c1 ⟨rfl, hm, ho⟩
        replace M := Lib.hid hm
        replace K3 := Lib.hid ((K3.out).only ho (by have := OMK3.out; simp; omega))
        replace HO := Lib.hid ((HO.out).trans ho (by simp))
        clear hm ho
        go_wp2_with fail
        refine (one12_any (m.st == 2) _).mono ?_
        rintro e v5 ⟨rfl, rfl⟩
        go_wp2
        go_ret
        rw [HX.out, HY.out]
        exact ⟨rfl, M.out, HO.out⟩
      · by_cases h3 : o.kd = 3
        · have HX : Hid (doP m o = disP m) := by
            unfold doP
            rw [Hid, if_neg h0, if_neg h1, if_neg h2, if_pos h3]
            exact rfl
          have HY : Hid (doPN m o = oneN (!(m.st == 3))) := by
            unfold doPN
            rw [Hid, if_neg h0, if_neg h1, if_neg h2, if_pos h3]
            exact (one_dis m).symm
          have d0 : (o.kd == 0) = false := by simpa using h0
          have d1 : (o.kd == 1) = false := by simpa using h1
          have d2 : (o.kd == 2) = false := by simpa using h2
          have d3 : (o.kd == 3) = true := by simp [h3]
          clear h0 h1 h2 h3
          have HO := Lib.hid (Only.refl [gM] w.heap.size w)
          have M := Lib.hid hM
          clear hM
          have HF := Lib.hid hf
          have HC := Lib.hid hcd
          clear hf hcd
          go_enter Try.func13, Try.ntmps13
          go_upto_region 1 with ((refine big_box rfl 35 _ rfl (poA o) rfl (by kernel_rfl) ?_; intro gK3 wK3 hlK3 nK3 hbK3; have K3 := Lib.hid nK3; have LK3 := Lib.hid (Nat.le_trans (HO.out).size hlK3); have OMK3 := Lib.hid ((M.out).off hlK3); replace M := Lib.hid ((M.out).keptB hbK3); replace HO := Lib.hid ((HO.out).step hbK3); clear hlK3 nK3 hbK3; try simp only [Act.put, List.setIfInBounds_toArray, List.set_cons_zero, List.set_cons_succ]))
          have y0 := (K3.out).reads (i := 0) (x := .int .i64 o.kd) rfl
          have y1 := (K3.out).reads (i := 1) (x := .int .i64 o.code) rfl
          have y2 := (K3.out).reads (i := 2) (x := .int .i64 o.steps) rfl
          have y3 := (K3.out).reads (i := 3) (x := .int .i64 o.now) rfl
          have y4 := (K3.out).reads (i := 4) (x := .bool o.same) rfl
          go_upto_region 9 with fail
          go_wp2_with fail
          clear y0 y1 y2 y3 y4
          refine (pdis12_any gM m _ M.out).mono ?_
          rintro e c1 ⟨rfl, hm, ho⟩
          replace M := Lib.hid hm
          replace K3 := Lib.hid ((K3.out).only ho (by have := OMK3.out; simp; omega))
          replace HO := Lib.hid ((HO.out).trans ho (by simp))
          clear hm ho
          go_wp2_with fail
          refine (one12_any (!(m.st == 3)) _).mono ?_
          rintro e v5 ⟨rfl, rfl⟩
          go_wp2
          go_ret
          rw [HX.out, HY.out]
          exact ⟨rfl, M.out, HO.out⟩
        · by_cases h4 : o.kd = 4
          · have HX : Hid (doP m o = turnP m 3 1) := by
              unfold doP
              rw [Hid, if_neg h0, if_neg h1, if_neg h2, if_neg h3, if_pos h4]
              exact (turn_rest hf (.inr rfl)).symm
            have HY : Hid (doPN m o = oneN (m.st == 3)) := by
              unfold doPN
              rw [Hid, if_neg h0, if_neg h1, if_neg h2, if_neg h3, if_pos h4]
              exact (one_eq m 3).symm
            have d0 : (o.kd == 0) = false := by simpa using h0
            have d1 : (o.kd == 1) = false := by simpa using h1
            have d2 : (o.kd == 2) = false := by simpa using h2
            have d3 : (o.kd == 3) = false := by simpa using h3
            have d4 : (o.kd == 4) = true := by simp [h4]
            clear h0 h1 h2 h3 h4
            have HO := Lib.hid (Only.refl [gM] w.heap.size w)
            have M := Lib.hid hM
            clear hM
            have HF := Lib.hid hf
            have HC := Lib.hid hcd
            clear hf hcd
            go_enter Try.func13, Try.ntmps13
            go_upto_region 1 with ((refine big_box rfl 35 _ rfl (poA o) rfl (by kernel_rfl) ?_; intro gK3 wK3 hlK3 nK3 hbK3; have K3 := Lib.hid nK3; have LK3 := Lib.hid (Nat.le_trans (HO.out).size hlK3); have OMK3 := Lib.hid ((M.out).off hlK3); replace M := Lib.hid ((M.out).keptB hbK3); replace HO := Lib.hid ((HO.out).step hbK3); clear hlK3 nK3 hbK3; try simp only [Act.put, List.setIfInBounds_toArray, List.set_cons_zero, List.set_cons_succ]))
            have y0 := (K3.out).reads (i := 0) (x := .int .i64 o.kd) rfl
            have y1 := (K3.out).reads (i := 1) (x := .int .i64 o.code) rfl
            have y2 := (K3.out).reads (i := 2) (x := .int .i64 o.steps) rfl
            have y3 := (K3.out).reads (i := 3) (x := .int .i64 o.now) rfl
            have y4 := (K3.out).reads (i := 4) (x := .bool o.same) rfl
            go_upto_region 11 with fail
            go_wp2_with fail
            clear y0 y1 y2 y3 y4
            refine (penable12_any gM m _ M.out).mono ?_
            rintro e c1 ⟨rfl, hm, ho⟩
            replace M := Lib.hid hm
            replace K3 := Lib.hid ((K3.out).only ho (by have := OMK3.out; simp; omega))
            replace HO := Lib.hid ((HO.out).trans ho (by simp))
            clear hm ho
            go_wp2_with fail
            refine (one12_any (m.st == 3) _).mono ?_
            rintro e v5 ⟨rfl, rfl⟩
            go_wp2
            go_ret
            rw [HX.out, HY.out]
            exact ⟨rfl, M.out, HO.out⟩
          · by_cases h5 : o.kd = 5
            · have HX : Hid (doP m o = turnP m 8 9) := by
                unfold doP
                rw [Hid, if_neg h0, if_neg h1, if_neg h2, if_neg h3, if_neg h4, if_pos h5]
                exact rfl
              have HY : Hid (doPN m o = oneN (m.st == 8)) := by
                unfold doPN
                rw [Hid, if_neg h0, if_neg h1, if_neg h2, if_neg h3, if_neg h4, if_pos h5]
                exact (one_eq m 8).symm
              have d0 : (o.kd == 0) = false := by simpa using h0
              have d1 : (o.kd == 1) = false := by simpa using h1
              have d2 : (o.kd == 2) = false := by simpa using h2
              have d3 : (o.kd == 3) = false := by simpa using h3
              have d4 : (o.kd == 4) = false := by simpa using h4
              have d5 : (o.kd == 5) = true := by simp [h5]
              clear h0 h1 h2 h3 h4 h5
              have HO := Lib.hid (Only.refl [gM] w.heap.size w)
              have M := Lib.hid hM
              clear hM
              have HF := Lib.hid hf
              have HC := Lib.hid hcd
              clear hf hcd
              go_enter Try.func13, Try.ntmps13
              go_upto_region 1 with ((refine big_box rfl 35 _ rfl (poA o) rfl (by kernel_rfl) ?_; intro gK3 wK3 hlK3 nK3 hbK3; have K3 := Lib.hid nK3; have LK3 := Lib.hid (Nat.le_trans (HO.out).size hlK3); have OMK3 := Lib.hid ((M.out).off hlK3); replace M := Lib.hid ((M.out).keptB hbK3); replace HO := Lib.hid ((HO.out).step hbK3); clear hlK3 nK3 hbK3; try simp only [Act.put, List.setIfInBounds_toArray, List.set_cons_zero, List.set_cons_succ]))
              have y0 := (K3.out).reads (i := 0) (x := .int .i64 o.kd) rfl
              have y1 := (K3.out).reads (i := 1) (x := .int .i64 o.code) rfl
              have y2 := (K3.out).reads (i := 2) (x := .int .i64 o.steps) rfl
              have y3 := (K3.out).reads (i := 3) (x := .int .i64 o.now) rfl
              have y4 := (K3.out).reads (i := 4) (x := .bool o.same) rfl
              go_upto_region 13 with fail
              go_wp2_with fail
              clear y0 y1 y2 y3 y4
              refine (plock12_any gM m _ M.out).mono ?_
              rintro e c1 ⟨rfl, hm, ho⟩
              replace M := Lib.hid hm
              replace K3 := Lib.hid ((K3.out).only ho (by have := OMK3.out; simp; omega))
              replace HO := Lib.hid ((HO.out).trans ho (by simp))
              clear hm ho
              go_wp2_with fail
              refine (one12_any (m.st == 8) _).mono ?_
              rintro e v5 ⟨rfl, rfl⟩
              go_wp2
              go_ret
              rw [HX.out, HY.out]
              exact ⟨rfl, M.out, HO.out⟩
            · by_cases h6 : o.kd = 6
              · have HX : Hid (doP m o = turnP m 9 8) := by
                  unfold doP
                  rw [Hid, if_neg h0, if_neg h1, if_neg h2, if_neg h3, if_neg h4, if_neg h5, if_pos h6]
                  exact rfl
                have HY : Hid (doPN m o = oneN (m.st == 9)) := by
                  unfold doPN
                  rw [Hid, if_neg h0, if_neg h1, if_neg h2, if_neg h3, if_neg h4, if_neg h5, if_pos h6]
                  exact (one_eq m 9).symm
                have d0 : (o.kd == 0) = false := by simpa using h0
                have d1 : (o.kd == 1) = false := by simpa using h1
                have d2 : (o.kd == 2) = false := by simpa using h2
                have d3 : (o.kd == 3) = false := by simpa using h3
                have d4 : (o.kd == 4) = false := by simpa using h4
                have d5 : (o.kd == 5) = false := by simpa using h5
                have d6 : (o.kd == 6) = true := by simp [h6]
                clear h0 h1 h2 h3 h4 h5 h6
                have HO := Lib.hid (Only.refl [gM] w.heap.size w)
                have M := Lib.hid hM
                clear hM
                have HF := Lib.hid hf
                have HC := Lib.hid hcd
                clear hf hcd
                go_enter Try.func13, Try.ntmps13
                go_upto_region 1 with ((refine big_box rfl 35 _ rfl (poA o) rfl (by kernel_rfl) ?_; intro gK3 wK3 hlK3 nK3 hbK3; have K3 := Lib.hid nK3; have LK3 := Lib.hid (Nat.le_trans (HO.out).size hlK3); have OMK3 := Lib.hid ((M.out).off hlK3); replace M := Lib.hid ((M.out).keptB hbK3); replace HO := Lib.hid ((HO.out).step hbK3); clear hlK3 nK3 hbK3; try simp only [Act.put, List.setIfInBounds_toArray, List.set_cons_zero, List.set_cons_succ]))
                have y0 := (K3.out).reads (i := 0) (x := .int .i64 o.kd) rfl
                have y1 := (K3.out).reads (i := 1) (x := .int .i64 o.code) rfl
                have y2 := (K3.out).reads (i := 2) (x := .int .i64 o.steps) rfl
                have y3 := (K3.out).reads (i := 3) (x := .int .i64 o.now) rfl
                have y4 := (K3.out).reads (i := 4) (x := .bool o.same) rfl
                go_upto_region 15 with fail
                go_wp2_with fail
                clear y0 y1 y2 y3 y4
                refine (punlock12_any gM m _ M.out).mono ?_
                rintro e c1 ⟨rfl, hm, ho⟩
                replace M := Lib.hid hm
                replace K3 := Lib.hid ((K3.out).only ho (by have := OMK3.out; simp; omega))
                replace HO := Lib.hid ((HO.out).trans ho (by simp))
                clear hm ho
                go_wp2_with fail
                refine (one12_any (m.st == 9) _).mono ?_
                rintro e v5 ⟨rfl, rfl⟩
                go_wp2
                go_ret
                rw [HX.out, HY.out]
                exact ⟨rfl, M.out, HO.out⟩
              · by_cases h7 : o.kd = 7
                · have HX : Hid (doP m o = heardP m o.now) := by
                    unfold doP
                    rw [Hid, if_neg h0, if_neg h1, if_neg h2, if_neg h3, if_neg h4, if_neg h5, if_neg h6, if_pos h7]
                    exact rfl
                  have HY : Hid (doPN m o = 0) := by
                    unfold doPN
                    rw [Hid, if_neg h0, if_neg h1, if_neg h2, if_neg h3, if_neg h4, if_neg h5, if_neg h6, if_neg (by omega)]
                  have d0 : (o.kd == 0) = false := by simpa using h0
                  have d1 : (o.kd == 1) = false := by simpa using h1
                  have d2 : (o.kd == 2) = false := by simpa using h2
                  have d3 : (o.kd == 3) = false := by simpa using h3
                  have d4 : (o.kd == 4) = false := by simpa using h4
                  have d5 : (o.kd == 5) = false := by simpa using h5
                  have d6 : (o.kd == 6) = false := by simpa using h6
                  have d7 : (o.kd == 7) = true := by simp [h7]
                  clear h0 h1 h2 h3 h4 h5 h6 h7
                  have HO := Lib.hid (Only.refl [gM] w.heap.size w)
                  have M := Lib.hid hM
                  clear hM
                  have HF := Lib.hid hf
                  have HC := Lib.hid hcd
                  clear hf hcd
                  go_enter Try.func13, Try.ntmps13
                  go_upto_region 1 with ((refine big_box rfl 35 _ rfl (poA o) rfl (by kernel_rfl) ?_; intro gK3 wK3 hlK3 nK3 hbK3; have K3 := Lib.hid nK3; have LK3 := Lib.hid (Nat.le_trans (HO.out).size hlK3); have OMK3 := Lib.hid ((M.out).off hlK3); replace M := Lib.hid ((M.out).keptB hbK3); replace HO := Lib.hid ((HO.out).step hbK3); clear hlK3 nK3 hbK3; try simp only [Act.put, List.setIfInBounds_toArray, List.set_cons_zero, List.set_cons_succ]))
                  have y0 := (K3.out).reads (i := 0) (x := .int .i64 o.kd) rfl
                  have y1 := (K3.out).reads (i := 1) (x := .int .i64 o.code) rfl
                  have y2 := (K3.out).reads (i := 2) (x := .int .i64 o.steps) rfl
                  have y3 := (K3.out).reads (i := 3) (x := .int .i64 o.now) rfl
                  have y4 := (K3.out).reads (i := 4) (x := .bool o.same) rfl
                  go_upto_region 17 with fail
                  go_wp2_with fail
                  clear y0 y1 y2 y3 y4
                  refine (pheard12_any gM m o.now _ M.out (HF.out).ok).mono ?_
                  rintro e c1 ⟨rfl, hm, ho⟩
                  replace M := Lib.hid hm
                  replace K3 := Lib.hid ((K3.out).only ho (by have := OMK3.out; simp; omega))
                  replace HO := Lib.hid ((HO.out).trans ho (by simp))
                  clear hm ho
                  go_wp2
                  go_ret
                  rw [HX.out, HY.out]
                  exact ⟨rfl, M.out, HO.out⟩
                · by_cases h8 : o.kd = 8
                  · have HX : Hid (doP m o = decideP m o.code o.steps o.now o.same) := by
                      unfold doP
                      rw [Hid, if_neg h0, if_neg h1, if_neg h2, if_neg h3, if_neg h4, if_neg h5, if_neg h6, if_neg h7, if_pos h8]
                    have HY : Hid (doPN m o = 0) := by
                      unfold doPN
                      rw [Hid, if_neg h0, if_neg h1, if_neg h2, if_neg h3, if_neg h4, if_neg h5, if_neg h6, if_neg (by omega)]
                    have d0 : (o.kd == 0) = false := by simpa using h0
                    have d1 : (o.kd == 1) = false := by simpa using h1
                    have d2 : (o.kd == 2) = false := by simpa using h2
                    have d3 : (o.kd == 3) = false := by simpa using h3
                    have d4 : (o.kd == 4) = false := by simpa using h4
                    have d5 : (o.kd == 5) = false := by simpa using h5
                    have d6 : (o.kd == 6) = false := by simpa using h6
                    have d7 : (o.kd == 7) = false := by simpa using h7
                    have d8 : (o.kd == 8) = true := by simp [h8]
                    clear h0 h1 h2 h3 h4 h5 h6 h7 h8
                    have HO := Lib.hid (Only.refl [gM] w.heap.size w)
                    have M := Lib.hid hM
                    clear hM
                    have HF := Lib.hid hf
                    have HC := Lib.hid hcd
                    clear hf hcd
                    go_enter Try.func13, Try.ntmps13
                    go_upto_region 1 with ((refine big_box rfl 35 _ rfl (poA o) rfl (by kernel_rfl) ?_; intro gK3 wK3 hlK3 nK3 hbK3; have K3 := Lib.hid nK3; have LK3 := Lib.hid (Nat.le_trans (HO.out).size hlK3); have OMK3 := Lib.hid ((M.out).off hlK3); replace M := Lib.hid ((M.out).keptB hbK3); replace HO := Lib.hid ((HO.out).step hbK3); clear hlK3 nK3 hbK3; try simp only [Act.put, List.setIfInBounds_toArray, List.set_cons_zero, List.set_cons_succ]))
                    have y0 := (K3.out).reads (i := 0) (x := .int .i64 o.kd) rfl
                    have y1 := (K3.out).reads (i := 1) (x := .int .i64 o.code) rfl
                    have y2 := (K3.out).reads (i := 2) (x := .int .i64 o.steps) rfl
                    have y3 := (K3.out).reads (i := 3) (x := .int .i64 o.now) rfl
                    have y4 := (K3.out).reads (i := 4) (x := .bool o.same) rfl
                    go_upto_region 19 with fail
                    go_wp2_with fail
                    clear y0 y1 y2 y3 y4
                    refine (pdecide12_any gM m o.code o.steps o.now o.same _ M.out (HF.out).ok (HF.out).st HC.out).mono ?_
                    rintro e c1 ⟨rfl, hm, ho⟩
                    replace M := Lib.hid hm
                    replace K3 := Lib.hid ((K3.out).only ho (by have := OMK3.out; simp; omega))
                    replace HO := Lib.hid ((HO.out).trans ho (by simp))
                    clear hm ho
                    go_wp2
                    go_ret
                    rw [HX.out, HY.out]
                    exact ⟨rfl, M.out, HO.out⟩
                  · by_cases h9 : o.kd = 9
                    · have HX : Hid (doP m o = tickP m o.now) := by
                        unfold doP
                        rw [Hid, if_neg h0, if_neg h1, if_neg h2, if_neg h3, if_neg h4, if_neg h5, if_neg h6, if_neg h7, if_neg h8, if_pos h9]
                      have HY : Hid (doPN m o = tickN m o.now) := by
                        unfold doPN
                        rw [Hid, if_neg h0, if_neg h1, if_neg h2, if_neg h3, if_neg h4, if_neg h5, if_neg h6, if_pos h9]
                      have d0 : (o.kd == 0) = false := by simpa using h0
                      have d1 : (o.kd == 1) = false := by simpa using h1
                      have d2 : (o.kd == 2) = false := by simpa using h2
                      have d3 : (o.kd == 3) = false := by simpa using h3
                      have d4 : (o.kd == 4) = false := by simpa using h4
                      have d5 : (o.kd == 5) = false := by simpa using h5
                      have d6 : (o.kd == 6) = false := by simpa using h6
                      have d7 : (o.kd == 7) = false := by simpa using h7
                      have d8 : (o.kd == 8) = false := by simpa using h8
                      have d9 : (o.kd == 9) = true := by simp [h9]
                      clear h0 h1 h2 h3 h4 h5 h6 h7 h8 h9
                      have HO := Lib.hid (Only.refl [gM] w.heap.size w)
                      have M := Lib.hid hM
                      clear hM
                      have HF := Lib.hid hf
                      have HC := Lib.hid hcd
                      clear hf hcd
                      go_enter Try.func13, Try.ntmps13
                      go_upto_region 1 with ((refine big_box rfl 35 _ rfl (poA o) rfl (by kernel_rfl) ?_; intro gK3 wK3 hlK3 nK3 hbK3; have K3 := Lib.hid nK3; have LK3 := Lib.hid (Nat.le_trans (HO.out).size hlK3); have OMK3 := Lib.hid ((M.out).off hlK3); replace M := Lib.hid ((M.out).keptB hbK3); replace HO := Lib.hid ((HO.out).step hbK3); clear hlK3 nK3 hbK3; try simp only [Act.put, List.setIfInBounds_toArray, List.set_cons_zero, List.set_cons_succ]))
                      have y0 := (K3.out).reads (i := 0) (x := .int .i64 o.kd) rfl
                      have y1 := (K3.out).reads (i := 1) (x := .int .i64 o.code) rfl
                      have y2 := (K3.out).reads (i := 2) (x := .int .i64 o.steps) rfl
                      have y3 := (K3.out).reads (i := 3) (x := .int .i64 o.now) rfl
                      have y4 := (K3.out).reads (i := 4) (x := .bool o.same) rfl
                      go_upto_region 21 with fail
                      go_wp2_with fail
                      clear y0 y1 y2 y3 y4
                      refine (ptick12_any gM m o.now _ M.out (HF.out).ok).mono ?_
                      rintro e c1 ⟨rfl, hm, ho⟩
                      replace M := Lib.hid hm
                      replace K3 := Lib.hid ((K3.out).only ho (by have := OMK3.out; simp; omega))
                      replace HO := Lib.hid ((HO.out).trans ho (by simp))
                      clear hm ho
                      go_wp2
                      go_ret
                      rw [HX.out, HY.out]
                      exact ⟨rfl, M.out, HO.out⟩
                    · have HX : Hid (doP m o = m) := by
                        unfold doP
                        rw [Hid, if_neg h0, if_neg h1, if_neg h2, if_neg h3, if_neg h4, if_neg h5, if_neg h6, if_neg h7, if_neg h8, if_neg h9]
                      have HY : Hid (doPN m o = 0) := by
                        unfold doPN
                        rw [Hid, if_neg h0, if_neg h1, if_neg h2, if_neg h3, if_neg h4, if_neg h5, if_neg h6, if_neg h9]
                      have d0 : (o.kd == 0) = false := by simpa using h0
                      have d1 : (o.kd == 1) = false := by simpa using h1
                      have d2 : (o.kd == 2) = false := by simpa using h2
                      have d3 : (o.kd == 3) = false := by simpa using h3
                      have d4 : (o.kd == 4) = false := by simpa using h4
                      have d5 : (o.kd == 5) = false := by simpa using h5
                      have d6 : (o.kd == 6) = false := by simpa using h6
                      have d7 : (o.kd == 7) = false := by simpa using h7
                      have d8 : (o.kd == 8) = false := by simpa using h8
                      have d9 : (o.kd == 9) = false := by simpa using h9
                      clear h0 h1 h2 h3 h4 h5 h6 h7 h8 h9
                      have HO := Lib.hid (Only.refl [gM] w.heap.size w)
                      have M := Lib.hid hM
                      clear hM
                      have HF := Lib.hid hf
                      have HC := Lib.hid hcd
                      clear hf hcd
                      go_enter Try.func13, Try.ntmps13
                      go_upto_region 1 with ((refine big_box rfl 35 _ rfl (poA o) rfl (by kernel_rfl) ?_; intro gK3 wK3 hlK3 nK3 hbK3; have K3 := Lib.hid nK3; have LK3 := Lib.hid (Nat.le_trans (HO.out).size hlK3); have OMK3 := Lib.hid ((M.out).off hlK3); replace M := Lib.hid ((M.out).keptB hbK3); replace HO := Lib.hid ((HO.out).step hbK3); clear hlK3 nK3 hbK3; try simp only [Act.put, List.setIfInBounds_toArray, List.set_cons_zero, List.set_cons_succ]))
                      have y0 := (K3.out).reads (i := 0) (x := .int .i64 o.kd) rfl
                      have y1 := (K3.out).reads (i := 1) (x := .int .i64 o.code) rfl
                      have y2 := (K3.out).reads (i := 2) (x := .int .i64 o.steps) rfl
                      have y3 := (K3.out).reads (i := 3) (x := .int .i64 o.now) rfl
                      have y4 := (K3.out).reads (i := 4) (x := .bool o.same) rfl
                      go_upto_region 22 with fail
                      clear y0 y1 y2 y3 y4
                      go_wp2
                      go_ret
                      rw [HX.out, HY.out]
                      exact ⟨rfl, M.out, HO.out⟩

end Go.Proofs.Ytibhhhadjpmjiaa
