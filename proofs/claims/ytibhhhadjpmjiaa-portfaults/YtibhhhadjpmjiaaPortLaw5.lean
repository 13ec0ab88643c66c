/- The walk over PortFaults. -/
import Derived.Test.YtibhhhadjpmjiaaPortDo
import Derived.Test.YtibhhhadjpmjiaaPortAlive
import Derived.Test.YtibhhhadjpmjiaaPortOpen
import Derived.Test.YtibhhhadjpmjiaaPortInv
import Derived.Deep.DeepCutAuto
import Derived.Deep.LoopGhost
namespace Go.Proofs.Ytibhhhadjpmjiaa
set_option maxRecDepth 100000
open Go.RowKit
set_option linter.unusedVariables false
set_option linter.unusedSimpArgs false

set_option maxHeartbeats 4000000 in
theorem faults12 (ev of : Int) (sl : Bool) (A : Option Addr) (n c : Nat) (l : List Po) (dz : Bool) (w : World) (hs : PosOk w A n c l) :
    Calls Try.prog 7 #[.agg (kdA ev of sl), .slice A n c, .bool dz] w fun e w' => e = .returned (.bool true) ∧ Below w.heap.size w w' := by
  cases hmy : mayB ev of
  · have HMY := Lib.hid hmy
    clear hmy
    have HB := Lib.hid (Below.refl w.heap.size w)
    have HLS := Lib.hid hs
    clear hs
    go_enter Try.func7, Try.ntmps7
    go_upto_region 1 with ((refine big_box rfl 23 _ rfl (kdA ev of sl) rfl (by kernel_rfl) ?_; intro gK3 wK3 hlK3 nK3 hbK3; have K3 := Lib.hid nK3; have LK3 := Lib.hid (Nat.le_trans (HB.out).size hlK3); replace HB := Lib.hid (bstep HB.out hbK3); clear hlK3 nK3 hbK3; try simp only [Act.put, List.setIfInBounds_toArray, List.set_cons_zero, List.set_cons_succ]))
    have k0 := (K3.out).reads (i := 0) (x := .int .i64 ev) rfl
    have k1 := (K3.out).reads (i := 1) (x := .int .i64 of) rfl
    have k2 := (K3.out).reads (i := 2) (x := .bool sl) rfl
    go_wp2_with fail
    clear k0 k1 k2
    refine (pnew12_any ev of sl _).mono ?_
    intro e w1 hh
    obtain ⟨rfl, rfl⟩ := hh.1 HMY.out
    clear hh
    go_wp2_with fail
    refine (alive12_any _).mono ?_
    rintro e ca ⟨rfl, hca⟩
    replace HB := Lib.hid (bstep HB.out hca)
    clear hca
    go_wp2
    try rw [Exit.noGoto_ret]
    go_ret
    exact ⟨rfl, HB.out⟩
  · have HMY := Lib.hid hmy
    clear hmy
    have HB := Lib.hid (Below.refl w.heap.size w)
    have HLS := Lib.hid hs
    clear hs
    go_enter Try.func7, Try.ntmps7
    go_upto_region 1 with ((refine big_box rfl 23 _ rfl (kdA ev of sl) rfl (by kernel_rfl) ?_; intro gK3 wK3 hlK3 nK3 hbK3; have K3 := Lib.hid nK3; have LK3 := Lib.hid (Nat.le_trans (HB.out).size hlK3); replace HB := Lib.hid (bstep HB.out hbK3); clear hlK3 nK3 hbK3; try simp only [Act.put, List.setIfInBounds_toArray, List.set_cons_zero, List.set_cons_succ]))
    have k0 := (K3.out).reads (i := 0) (x := .int .i64 ev) rfl
    have k1 := (K3.out).reads (i := 1) (x := .int .i64 of) rfl
    have k2 := (K3.out).reads (i := 2) (x := .bool sl) rfl
    go_wp2_with fail
    clear k0 k1 k2
    refine (pnew12_any ev of sl _).mono ?_
    intro e w1 hh
    obtain ⟨gM, rfl, hm, hl, hb⟩ := hh.2 HMY.out
    have OMK3 : Hid (gM ≠ gK3) := by rw [Hid]; have := (K3.out).inside; omega
    replace K3 := Lib.hid ((K3.out).keptB hb)
    have LM := Lib.hid (Nat.le_trans (HB.out).size hl)
    have M := Lib.hid hm
    replace HB := Lib.hid (bstep HB.out hb)
    clear hh hm hl hb
    clear K3 LK3 OMK3
    by_cases q0 : (500 : Int) < (n : Int)
    · have e0 : decide ((500 : Int) < (n : Int)) = true := decide_eq_true q0
      clear q0
      go_wp2_with fail
      refine (alive12_any _).mono ?_
      rintro e ca ⟨rfl, hca⟩
      replace HB := Lib.hid (bstep HB.out hca)
      clear hca
      go_wp2
      try rw [Exit.noGoto_ret]
      go_ret
      exact ⟨rfl, HB.out⟩
    · have e0 : decide ((500 : Int) < (n : Int)) = false := decide_eq_false q0
      have hn4 : n ≤ 500 := by omega
      clear q0
      have HN := Lib.hid (new_eq (sl := sl) HMY.out)
      have HF0 : Hid ((newP ev of sl).fit) := new_fit HMY.out
      obtain ⟨m1, hm1⟩ : ∃ x, startP (newP ev of sl) 0 = x := ⟨_, rfl⟩
      have HF1 : Hid m1.fit := by rw [Hid, ← hm1]; exact do_fit HF0.out ⟨0, 0, 0, 0, false⟩
      have HS1 : Hid (m1.st = 4) := by rw [Hid, ← hm1, HN.out]; rfl
      go_wp2_with fail
      have LZ := Lib.hid (HB.out).size
      refine (pstart12_any gM (newP ev of sl) 0 _ M.out (HF0.out).ok).mono ?_
      rintro e c1 ⟨rfl, hm, ho⟩
      replace M := Lib.hid hm
      replace HB := Lib.hid (bonly8 HB.out ho LZ.out (by have := LM.out; simp; omega))
      clear hm ho LZ
      rw [hm1] at M
      clear hm1 HN HF0
      obtain ⟨m2, hm2⟩ : ∃ x, faultP m1 = x := ⟨_, rfl⟩
      have hm2b : m2 = restP m1 2 := by rw [← hm2]; unfold faultP; rw [if_pos (by have := HS1.out; omega)]
      have HF2 : Hid m2.fit := by rw [Hid, hm2b]; exact rest_fit HF1.out (by decide) (by decide)
      have HS2 : Hid (m2.st = 2 ∧ m2.un = 0) := by rw [Hid, hm2b]; exact ⟨rfl, rfl⟩
      go_wp2_with fail
      have LZ := Lib.hid (HB.out).size
      refine (pfault12_any gM m1 _ M.out).mono ?_
      rintro e c1 ⟨rfl, hm, ho⟩
      replace M := Lib.hid hm
      replace HB := Lib.hid (bonly8 HB.out ho LZ.out (by have := LM.out; simp; omega))
      clear hm ho LZ
      rw [hm2] at M
      clear hm2 hm2b HF1 HS1
      cases dz
      · go_wp2
        go_loopg [48] n (fun gh i v => ∃ (j : Nat), j + gh = n ∧ i = .int .i64 j ∧ Hid (Holds v gM 51 (mcA m2)) ∧ Hid (Below w.heap.size w v))
        case atStart => exact ⟨0, by omega, rfl, M, HB⟩
        case round =>
          clear M HB
          obtain ⟨j, hj, rfl, M, HB⟩ := hrel
          cases gk with
          | zero =>
            have hd : decide ((j : Int) < (n : Int)) = false := decide_eq_false (by omega)
            have HT : Hid (turnP m2 2 1 = ⟨m2.ev, m2.of, m2.sl, 1, m2.un⟩) := if_pos (HS2.out).1
            obtain ⟨m3, hm3⟩ : ∃ x, turnP m2 2 1 = x := ⟨_, rfl⟩
            have HF3 : Hid m3.fit := by
              rw [Hid, ← hm3, turn_rest HF2.out (by decide), if_pos (HS2.out).1]
              exact rest_fit HF2.out (by decide) (by decide)
            have HS3 : Hid (m3.st = 1) := by rw [Hid, ← hm3, HT.out]
            have HB1 : Hid ((m2.st == 2) = true) := by rw [Hid, (HS2.out).1]; rfl
            have HB3 : Hid ((m3.st == 1) = true) := by rw [Hid, HS3.out]; rfl
            go_wp2_with fail
            refine (alive12_any _).mono ?_
            rintro e ca ⟨rfl, hca⟩
            replace M := Lib.hid ((M.out).keptB hca)
            replace HB := Lib.hid (bstep HB.out hca)
            clear hca
            go_wp2_with fail
            have LZ := Lib.hid (HB.out).size
            refine (pclear12_any gM m2 _ M.out).mono ?_
            rintro e c1 ⟨rfl, hm, ho⟩
            replace M := Lib.hid hm
            replace HB := Lib.hid (bonly8 HB.out ho LZ.out (by have := LM.out; simp; omega))
            clear hm ho LZ
            rw [(HB1.out)]
            rw [hm3] at M
            clear hm3 HT HB1
            go_wp2_with fail
            refine (pstate12_any gM m3 _ M.out).mono ?_
            rintro e w1 ⟨rfl, rfl⟩
            rw [HS3.out]
            go_wp2_with fail
            have LZ := Lib.hid (HB.out).size
            refine (pstart12_any gM m3 7 _ M.out (HF3.out).ok).mono ?_
            rintro e c1 ⟨rfl, hm, ho⟩
            replace M := Lib.hid hm
            replace HB := Lib.hid (bonly8 HB.out ho LZ.out (by have := LM.out; simp; omega))
            clear hm ho LZ
            rw [HB3.out]
            have HS9 : Hid ((startP m3 7).st = 4) := by unfold startP; rw [Hid, if_pos HS3.out]; rfl
            go_wp2_with fail
            refine (pstate12_any gM (startP m3 7) _ M.out).mono ?_
            rintro e w1 ⟨rfl, rfl⟩
            rw [HS9.out]
            go_wp2
            try rw [Exit.noGoto_ret]
            go_ret
            exact ⟨rfl, HB.out⟩
          | succ g1 =>
            have hlt : j < n := by omega
            have hd : decide ((j : Int) < (n : Int)) = true := decide_eq_true (by omega)
            obtain ⟨o, ho⟩ : ∃ o, l[j]? = some o := ⟨_, List.getElem?_eq_getElem (show j < l.length by have := (HLS.out).len; omega)⟩
            have HK := Lib.hid hlt
            have HKO : Hid o.fits := (HLS.out).ok o (List.mem_of_getElem? ho)
            obtain ⟨g, f, hA, hcl⟩ := (HLS.out).at_ (by omega)
            subst hA
            have HP : Hid (∀ v, Below w.heap.size w v → v.rangeAt g (f + j * 5) (poA o).toList) := fun v hv => hcl.now poA_five (by decide) hv ho
            clear hcl ho hlt
            go_upto_region 13 with (first | (refine big_fill rfl 35 _ _ rfl gK9 (poA o) rfl rfl K9.out (by kernel_rfl) (by kernel_rfl) (by kernel_rfl) ?_; intro vK90 nK9 htK9; replace K9 := Lib.hid nK9; replace M := Lib.hid ((M.out).touch htK9 OMK9.out); replace HB := Lib.hid (btouch HB.out htK9 LK9.out); clear nK9 htK9; try simp only [Act.put, List.setIfInBounds_toArray, List.set_cons_zero, List.set_cons_succ]) | (refine big_alloc rfl 35 rfl (poA ⟨0, 0, 0, 0, false⟩) (by kernel_rfl) ?_; intro gK9 wK9 hlK9 nK9 hbK9; have K9 := Lib.hid nK9; have LK9 := Lib.hid (Nat.le_trans (HB.out).size hlK9); have OMK9 := Lib.hid ((M.out).off hlK9); replace M := Lib.hid ((M.out).keptB hbK9); replace HB := Lib.hid (bstep HB.out hbK9); clear hlK9 nK9 hbK9; try simp only [Act.put, List.setIfInBounds_toArray, List.set_cons_zero, List.set_cons_succ]) | (refine big_loadAt rfl 35 _ rfl g (f + j * 5) rfl (poA o) (HP.out _ HB.out) Try.underlying35 rfl (by kernel_rfl) ?_; try simp only [Act.put, List.setIfInBounds_toArray, List.set_cons_zero, List.set_cons_succ]) | (refine big_index rfl 24 _ _ rfl g f n c j 5 rfl rfl HK.out Try.underlying24 (by kernel_rfl) ?_; try simp only [Act.put, List.setIfInBounds_toArray, List.set_cons_zero, List.set_cons_succ]))
            by_cases h5 : o.kd = 5
            · have HO2 : Hid (doP m2 o = m2) := do_out (by have := (HS2.out).1; omega) (HS2.out).2 (by omega)
              have d5 : (o.kd == 5) = true := by simp [h5]
              clear h5
              have y0 := (K9.out).reads (i := 0) (x := .int .i64 o.kd) rfl
              go_upto_region 14 with fail
              clear y0
              go_wp2_with ((refine big_whole rfl 35 _ rfl gK9 rfl K9.out Try.underlying35 rfl (by kernel_rfl) ?_; try simp only [Act.put, List.setIfInBounds_toArray, List.set_cons_zero, List.set_cons_succ]))
              have LZ := Lib.hid (HB.out).size
              refine (does12_any gM m2 o _ M.out HF2.out HKO.out).mono ?_
              rintro e c1 ⟨rfl, hm, ho⟩
              replace K9 := Lib.hid ((K9.out).only ho (by have := OMK9.out; simp; omega))
              replace M := Lib.hid hm
              replace HB := Lib.hid (bonly8 HB.out ho LZ.out (by have := LM.out; simp; omega))
              clear hm ho LZ
              rw [HO2.out] at M
              clear K9 LK9 OMK9 HO2
              go_wp2_with fail
              refine (pstate12_any gM m2 _ M.out).mono ?_
              rintro e w1 ⟨rfl, rfl⟩
              rw [(HS2.out).1]
              go_wp2_with fail
              refine (puntil12_any gM m2 _ M.out).mono ?_
              rintro e w1 ⟨rfl, rfl⟩
              rw [(HS2.out).2]
              go_wp2
              go_roundg g1
              case measure => omega
              case rel => exact ⟨j + 1, by omega, by go_num, M, HB⟩
            · by_cases h6 : o.kd = 6
              · have HO2 : Hid (doP m2 o = m2) := do_out (by have := (HS2.out).1; omega) (HS2.out).2 (by omega)
                have d5 : (o.kd == 5) = false := by simpa using h5
                have d6 : (o.kd == 6) = true := by simp [h6]
                clear h5 h6
                have y0 := (K9.out).reads (i := 0) (x := .int .i64 o.kd) rfl
                go_upto_region 14 with fail
                clear y0
                go_wp2_with ((refine big_whole rfl 35 _ rfl gK9 rfl K9.out Try.underlying35 rfl (by kernel_rfl) ?_; try simp only [Act.put, List.setIfInBounds_toArray, List.set_cons_zero, List.set_cons_succ]))
                have LZ := Lib.hid (HB.out).size
                refine (does12_any gM m2 o _ M.out HF2.out HKO.out).mono ?_
                rintro e c1 ⟨rfl, hm, ho⟩
                replace K9 := Lib.hid ((K9.out).only ho (by have := OMK9.out; simp; omega))
                replace M := Lib.hid hm
                replace HB := Lib.hid (bonly8 HB.out ho LZ.out (by have := LM.out; simp; omega))
                clear hm ho LZ
                rw [HO2.out] at M
                clear K9 LK9 OMK9 HO2
                go_wp2_with fail
                refine (pstate12_any gM m2 _ M.out).mono ?_
                rintro e w1 ⟨rfl, rfl⟩
                rw [(HS2.out).1]
                go_wp2_with fail
                refine (puntil12_any gM m2 _ M.out).mono ?_
                rintro e w1 ⟨rfl, rfl⟩
                rw [(HS2.out).2]
                go_wp2
                go_roundg g1
                case measure => omega
                case rel => exact ⟨j + 1, by omega, by go_num, M, HB⟩
              · by_cases h7 : 6 < o.kd
                · have HO2 : Hid (doP m2 o = m2) := do_out (by have := (HS2.out).1; omega) (HS2.out).2 (by omega)
                  have d5 : (o.kd == 5) = false := by simpa using h5
                  have d6 : (o.kd == 6) = false := by simpa using h6
                  have d7 : decide (6 < o.kd) = true := decide_eq_true h7
                  clear h5 h6 h7
                  have y0 := (K9.out).reads (i := 0) (x := .int .i64 o.kd) rfl
                  go_upto_region 14 with fail
                  clear y0
                  go_wp2_with ((refine big_whole rfl 35 _ rfl gK9 rfl K9.out Try.underlying35 rfl (by kernel_rfl) ?_; try simp only [Act.put, List.setIfInBounds_toArray, List.set_cons_zero, List.set_cons_succ]))
                  have LZ := Lib.hid (HB.out).size
                  refine (does12_any gM m2 o _ M.out HF2.out HKO.out).mono ?_
                  rintro e c1 ⟨rfl, hm, ho⟩
                  replace K9 := Lib.hid ((K9.out).only ho (by have := OMK9.out; simp; omega))
                  replace M := Lib.hid hm
                  replace HB := Lib.hid (bonly8 HB.out ho LZ.out (by have := LM.out; simp; omega))
                  clear hm ho LZ
                  rw [HO2.out] at M
                  clear K9 LK9 OMK9 HO2
                  go_wp2_with fail
                  refine (pstate12_any gM m2 _ M.out).mono ?_
                  rintro e w1 ⟨rfl, rfl⟩
                  rw [(HS2.out).1]
                  go_wp2_with fail
                  refine (puntil12_any gM m2 _ M.out).mono ?_
                  rintro e w1 ⟨rfl, rfl⟩
                  rw [(HS2.out).2]
                  go_wp2
                  go_roundg g1
                  case measure => omega
                  case rel => exact ⟨j + 1, by omega, by go_num, M, HB⟩
                · have d5 : (o.kd == 5) = false := by simpa using h5
                  have d6 : (o.kd == 6) = false := by simpa using h6
                  have d7 : decide (6 < o.kd) = false := decide_eq_false h7
                  clear h5 h6 h7
                  have y0 := (K9.out).reads (i := 0) (x := .int .i64 o.kd) rfl
                  go_upto_region 15 with fail
                  clear y0 K9 LK9 OMK9
                  go_wp2_with fail
                  refine (pstate12_any gM m2 _ M.out).mono ?_
                  rintro e w1 ⟨rfl, rfl⟩
                  rw [(HS2.out).1]
                  go_wp2_with fail
                  refine (puntil12_any gM m2 _ M.out).mono ?_
                  rintro e w1 ⟨rfl, rfl⟩
                  rw [(HS2.out).2]
                  go_wp2
                  go_roundg g1
                  case measure => omega
                  case rel => exact ⟨j + 1, by omega, by go_num, M, HB⟩
      · obtain ⟨m4, hm4⟩ : ∃ x, disP m2 = x := ⟨_, rfl⟩
        have hm4b : m4 = restP m2 3 := by rw [← hm4]; unfold disP; rw [if_pos (by have := (HS2.out).1; omega)]
        have HF4 : Hid m4.fit := by rw [Hid, hm4b]; exact rest_fit HF2.out (by decide) (by decide)
        have HS4 : Hid (m4.st = 3 ∧ m4.un = 0) := by rw [Hid, hm4b]; exact ⟨rfl, rfl⟩
        go_wp2_with fail
        have LZ := Lib.hid (HB.out).size
        refine (pdis12_any gM m2 _ M.out).mono ?_
        rintro e c1 ⟨rfl, hm, ho⟩
        replace M := Lib.hid hm
        replace HB := Lib.hid (bonly8 HB.out ho LZ.out (by have := LM.out; simp; omega))
        clear hm ho LZ
        rw [hm4] at M
        clear hm4 hm4b HF2 HS2
        go_wp2
        go_loopg [48] n (fun gh i v => ∃ (j : Nat), j + gh = n ∧ i = .int .i64 j ∧ Hid (Holds v gM 51 (mcA m4)) ∧ Hid (Below w.heap.size w v))
        case atStart => exact ⟨0, by omega, rfl, M, HB⟩
        case round =>
          clear M HB
          obtain ⟨j, hj, rfl, M, HB⟩ := hrel
          cases gk with
          | zero =>
            have hd : decide ((j : Int) < (n : Int)) = false := decide_eq_false (by omega)
            have HT : Hid (turnP m4 3 1 = ⟨m4.ev, m4.of, m4.sl, 1, m4.un⟩) := if_pos (HS4.out).1
            obtain ⟨m3, hm3⟩ : ∃ x, turnP m4 3 1 = x := ⟨_, rfl⟩
            have HF3 : Hid m3.fit := by
              rw [Hid, ← hm3, turn_rest HF4.out (by decide), if_pos (HS4.out).1]
              exact rest_fit HF4.out (by decide) (by decide)
            have HS3 : Hid (m3.st = 1) := by rw [Hid, ← hm3, HT.out]
            have HB1 : Hid ((m4.st == 3) = true) := by rw [Hid, (HS4.out).1]; rfl
            have HB3 : Hid ((m3.st == 1) = true) := by rw [Hid, HS3.out]; rfl
            go_wp2_with fail
            refine (alive12_any _).mono ?_
            rintro e ca ⟨rfl, hca⟩
            replace M := Lib.hid ((M.out).keptB hca)
            replace HB := Lib.hid (bstep HB.out hca)
            clear hca
            go_wp2_with fail
            have LZ := Lib.hid (HB.out).size
            refine (penable12_any gM m4 _ M.out).mono ?_
            rintro e c1 ⟨rfl, hm, ho⟩
            replace M := Lib.hid hm
            replace HB := Lib.hid (bonly8 HB.out ho LZ.out (by have := LM.out; simp; omega))
            clear hm ho LZ
            rw [(HB1.out)]
            rw [hm3] at M
            clear hm3 HT HB1
            go_wp2_with fail
            refine (pstate12_any gM m3 _ M.out).mono ?_
            rintro e w1 ⟨rfl, rfl⟩
            rw [HS3.out]
            go_wp2_with fail
            have LZ := Lib.hid (HB.out).size
            refine (pstart12_any gM m3 7 _ M.out (HF3.out).ok).mono ?_
            rintro e c1 ⟨rfl, hm, ho⟩
            replace M := Lib.hid hm
            replace HB := Lib.hid (bonly8 HB.out ho LZ.out (by have := LM.out; simp; omega))
            clear hm ho LZ
            rw [HB3.out]
            have HS9 : Hid ((startP m3 7).st = 4) := by unfold startP; rw [Hid, if_pos HS3.out]; rfl
            go_wp2_with fail
            refine (pstate12_any gM (startP m3 7) _ M.out).mono ?_
            rintro e w1 ⟨rfl, rfl⟩
            rw [HS9.out]
            go_wp2
            try rw [Exit.noGoto_ret]
            go_ret
            exact ⟨rfl, HB.out⟩
          | succ g1 =>
            have hlt : j < n := by omega
            have hd : decide ((j : Int) < (n : Int)) = true := decide_eq_true (by omega)
            obtain ⟨o, ho⟩ : ∃ o, l[j]? = some o := ⟨_, List.getElem?_eq_getElem (show j < l.length by have := (HLS.out).len; omega)⟩
            have HK := Lib.hid hlt
            have HKO : Hid o.fits := (HLS.out).ok o (List.mem_of_getElem? ho)
            obtain ⟨g, f, hA, hcl⟩ := (HLS.out).at_ (by omega)
            subst hA
            have HP : Hid (∀ v, Below w.heap.size w v → v.rangeAt g (f + j * 5) (poA o).toList) := fun v hv => hcl.now poA_five (by decide) hv ho
            clear hcl ho hlt
            go_upto_region 13 with (first | (refine big_fill rfl 35 _ _ rfl gK9 (poA o) rfl rfl K9.out (by kernel_rfl) (by kernel_rfl) (by kernel_rfl) ?_; intro vK90 nK9 htK9; replace K9 := Lib.hid nK9; replace M := Lib.hid ((M.out).touch htK9 OMK9.out); replace HB := Lib.hid (btouch HB.out htK9 LK9.out); clear nK9 htK9; try simp only [Act.put, List.setIfInBounds_toArray, List.set_cons_zero, List.set_cons_succ]) | (refine big_alloc rfl 35 rfl (poA ⟨0, 0, 0, 0, false⟩) (by kernel_rfl) ?_; intro gK9 wK9 hlK9 nK9 hbK9; have K9 := Lib.hid nK9; have LK9 := Lib.hid (Nat.le_trans (HB.out).size hlK9); have OMK9 := Lib.hid ((M.out).off hlK9); replace M := Lib.hid ((M.out).keptB hbK9); replace HB := Lib.hid (bstep HB.out hbK9); clear hlK9 nK9 hbK9; try simp only [Act.put, List.setIfInBounds_toArray, List.set_cons_zero, List.set_cons_succ]) | (refine big_loadAt rfl 35 _ rfl g (f + j * 5) rfl (poA o) (HP.out _ HB.out) Try.underlying35 rfl (by kernel_rfl) ?_; try simp only [Act.put, List.setIfInBounds_toArray, List.set_cons_zero, List.set_cons_succ]) | (refine big_index rfl 24 _ _ rfl g f n c j 5 rfl rfl HK.out Try.underlying24 (by kernel_rfl) ?_; try simp only [Act.put, List.setIfInBounds_toArray, List.set_cons_zero, List.set_cons_succ]))
            by_cases h5 : o.kd = 5
            · have HO2 : Hid (doP m4 o = m4) := do_out (by have := (HS4.out).1; omega) (HS4.out).2 (by omega)
              have d5 : (o.kd == 5) = true := by simp [h5]
              clear h5
              have y0 := (K9.out).reads (i := 0) (x := .int .i64 o.kd) rfl
              go_upto_region 14 with fail
              clear y0
              go_wp2_with ((refine big_whole rfl 35 _ rfl gK9 rfl K9.out Try.underlying35 rfl (by kernel_rfl) ?_; try simp only [Act.put, List.setIfInBounds_toArray, List.set_cons_zero, List.set_cons_succ]))
              have LZ := Lib.hid (HB.out).size
              refine (does12_any gM m4 o _ M.out HF4.out HKO.out).mono ?_
              rintro e c1 ⟨rfl, hm, ho⟩
              replace K9 := Lib.hid ((K9.out).only ho (by have := OMK9.out; simp; omega))
              replace M := Lib.hid hm
              replace HB := Lib.hid (bonly8 HB.out ho LZ.out (by have := LM.out; simp; omega))
              clear hm ho LZ
              rw [HO2.out] at M
              clear K9 LK9 OMK9 HO2
              go_wp2_with fail
              refine (pstate12_any gM m4 _ M.out).mono ?_
              rintro e w1 ⟨rfl, rfl⟩
              rw [(HS4.out).1]
              go_wp2_with fail
              refine (puntil12_any gM m4 _ M.out).mono ?_
              rintro e w1 ⟨rfl, rfl⟩
              rw [(HS4.out).2]
              go_wp2
              go_roundg g1
              case measure => omega
              case rel => exact ⟨j + 1, by omega, by go_num, M, HB⟩
            · by_cases h6 : o.kd = 6
              · have HO2 : Hid (doP m4 o = m4) := do_out (by have := (HS4.out).1; omega) (HS4.out).2 (by omega)
                have d5 : (o.kd == 5) = false := by simpa using h5
                have d6 : (o.kd == 6) = true := by simp [h6]
                clear h5 h6
                have y0 := (K9.out).reads (i := 0) (x := .int .i64 o.kd) rfl
                go_upto_region 14 with fail
                clear y0
                go_wp2_with ((refine big_whole rfl 35 _ rfl gK9 rfl K9.out Try.underlying35 rfl (by kernel_rfl) ?_; try simp only [Act.put, List.setIfInBounds_toArray, List.set_cons_zero, List.set_cons_succ]))
                have LZ := Lib.hid (HB.out).size
                refine (does12_any gM m4 o _ M.out HF4.out HKO.out).mono ?_
                rintro e c1 ⟨rfl, hm, ho⟩
                replace K9 := Lib.hid ((K9.out).only ho (by have := OMK9.out; simp; omega))
                replace M := Lib.hid hm
                replace HB := Lib.hid (bonly8 HB.out ho LZ.out (by have := LM.out; simp; omega))
                clear hm ho LZ
                rw [HO2.out] at M
                clear K9 LK9 OMK9 HO2
                go_wp2_with fail
                refine (pstate12_any gM m4 _ M.out).mono ?_
                rintro e w1 ⟨rfl, rfl⟩
                rw [(HS4.out).1]
                go_wp2_with fail
                refine (puntil12_any gM m4 _ M.out).mono ?_
                rintro e w1 ⟨rfl, rfl⟩
                rw [(HS4.out).2]
                go_wp2
                go_roundg g1
                case measure => omega
                case rel => exact ⟨j + 1, by omega, by go_num, M, HB⟩
              · by_cases h7 : 6 < o.kd
                · have HO2 : Hid (doP m4 o = m4) := do_out (by have := (HS4.out).1; omega) (HS4.out).2 (by omega)
                  have d5 : (o.kd == 5) = false := by simpa using h5
                  have d6 : (o.kd == 6) = false := by simpa using h6
                  have d7 : decide (6 < o.kd) = true := decide_eq_true h7
                  clear h5 h6 h7
                  have y0 := (K9.out).reads (i := 0) (x := .int .i64 o.kd) rfl
                  go_upto_region 14 with fail
                  clear y0
                  go_wp2_with ((refine big_whole rfl 35 _ rfl gK9 rfl K9.out Try.underlying35 rfl (by kernel_rfl) ?_; try simp only [Act.put, List.setIfInBounds_toArray, List.set_cons_zero, List.set_cons_succ]))
                  have LZ := Lib.hid (HB.out).size
                  refine (does12_any gM m4 o _ M.out HF4.out HKO.out).mono ?_
                  rintro e c1 ⟨rfl, hm, ho⟩
                  replace K9 := Lib.hid ((K9.out).only ho (by have := OMK9.out; simp; omega))
                  replace M := Lib.hid hm
                  replace HB := Lib.hid (bonly8 HB.out ho LZ.out (by have := LM.out; simp; omega))
                  clear hm ho LZ
                  rw [HO2.out] at M
                  clear K9 LK9 OMK9 HO2
                  go_wp2_with fail
                  refine (pstate12_any gM m4 _ M.out).mono ?_
                  rintro e w1 ⟨rfl, rfl⟩
                  rw [(HS4.out).1]
                  go_wp2_with fail
                  refine (puntil12_any gM m4 _ M.out).mono ?_
                  rintro e w1 ⟨rfl, rfl⟩
                  rw [(HS4.out).2]
                  go_wp2
                  go_roundg g1
                  case measure => omega
                  case rel => exact ⟨j + 1, by omega, by go_num, M, HB⟩
                · have d5 : (o.kd == 5) = false := by simpa using h5
                  have d6 : (o.kd == 6) = false := by simpa using h6
                  have d7 : decide (6 < o.kd) = false := decide_eq_false h7
                  clear h5 h6 h7
                  have y0 := (K9.out).reads (i := 0) (x := .int .i64 o.kd) rfl
                  go_upto_region 15 with fail
                  clear y0 K9 LK9 OMK9
                  go_wp2_with fail
                  refine (pstate12_any gM m4 _ M.out).mono ?_
                  rintro e w1 ⟨rfl, rfl⟩
                  rw [(HS4.out).1]
                  go_wp2_with fail
                  refine (puntil12_any gM m4 _ M.out).mono ?_
                  rintro e w1 ⟨rfl, rfl⟩
                  rw [(HS4.out).2]
                  go_wp2
                  go_roundg g1
                  case measure => omega
                  case rel => exact ⟨j + 1, by omega, by go_num, M, HB⟩

end Go.Proofs.Ytibhhhadjpmjiaa
