/- The walk over PortWaits. -/
import Derived.Test.YtibhhhadjpmjiaaPortDo
import Derived.Test.YtibhhhadjpmjiaaPortAlive
import Derived.Test.YtibhhhadjpmjiaaPortOpen
import Derived.Test.YtibhhhadjpmjiaaPortInv
import Derived.Deep.DeepCutAuto
import Derived.Deep.LoopGhost
namespace Go.Proofs.Ytibhhhadjpmjiaa
set_option maxRecDepth 100000
open Go.RowKit
set_option linter.unusedVariables false
set_option linter.unusedSimpArgs false

set_option maxHeartbeats 4000000 in
theorem waits12 (ev of : Int) (sl : Bool) (steps now : Int) (w : World) :
    Calls Try.prog 8 #[.agg (kdA ev of sl), .int .i64 steps, .int .i64 now] w fun e w' => e = .returned (.bool true) ∧ Below w.heap.size w w' := by
  cases hmy : mayB ev of
  · have HMY := Lib.hid hmy
    clear hmy
    have HB := Lib.hid (Below.refl w.heap.size w)
    go_enter Try.func8, Try.ntmps8
    go_upto_region 1 with ((refine big_box rfl 23 _ rfl (kdA ev of sl) rfl (by kernel_rfl) ?_; intro gK3 wK3 hlK3 nK3 hbK3; have K3 := Lib.hid nK3; have LK3 := Lib.hid (Nat.le_trans (HB.out).size hlK3); replace HB := Lib.hid (bstep HB.out hbK3); clear hlK3 nK3 hbK3; try simp only [Act.put, List.setIfInBounds_toArray, List.set_cons_zero, List.set_cons_succ]))
    have k0 := (K3.out).reads (i := 0) (x := .int .i64 ev) rfl
    have k1 := (K3.out).reads (i := 1) (x := .int .i64 of) rfl
    go_wp2_with fail
    clear k0 k1
    refine (pnew12_any ev of false _).mono ?_
    intro e w1 hh
    obtain ⟨rfl, rfl⟩ := hh.1 HMY.out
    clear hh
    go_wp2_with fail
    refine (alive12_any _).mono ?_
    rintro e ca ⟨rfl, hca⟩
    replace HB := Lib.hid (bstep HB.out hca)
    clear hca
    go_wp2
    try rw [Exit.noGoto_ret]
    go_ret
    exact ⟨rfl, HB.out⟩
  · have HMY := Lib.hid hmy
    have HB := Lib.hid (Below.refl w.heap.size w)
    go_enter Try.func8, Try.ntmps8
    go_upto_region 1 with ((refine big_box rfl 23 _ rfl (kdA ev of sl) rfl (by kernel_rfl) ?_; intro gK3 wK3 hlK3 nK3 hbK3; have K3 := Lib.hid nK3; have LK3 := Lib.hid (Nat.le_trans (HB.out).size hlK3); replace HB := Lib.hid (bstep HB.out hbK3); clear hlK3 nK3 hbK3; try simp only [Act.put, List.setIfInBounds_toArray, List.set_cons_zero, List.set_cons_succ]))
    have k0 := (K3.out).reads (i := 0) (x := .int .i64 ev) rfl
    have k1 := (K3.out).reads (i := 1) (x := .int .i64 of) rfl
    go_wp2_with fail
    clear k0 k1
    refine (pnew12_any ev of false _).mono ?_
    intro e w1 hh
    obtain ⟨gM, rfl, hm, hl, hb⟩ := hh.2 HMY.out
    have OMK3 : Hid (gM ≠ gK3) := by rw [Hid]; have := (K3.out).inside; omega
    replace K3 := Lib.hid ((K3.out).keptB hb)
    have LM := Lib.hid (Nat.le_trans (HB.out).size hl)
    have M := Lib.hid hm
    replace HB := Lib.hid (bstep HB.out hb)
    clear hh hm hl hb
    obtain ⟨⟨v0, v1⟩, v2, v3⟩ := mayB_iff.1 hmy
    have ev0 : decide (1099511627776 < ev) = false := decide_eq_false (by omega)
    clear hmy
    have k0 := (K3.out).reads (i := 0) (x := .int .i64 ev) rfl
    by_cases q0 : now < 0
    · have e0 : decide (now < 0) = true := decide_eq_true q0
      clear q0
      go_wp2_with fail
      refine (alive12_any _).mono ?_
      rintro e ca ⟨rfl, hca⟩
      replace HB := Lib.hid (bstep HB.out hca)
      clear hca
      go_wp2
      try rw [Exit.noGoto_ret]
      go_ret
      exact ⟨rfl, HB.out⟩
    · by_cases q1 : 1125899906842624 < now
      · have e0 : decide (now < 0) = false := decide_eq_false q0
        have e1 : decide (1125899906842624 < now) = true := decide_eq_true q1
        clear q0 q1
        go_wp2_with fail
        refine (alive12_any _).mono ?_
        rintro e ca ⟨rfl, hca⟩
        replace HB := Lib.hid (bstep HB.out hca)
        clear hca
        go_wp2
        try rw [Exit.noGoto_ret]
        go_ret
        exact ⟨rfl, HB.out⟩
      · by_cases q2 : steps < 0
        · have e0 : decide (now < 0) = false := decide_eq_false q0
          have e1 : decide (1125899906842624 < now) = false := decide_eq_false q1
          have e2 : decide (steps < 0) = true := decide_eq_true q2
          clear q0 q1 q2
          go_wp2_with fail
          refine (alive12_any _).mono ?_
          rintro e ca ⟨rfl, hca⟩
          replace HB := Lib.hid (bstep HB.out hca)
          clear hca
          go_wp2
          try rw [Exit.noGoto_ret]
          go_ret
          exact ⟨rfl, HB.out⟩
        · by_cases q3 : 255 < steps
          · have e0 : decide (now < 0) = false := decide_eq_false q0
            have e1 : decide (1125899906842624 < now) = false := decide_eq_false q1
            have e2 : decide (steps < 0) = false := decide_eq_false q2
            have e3 : decide (255 < steps) = true := decide_eq_true q3
            clear q0 q1 q2 q3
            go_wp2_with fail
            refine (alive12_any _).mono ?_
            rintro e ca ⟨rfl, hca⟩
            replace HB := Lib.hid (bstep HB.out hca)
            clear hca
            go_wp2
            try rw [Exit.noGoto_ret]
            go_ret
            exact ⟨rfl, HB.out⟩
          · have e0 : decide (now < 0) = false := decide_eq_false q0
            have e1 : decide (1125899906842624 < now) = false := decide_eq_false q1
            have e2 : decide (steps < 0) = false := decide_eq_false q2
            have e3 : decide (255 < steps) = false := decide_eq_false q3
            have HF0 : Hid ((newP ev of false).fit) := new_fit HMY.out
            have HN := Lib.hid (new_eq (sl := false) HMY.out)
            have HF1 : Hid ((startP (newP ev of false) now).fit) := by
              have h := do_fit HF0.out ⟨0, 0, 0, now, false⟩
              exact h
            have hst1 : (startP (newP ev of false) now).st = 4 := by rw [HN.out]; rfl
            have hk1 : (startP (newP ev of false) now).ev = ev := by rw [HN.out]; rfl
            have hsl1 : (startP (newP ev of false) now).sl = false := by rw [HN.out]; rfl
            obtain ⟨p0, p1⟩ := (HF0.out).ok.steps (s := steps) (by omega) (by omega)
            rw [HN.out] at p0 p1
            simp only [] at p0 p1
            obtain ⟨d, hd⟩ : ∃ d, (steps + 1) * ev = d := ⟨_, rfl⟩
            rw [hd] at p0 p1
            have HD := Lib.hid hd
            have HM2 : Hid (decideP (startP (newP ev of false) now) 3 steps now false = ⟨ev, of, false, 5, now + d⟩) := by
              rw [Hid, HN.out, decide_later (by show (4 : Int) ≤ 4; decide)]
              unfold leadP startP anewP
              simp only [if_true]
              rw [if_neg (by omega), if_neg (by decide), show stepsN steps = steps by unfold stepsN; rw [if_neg (by omega), if_neg (by omega)], hd, timeN_id (n := now) (by omega) (by omega), timeN_id (by omega) (by omega)]
            have HF2 : Hid (Pm.fit ⟨ev, of, false, 5, now + d⟩) := by rw [Hid, ← HM2.out]; exact decide_fit HF1.out _ _ _ _
            clear hst1 hk1 hsl1 hd 
            go_wp2_with fail
            clear k0
            have LZ := Lib.hid (HB.out).size
            refine (pstart12_any gM (newP ev of false) now _ M.out (HF0.out).ok).mono ?_
            rintro e c1 ⟨rfl, hm, ho⟩
            replace K3 := Lib.hid ((K3.out).only ho (by have := OMK3.out; simp; omega))
            replace M := Lib.hid hm
            replace HB := Lib.hid (bonly8 HB.out ho LZ.out (by have := LM.out; simp; omega))
            clear hm ho LZ
            go_wp2_with fail
            have LZ := Lib.hid (HB.out).size
            refine (pdecide12_any gM (startP (newP ev of false) now) 3 steps now false _ M.out (HF1.out).ok (HF1.out).st (by decide)).mono ?_
            rintro e c1 ⟨rfl, hm, ho⟩
            replace K3 := Lib.hid ((K3.out).only ho (by have := OMK3.out; simp; omega))
            replace M := Lib.hid hm
            replace HB := Lib.hid (bonly8 HB.out ho LZ.out (by have := LM.out; simp; omega))
            clear hm ho LZ
            rw [HM2.out] at M
            clear HM2 HF1 HF0 HN
            obtain ⟨m, hm⟩ : ∃ x : Pm, x = ⟨ev, of, false, 5, now + d⟩ := ⟨_, rfl⟩
            have hst : m.st = 5 := by rw [hm]
            have hun : m.un = now + d := by rw [hm]
            rw [← hm] at M HF2
            clear hm
            have HST := Lib.hid hst
            have HUN := Lib.hid hun
            clear hst hun
            go_upto_region 6 with fail
            refine wp_region_held_drew (S := fun v => Below w.heap.size w v ∧ Holds v gM 51 (mcA m) ∧ Holds v gK3 23 (kdA ev of sl)) (by kernel_rfl) ?_ (fun hHeld => ?_)
            · exact ⟨bdrew HB.out, (M.out).drew, (K3.out).drew⟩
            clear HB M K3
            refine wpAnyH_take (i := 0) (v := .pointer (some ⟨gM, 0, none⟩)) (at_list rfl) (by kernel_rfl) (by kernel_rfl) (by kernel_rfl) (fun _ _ _ h => h) (Or.inl ⟨by rfl, ?_⟩) hHeld ?_
            · intro v hSv
              clear hHeld
              go_simp
            try simp only [Act.put, List.setIfInBounds_toArray, List.set_cons_zero, List.set_cons_succ]
            refine wpAnyH_ready (rs := [1]) (by kernel_rfl) (by simp) ?_
            refine AllReadyH.cons (at_list rfl) (fun K hK => ?_) AllReadyH.nil
            go_simp
            refine (pstate12_any gM m _ hHeld.2.1).mono ?_
            rintro e v1 ⟨rfl, rfl⟩
            rw [HST.out]
            go_wp2_with fail
            refine hK.out _ _ ?_ (fun hHeld2 => ?_)
            · exact hHeld
            clear hK K hHeld
            have hHeld := hHeld2
            clear hHeld2
            try simp only [Act.put, List.setIfInBounds_toArray, List.set_cons_zero, List.set_cons_succ]
            refine wpAnyH_take (i := 2) (v := .bool false) (at_list rfl) (by kernel_rfl) (by kernel_rfl) (by kernel_rfl) (fun _ _ _ h => h) (Or.inl ⟨by rfl, ?_⟩) hHeld ?_
            · intro v hSv
              clear hHeld
              go_simp
            try simp only [Act.put, List.setIfInBounds_toArray, List.set_cons_zero, List.set_cons_succ]
            refine wpAnyH_take (i := 3) (v := .bool false) (at_list rfl) (by kernel_rfl) (by kernel_rfl) (by kernel_rfl) (fun _ _ _ h => h) (Or.inl ⟨by rfl, ?_⟩) hHeld ?_
            · intro v hSv
              clear hHeld
              go_simp
            try simp only [Act.put, List.setIfInBounds_toArray, List.set_cons_zero, List.set_cons_succ]
            refine wpAnyH_take (i := 4) (v := .pointer (some ⟨gM, 0, none⟩)) (at_list rfl) (by kernel_rfl) (by kernel_rfl) (by kernel_rfl) (fun _ _ _ h => h) (Or.inl ⟨by rfl, ?_⟩) hHeld ?_
            · intro v hSv
              clear hHeld
              go_simp
            try simp only [Act.put, List.setIfInBounds_toArray, List.set_cons_zero, List.set_cons_succ]
            refine wpAnyH_take (i := 6) (v := .int .i64 now) (at_list rfl) (by kernel_rfl) (by kernel_rfl) (by kernel_rfl) (fun _ _ _ h => h) (Or.inl ⟨by rfl, ?_⟩) hHeld ?_
            · intro v hSv
              clear hHeld
              go_simp
            try simp only [Act.put, List.setIfInBounds_toArray, List.set_cons_zero, List.set_cons_succ]
            refine wpAnyH_take (i := 7) (v := .int .i64 steps) (at_list rfl) (by kernel_rfl) (by kernel_rfl) (by kernel_rfl) (fun _ _ _ h => h) (Or.inl ⟨by rfl, ?_⟩) hHeld ?_
            · intro v hSv
              clear hHeld
              go_simp
            try simp only [Act.put, List.setIfInBounds_toArray, List.set_cons_zero, List.set_cons_succ]
            refine wpAnyH_take (i := 8) (v := .int .i64 (steps + 1)) (at_list rfl) (by kernel_rfl) (by kernel_rfl) (by kernel_rfl) (fun _ _ _ h => h) (Or.inl ⟨by rfl, ?_⟩) hHeld ?_
            · intro v hSv
              clear hHeld
              clear hSv
              go_simp
              rw [IntKind.wrap_i64] <;> omega
            try simp only [Act.put, List.setIfInBounds_toArray, List.set_cons_zero, List.set_cons_succ]
            refine wpAnyH_take (i := 9) (v := .pointer (some ⟨gK3, 0, none⟩)) (at_list rfl) (by kernel_rfl) (by kernel_rfl) (by kernel_rfl) (fun _ _ _ h => h) (Or.inl ⟨by rfl, ?_⟩) hHeld ?_
            · intro v hSv
              clear hHeld
              go_simp
            try simp only [Act.put, List.setIfInBounds_toArray, List.set_cons_zero, List.set_cons_succ]
            refine wpAnyH_take (i := 10) (v := .int .i64 ev) (at_list rfl) (by kernel_rfl) (by kernel_rfl) (by kernel_rfl) (fun _ _ _ h => h) (Or.inl ⟨by rfl, ?_⟩) hHeld ?_
            · intro v hSv
              clear hHeld
              have q := Holds.reads (hSv.2.2) (i := 0) (x := .int .i64 ev) rfl
              clear hSv
              go_simp
            try simp only [Act.put, List.setIfInBounds_toArray, List.set_cons_zero, List.set_cons_succ]
            refine wpAnyH_take (i := 11) (v := .int .i64 d) (at_list rfl) (by kernel_rfl) (by kernel_rfl) (by kernel_rfl) (fun _ _ _ h => h) (Or.inl ⟨by rfl, ?_⟩) hHeld ?_
            · intro v hSv
              clear hHeld
              have qd := HD.out
              clear hSv
              go_simp
              rw [IntKind.wrap_i64]
              omega
            try simp only [Act.put, List.setIfInBounds_toArray, List.set_cons_zero, List.set_cons_succ]
            refine wpAnyH_take (i := 12) (v := .int .i64 (now + d)) (at_list rfl) (by kernel_rfl) (by kernel_rfl) (by kernel_rfl) (fun _ _ _ h => h) (Or.inl ⟨by rfl, ?_⟩) hHeld ?_
            · intro v hSv
              clear hHeld
              clear hSv
              go_simp
              rw [IntKind.wrap_i64] <;> omega
            try simp only [Act.put, List.setIfInBounds_toArray, List.set_cons_zero, List.set_cons_succ]
            refine wpAnyH_ready (rs := [5]) (by kernel_rfl) (by simp) ?_
            refine AllReadyH.cons (at_list rfl) (fun K hK => ?_) AllReadyH.nil
            go_simp
            refine (puntil12_any gM m _ hHeld.2.1).mono ?_
            rintro e v1 ⟨rfl, rfl⟩
            rw [HUN.out]
            go_wp2_with fail
            refine hK.out _ _ ?_ (fun hHeld2 => ?_)
            · exact hHeld
            clear hK K hHeld
            have hHeld := hHeld2
            clear hHeld2
            try simp only [Act.put, List.setIfInBounds_toArray, List.set_cons_zero, List.set_cons_succ]
            refine wpAnyH_take (i := 13) (v := .bool false) (at_list rfl) (by kernel_rfl) (by kernel_rfl) (by kernel_rfl) (fun _ _ _ h => h) (Or.inl ⟨by rfl, ?_⟩) hHeld ?_
            · intro v hSv
              clear hHeld
              go_simp
            try simp only [Act.put, List.setIfInBounds_toArray, List.set_cons_zero, List.set_cons_succ]
            refine wpAnyH_take (i := 14) (v := .bool false) (at_list rfl) (by kernel_rfl) (by kernel_rfl) (by kernel_rfl) (fun _ _ _ h => h) (Or.inl ⟨by rfl, ?_⟩) hHeld ?_
            · intro v hSv
              clear hHeld
              go_simp
            try simp only [Act.put, List.setIfInBounds_toArray, List.set_cons_zero, List.set_cons_succ]
            refine wpAnyH_done (by kernel_rfl) ?_ _
            have HB := Lib.hid hHeld.1
            have M := Lib.hid hHeld.2.1
            clear hHeld
            have HH : Hid (heardP m (now + 1) = m) := if_neg (by unfold hearsB; rw [HST.out]; decide)
            go_wp2_with fail
            have LZ := Lib.hid (HB.out).size
            refine (pheard12_any gM m (now + 1) _ M.out (HF2.out).ok).mono ?_
            rintro e c1 ⟨rfl, hm, ho⟩
            replace M := Lib.hid hm
            replace HB := Lib.hid (bonly8 HB.out ho LZ.out (by have := LM.out; simp; omega))
            clear hm ho LZ
            rw [HH.out] at M
            clear HH
            go_wp2_with fail
            refine (alive12_any _).mono ?_
            rintro e ca ⟨rfl, hca⟩
            replace M := Lib.hid ((M.out).keptB hca)
            replace HB := Lib.hid (bstep HB.out hca)
            clear hca
            go_wp2_with fail
            refine (puntil12_any gM m _ M.out).mono ?_
            rintro e w1 ⟨rfl, rfl⟩
            rw [HUN.out]
            have HT := Lib.hid (tick_before HF2.out (now := now + d - 1) (by omega) (by have := HUN.out; omega))
            go_wp2_with fail
            have LZ := Lib.hid (HB.out).size
            refine (ptick12_any gM m (now + d - 1) _ M.out (HF2.out).ok).mono ?_
            rintro e c1 ⟨rfl, hm, ho⟩
            replace M := Lib.hid hm
            replace HB := Lib.hid (bonly8 HB.out ho LZ.out (by have := LM.out; simp; omega))
            clear hm ho LZ
            rw [(HT.out).2]
            rw [(HT.out).1] at M
            clear HT
            go_wp2_with fail
            refine (puntil12_any gM m _ M.out).mono ?_
            rintro e w1 ⟨rfl, rfl⟩
            rw [HUN.out]
            have HT : Hid (tickN m (now + d) = 1 ∧ (tickP m (now + d)).st = 6) := by
              have h1 := HUN.out
              have h2 : timeN (now + d) = now + d := timeN_id (by omega) (by omega)
              have c : ¬ ((m.st ≠ 5 ∧ hearsB m = false) ∨ timeN (now + d) < m.un) := fun x => x.elim (fun y => y.1 HST.out) (by omega)
              unfold tickN tickP
              rw [Hid, if_neg c, if_neg c, if_pos HST.out, if_pos HST.out]
              exact ⟨rfl, rfl⟩
            go_wp2_with fail
            have LZ := Lib.hid (HB.out).size
            refine (ptick12_any gM m (now + d) _ M.out (HF2.out).ok).mono ?_
            rintro e c1 ⟨rfl, hm, ho⟩
            replace M := Lib.hid hm
            replace HB := Lib.hid (bonly8 HB.out ho LZ.out (by have := LM.out; simp; omega))
            clear hm ho LZ
            rw [(HT.out).1]
            go_wp2_with fail
            refine (pstate12_any gM (tickP m (now + d)) _ M.out).mono ?_
            rintro e w1 ⟨rfl, rfl⟩
            rw [(HT.out).2]
            go_wp2
            try rw [Exit.noGoto_ret]
            go_ret
            exact ⟨rfl, HB.out⟩

end Go.Proofs.Ytibhhhadjpmjiaa
