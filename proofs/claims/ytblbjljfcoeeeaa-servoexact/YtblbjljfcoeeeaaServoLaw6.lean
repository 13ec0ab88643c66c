/- The walk over ServoExact. -/
import Derived.Test.YtblbjljfcoeeeaaServoDo
import Derived.Test.YtblbjljfcoeeeaaServoAlive
import Derived.Test.YtblbjljfcoeeeaaServoOpen
import Derived.Test.YtblbjljfcoeeeaaServoInv
import Derived.Test.YtblbjljfcoeeeaaSpanRef
import Derived.Deep.DeepCutAuto
import Derived.Deep.LoopGhost
namespace Go.Proofs.Ytblbjljfcoeeeaa
set_option maxRecDepth 100000
open Go.RowKit
set_option linter.unusedVariables false
set_option linter.unusedSimpArgs false

set_option maxHeartbeats 4000000 in
theorem exact14 (o : Sp) (at_ more : Int) (w : World) :
    Calls Try.prog 8 #[.agg (#[.int .i64 o.lo, .int .i64 o.hi, .bool o.k]), .int .i64 at_, .int .i64 more] w fun e w' => e = .returned (.bool true) ∧ Below w.heap.size w w' := by
  by_cases q0 : more < 0
  · have d0 : decide (more < 0) = true := decide_eq_true q0
    clear q0
    have HR : Hid (rateB 0 = true) := Lib.hid (by decide)
    have HB := Lib.hid (Below.refl w.heap.size w)
    go_enter Try.func8, Try.ntmps8
    go_upto_region 1 with ((refine big_box rfl 29 _ rfl (#[.int .i64 o.lo, .int .i64 o.hi, .bool o.k]) rfl (by kernel_rfl) ?_; intro gK3 wK3 hlK3 nK3 hbK3; have K3 := Lib.hid nK3; have LK3 := Lib.hid (Nat.le_trans (HB.out).size hlK3); replace HB := Lib.hid (bstep HB.out hbK3); clear hlK3 nK3 hbK3; try simp only [Act.put, List.setIfInBounds_toArray, List.set_cons_zero, List.set_cons_succ]))
    go_wp2_with fail
    refine (pnew14_any 0 _).mono ?_
    intro e w1 hh
    obtain ⟨gM, rfl, hm, hl, hb⟩ := hh.2 HR.out
    have OK3M := Lib.hid ((K3.out).off hl)
    replace K3 := Lib.hid ((K3.out).keptB hb)
    have LM := Lib.hid (Nat.le_trans (HB.out).size hl)
    have M := Lib.hid hm
    replace HB := Lib.hid (bstep HB.out hb)
    clear hh hm hl hb
    have OMK3 : Hid (gM ≠ gK3) := Lib.hid (Ne.symm OK3M.out)
    clear OK3M
    go_wp2_with fail
    refine (alive14_any _).mono ?_
    rintro e c1 ⟨rfl, hca⟩
    replace M := Lib.hid ((M.out).keptB hca)
    replace K3 := Lib.hid ((K3.out).keptB hca)
    replace HB := Lib.hid (bstep HB.out hca)
    clear hca
    go_wp2
    try rw [Exit.noGoto_ret]
    go_ret
    exact ⟨rfl, HB.out⟩
  · by_cases q1 : 1125899906842624 < more
    · have d0 : decide (more < 0) = false := decide_eq_false q0
      have d1 : decide (1125899906842624 < more) = true := decide_eq_true q1
      have f1 : decide (more > 1125899906842624) = true := d1
      clear q0 q1
      have HR : Hid (rateB 0 = true) := Lib.hid (by decide)
      have HB := Lib.hid (Below.refl w.heap.size w)
      go_enter Try.func8, Try.ntmps8
      go_upto_region 1 with ((refine big_box rfl 29 _ rfl (#[.int .i64 o.lo, .int .i64 o.hi, .bool o.k]) rfl (by kernel_rfl) ?_; intro gK3 wK3 hlK3 nK3 hbK3; have K3 := Lib.hid nK3; have LK3 := Lib.hid (Nat.le_trans (HB.out).size hlK3); replace HB := Lib.hid (bstep HB.out hbK3); clear hlK3 nK3 hbK3; try simp only [Act.put, List.setIfInBounds_toArray, List.set_cons_zero, List.set_cons_succ]))
      go_wp2_with fail
      refine (pnew14_any 0 _).mono ?_
      intro e w1 hh
      obtain ⟨gM, rfl, hm, hl, hb⟩ := hh.2 HR.out
      have OK3M := Lib.hid ((K3.out).off hl)
      replace K3 := Lib.hid ((K3.out).keptB hb)
      have LM := Lib.hid (Nat.le_trans (HB.out).size hl)
      have M := Lib.hid hm
      replace HB := Lib.hid (bstep HB.out hb)
      clear hh hm hl hb
      have OMK3 : Hid (gM ≠ gK3) := Lib.hid (Ne.symm OK3M.out)
      clear OK3M
      go_wp2_with fail
      refine (alive14_any _).mono ?_
      rintro e c1 ⟨rfl, hca⟩
      replace M := Lib.hid ((M.out).keptB hca)
      replace K3 := Lib.hid ((K3.out).keptB hca)
      replace HB := Lib.hid (bstep HB.out hca)
      clear hca
      go_wp2
      try rw [Exit.noGoto_ret]
      go_ret
      exact ⟨rfl, HB.out⟩
    · by_cases q2 : at_ < -1125899906842624
      · have d0 : decide (more < 0) = false := decide_eq_false q0
        have d1 : decide (1125899906842624 < more) = false := decide_eq_false q1
        have f1 : decide (more > 1125899906842624) = false := d1
        have d2 : decide (at_ < -1125899906842624) = true := decide_eq_true q2
        clear q0 q1 q2
        have HR : Hid (rateB 0 = true) := Lib.hid (by decide)
        have HB := Lib.hid (Below.refl w.heap.size w)
        go_enter Try.func8, Try.ntmps8
        go_upto_region 1 with ((refine big_box rfl 29 _ rfl (#[.int .i64 o.lo, .int .i64 o.hi, .bool o.k]) rfl (by kernel_rfl) ?_; intro gK3 wK3 hlK3 nK3 hbK3; have K3 := Lib.hid nK3; have LK3 := Lib.hid (Nat.le_trans (HB.out).size hlK3); replace HB := Lib.hid (bstep HB.out hbK3); clear hlK3 nK3 hbK3; try simp only [Act.put, List.setIfInBounds_toArray, List.set_cons_zero, List.set_cons_succ]))
        go_wp2_with fail
        refine (pnew14_any 0 _).mono ?_
        intro e w1 hh
        obtain ⟨gM, rfl, hm, hl, hb⟩ := hh.2 HR.out
        have OK3M := Lib.hid ((K3.out).off hl)
        replace K3 := Lib.hid ((K3.out).keptB hb)
        have LM := Lib.hid (Nat.le_trans (HB.out).size hl)
        have M := Lib.hid hm
        replace HB := Lib.hid (bstep HB.out hb)
        clear hh hm hl hb
        have OMK3 : Hid (gM ≠ gK3) := Lib.hid (Ne.symm OK3M.out)
        clear OK3M
        go_wp2_with fail
        refine (alive14_any _).mono ?_
        rintro e c1 ⟨rfl, hca⟩
        replace M := Lib.hid ((M.out).keptB hca)
        replace K3 := Lib.hid ((K3.out).keptB hca)
        replace HB := Lib.hid (bstep HB.out hca)
        clear hca
        go_wp2
        try rw [Exit.noGoto_ret]
        go_ret
        exact ⟨rfl, HB.out⟩
      · by_cases q3 : 1125899906842624 < at_
        · have d0 : decide (more < 0) = false := decide_eq_false q0
          have d1 : decide (1125899906842624 < more) = false := decide_eq_false q1
          have f1 : decide (more > 1125899906842624) = false := d1
          have d2 : decide (at_ < -1125899906842624) = false := decide_eq_false q2
          have d3 : decide (1125899906842624 < at_) = true := decide_eq_true q3
          have f3 : decide (at_ > 1125899906842624) = true := d3
          clear q0 q1 q2 q3
          have HR : Hid (rateB 0 = true) := Lib.hid (by decide)
          have HB := Lib.hid (Below.refl w.heap.size w)
          go_enter Try.func8, Try.ntmps8
          go_upto_region 1 with ((refine big_box rfl 29 _ rfl (#[.int .i64 o.lo, .int .i64 o.hi, .bool o.k]) rfl (by kernel_rfl) ?_; intro gK3 wK3 hlK3 nK3 hbK3; have K3 := Lib.hid nK3; have LK3 := Lib.hid (Nat.le_trans (HB.out).size hlK3); replace HB := Lib.hid (bstep HB.out hbK3); clear hlK3 nK3 hbK3; try simp only [Act.put, List.setIfInBounds_toArray, List.set_cons_zero, List.set_cons_succ]))
          go_wp2_with fail
          refine (pnew14_any 0 _).mono ?_
          intro e w1 hh
          obtain ⟨gM, rfl, hm, hl, hb⟩ := hh.2 HR.out
          have OK3M := Lib.hid ((K3.out).off hl)
          replace K3 := Lib.hid ((K3.out).keptB hb)
          have LM := Lib.hid (Nat.le_trans (HB.out).size hl)
          have M := Lib.hid hm
          replace HB := Lib.hid (bstep HB.out hb)
          clear hh hm hl hb
          have OMK3 : Hid (gM ≠ gK3) := Lib.hid (Ne.symm OK3M.out)
          clear OK3M
          go_wp2_with fail
          refine (alive14_any _).mono ?_
          rintro e c1 ⟨rfl, hca⟩
          replace M := Lib.hid ((M.out).keptB hca)
          replace K3 := Lib.hid ((K3.out).keptB hca)
          replace HB := Lib.hid (bstep HB.out hca)
          clear hca
          go_wp2
          try rw [Exit.noGoto_ret]
          go_ret
          exact ⟨rfl, HB.out⟩
        · have d0 : decide (more < 0) = false := decide_eq_false q0
          have d1 : decide (1125899906842624 < more) = false := decide_eq_false q1
          have f1 : decide (more > 1125899906842624) = false := d1
          have d2 : decide (at_ < -1125899906842624) = false := decide_eq_false q2
          have d3 : decide (1125899906842624 < at_) = false := decide_eq_false q3
          have f3 : decide (at_ > 1125899906842624) = false := d3
          cases hob : obsB (newSv 0) o at_
          · rcases Bool.eq_false_or_eq_true o.k with hk | hk
            · have HOB := Lib.hid hob
              have HK : Hid (o.k = true) := Lib.hid hk
              have HG : Hid (rgtB o = false) := Lib.hid ((exact_no (by omega) (by omega) hob).resolve_left (by rw [hk]; decide))
              clear hob hk q0 q1 q2 q3
              have HR : Hid (rateB 0 = true) := Lib.hid (by decide)
              have HB := Lib.hid (Below.refl w.heap.size w)
              go_enter Try.func8, Try.ntmps8
              go_upto_region 1 with ((refine big_box rfl 29 _ rfl (#[.int .i64 o.lo, .int .i64 o.hi, .bool o.k]) rfl (by kernel_rfl) ?_; intro gK3 wK3 hlK3 nK3 hbK3; have K3 := Lib.hid nK3; have LK3 := Lib.hid (Nat.le_trans (HB.out).size hlK3); replace HB := Lib.hid (bstep HB.out hbK3); clear hlK3 nK3 hbK3; try simp only [Act.put, List.setIfInBounds_toArray, List.set_cons_zero, List.set_cons_succ]))
              go_wp2_with fail
              refine (pnew14_any 0 _).mono ?_
              intro e w1 hh
              obtain ⟨gM, rfl, hm, hl, hb⟩ := hh.2 HR.out
              have OK3M := Lib.hid ((K3.out).off hl)
              replace K3 := Lib.hid ((K3.out).keptB hb)
              have LM := Lib.hid (Nat.le_trans (HB.out).size hl)
              have M := Lib.hid hm
              replace HB := Lib.hid (bstep HB.out hb)
              clear hh hm hl hb
              have OMK3 : Hid (gM ≠ gK3) := Lib.hid (Ne.symm OK3M.out)
              clear OK3M
              go_wp2_with ((refine big_whole rfl 29 _ rfl gK3 rfl K3.out Try.underlying29 rfl (by kernel_rfl) ?_; try simp only [Act.put, List.setIfInBounds_toArray, List.set_cons_zero, List.set_cons_succ]))
              have LZ := Lib.hid (HB.out).size
              refine (pobs14_any gM (newSv 0) o at_ _ M.out (by decide) (by decide) (by decide)).mono ?_
              rintro e c1 ⟨rfl, hm, ho⟩
              replace K3 := Lib.hid ((K3.out).only ho (by have := OMK3.out; simp; omega))
              replace M := Lib.hid hm
              replace HB := Lib.hid (bonly8 HB.out ho LZ.out (by have := LM.out; simp; omega))
              clear hm ho LZ
              rw [HOB.out]
              go_wp2_with fail
              refine (alive14_any _).mono ?_
              rintro e c1 ⟨rfl, hca⟩
              replace M := Lib.hid ((M.out).keptB hca)
              replace K3 := Lib.hid ((K3.out).keptB hca)
              replace HB := Lib.hid (bstep HB.out hca)
              clear hca
              have x2 := (K3.out).reads (i := 2) (x := .bool o.k) rfl
              rw [HK.out] at x2
              go_wp2_with ((refine big_whole rfl 29 _ rfl gK3 rfl K3.out Try.underlying29 rfl (by kernel_rfl) ?_; try simp only [Act.put, List.setIfInBounds_toArray, List.set_cons_zero, List.set_cons_succ]))
              clear x2
              refine (rright3_any o _).mono ?_
              rintro e c1 ⟨rfl, hca⟩
              replace M := Lib.hid ((M.out).keptB hca)
              replace K3 := Lib.hid ((K3.out).keptB hca)
              replace HB := Lib.hid (bstep HB.out hca)
              clear hca
              rw [HG.out]
              go_wp2
              try rw [Exit.noGoto_ret]
              go_ret
              exact ⟨rfl, HB.out⟩
            · have HOB := Lib.hid hob
              have HK : Hid (o.k = false) := Lib.hid hk
              clear hob hk q0 q1 q2 q3
              have HR : Hid (rateB 0 = true) := Lib.hid (by decide)
              have HB := Lib.hid (Below.refl w.heap.size w)
              go_enter Try.func8, Try.ntmps8
              go_upto_region 1 with ((refine big_box rfl 29 _ rfl (#[.int .i64 o.lo, .int .i64 o.hi, .bool o.k]) rfl (by kernel_rfl) ?_; intro gK3 wK3 hlK3 nK3 hbK3; have K3 := Lib.hid nK3; have LK3 := Lib.hid (Nat.le_trans (HB.out).size hlK3); replace HB := Lib.hid (bstep HB.out hbK3); clear hlK3 nK3 hbK3; try simp only [Act.put, List.setIfInBounds_toArray, List.set_cons_zero, List.set_cons_succ]))
              go_wp2_with fail
              refine (pnew14_any 0 _).mono ?_
              intro e w1 hh
              obtain ⟨gM, rfl, hm, hl, hb⟩ := hh.2 HR.out
              have OK3M := Lib.hid ((K3.out).off hl)
              replace K3 := Lib.hid ((K3.out).keptB hb)
              have LM := Lib.hid (Nat.le_trans (HB.out).size hl)
              have M := Lib.hid hm
              replace HB := Lib.hid (bstep HB.out hb)
              clear hh hm hl hb
              have OMK3 : Hid (gM ≠ gK3) := Lib.hid (Ne.symm OK3M.out)
              clear OK3M
              go_wp2_with ((refine big_whole rfl 29 _ rfl gK3 rfl K3.out Try.underlying29 rfl (by kernel_rfl) ?_; try simp only [Act.put, List.setIfInBounds_toArray, List.set_cons_zero, List.set_cons_succ]))
              have LZ := Lib.hid (HB.out).size
              refine (pobs14_any gM (newSv 0) o at_ _ M.out (by decide) (by decide) (by decide)).mono ?_
              rintro e c1 ⟨rfl, hm, ho⟩
              replace K3 := Lib.hid ((K3.out).only ho (by have := OMK3.out; simp; omega))
              replace M := Lib.hid hm
              replace HB := Lib.hid (bonly8 HB.out ho LZ.out (by have := LM.out; simp; omega))
              clear hm ho LZ
              rw [HOB.out]
              go_wp2_with fail
              refine (alive14_any _).mono ?_
              rintro e c1 ⟨rfl, hca⟩
              replace M := Lib.hid ((M.out).keptB hca)
              replace K3 := Lib.hid ((K3.out).keptB hca)
              replace HB := Lib.hid (bstep HB.out hca)
              clear hca
              have x2 := (K3.out).reads (i := 2) (x := .bool o.k) rfl
              rw [HK.out] at x2
              go_wp2
              try rw [Exit.noGoto_ret]
              go_ret
              exact ⟨rfl, HB.out⟩
          · have HOB := Lib.hid hob
            obtain ⟨hb, hs1⟩ := exact_yes hob
            have ES := Lib.hid hs1
            have HRD := Lib.hid (exact_read hb (t := at_) (m := more) (by omega) (by omega) (by omega) (by omega))
            have HRB := Lib.hid (exact_before (o := o) (t := at_) (by omega) (by omega))
            obtain ⟨u, hu⟩ : ∃ x, at_ + more = x := ⟨_, rfl⟩
            rw [hu] at HRD
            obtain ⟨v0, hv⟩ : ∃ x, at_ - 1 = x := ⟨_, rfl⟩
            rw [hv] at HRB
            have hw0 : IntKind.i64.wrap (at_ + more) = u := by rw [IntKind.wrap_i64] <;> omega
            have hw1 : IntKind.i64.wrap (at_ - 1) = v0 := by rw [IntKind.wrap_i64] <;> omega
            have HMS : Hid (masterS ⟨0, o, at_, 1⟩ u = shiftS o u) := by rw [Hid, master_shift, HRD.out]
            obtain ⟨p, Hp⟩ : ∃ z_, Hid (shiftS o u = z_) := ⟨_, Lib.hid rfl⟩
            rw [Hp.out] at HMS
            clear hob hb hs1 hu hv q0 q1 q2 q3
            have HR : Hid (rateB 0 = true) := Lib.hid (by decide)
            have HB := Lib.hid (Below.refl w.heap.size w)
            go_enter Try.func8, Try.ntmps8
            go_upto_region 1 with ((refine big_box rfl 29 _ rfl (#[.int .i64 o.lo, .int .i64 o.hi, .bool o.k]) rfl (by kernel_rfl) ?_; intro gK3 wK3 hlK3 nK3 hbK3; have K3 := Lib.hid nK3; have LK3 := Lib.hid (Nat.le_trans (HB.out).size hlK3); replace HB := Lib.hid (bstep HB.out hbK3); clear hlK3 nK3 hbK3; try simp only [Act.put, List.setIfInBounds_toArray, List.set_cons_zero, List.set_cons_succ]))
            go_wp2_with fail
            refine (pnew14_any 0 _).mono ?_
            intro e w1 hh
            obtain ⟨gM, rfl, hm, hl, hb⟩ := hh.2 HR.out
            have OK3M := Lib.hid ((K3.out).off hl)
            replace K3 := Lib.hid ((K3.out).keptB hb)
            have LM := Lib.hid (Nat.le_trans (HB.out).size hl)
            have M := Lib.hid hm
            replace HB := Lib.hid (bstep HB.out hb)
            clear hh hm hl hb
            have OMK3 : Hid (gM ≠ gK3) := Lib.hid (Ne.symm OK3M.out)
            clear OK3M
            go_wp2_with ((refine big_whole rfl 29 _ rfl gK3 rfl K3.out Try.underlying29 rfl (by kernel_rfl) ?_; try simp only [Act.put, List.setIfInBounds_toArray, List.set_cons_zero, List.set_cons_succ]))
            have LZ := Lib.hid (HB.out).size
            refine (pobs14_any gM (newSv 0) o at_ _ M.out (by decide) (by decide) (by decide)).mono ?_
            rintro e c1 ⟨rfl, hm, ho⟩
            replace K3 := Lib.hid ((K3.out).only ho (by have := OMK3.out; simp; omega))
            replace M := Lib.hid hm
            replace HB := Lib.hid (bonly8 HB.out ho LZ.out (by have := LM.out; simp; omega))
            clear hm ho LZ
            rw [HOB.out]
            rw [ES.out] at M
            go_upto_region 6 with fail
            refine wp_region_held_drew (S := fun v => Below w.heap.size w v ∧ Holds v gM 63 (scA ⟨0, o, at_, 1⟩) ∧ Holds v gK3 29 (#[.int .i64 o.lo, .int .i64 o.hi, .bool o.k]) ∧ True) (by kernel_rfl) ?_ (fun hHeld => ?_)
            · exact ⟨bdrew HB.out, (M.out).drew, (K3.out).drew, trivial⟩
            clear HB M K3
            refine wpAnyH_ready (rs := [0]) (by kernel_rfl) (by simp) ?_
            refine AllReadyH.cons (at_list rfl) (fun K hK => ?_) AllReadyH.nil
            go_simp
            refine (alive14_any _).mono ?_
            rintro e v1 ⟨rfl, hv1⟩
            go_wp2_with fail
            refine hK.out _ _ ?_ (fun hHeld2 => ?_)
            · exact ⟨bstep hHeld.1 hv1, (hHeld.2.1).keptB hv1, (hHeld.2.2.1).keptB hv1, trivial⟩
            clear hK K hHeld
            have hHeld := hHeld2
            clear hHeld2 hv1
            try simp only [Act.put, List.setIfInBounds_toArray, List.set_cons_zero, List.set_cons_succ]
            refine wpAnyH_take (i := 1) (v := .bool true) (at_list rfl) (by kernel_rfl) (by kernel_rfl) (by kernel_rfl) (fun _ _ _ h => h) (Or.inl ⟨by rfl, ?_⟩) hHeld ?_
            · intro v hSv
              clear hHeld
              go_simp
            try simp only [Act.put, List.setIfInBounds_toArray, List.set_cons_zero, List.set_cons_succ]
            refine wpAnyH_take (i := 2) (v := .pointer (some ⟨gM, 0, none⟩)) (at_list rfl) (by kernel_rfl) (by kernel_rfl) (by kernel_rfl) (fun _ _ _ h => h) (Or.inl ⟨by rfl, ?_⟩) hHeld ?_
            · intro v hSv
              clear hHeld
              go_simp
            try simp only [Act.put, List.setIfInBounds_toArray, List.set_cons_zero, List.set_cons_succ]
            refine wpAnyH_take (i := 3) (v := .int .i64 at_) (at_list rfl) (by kernel_rfl) (by kernel_rfl) (by kernel_rfl) (fun _ _ _ h => h) (Or.inl ⟨by rfl, ?_⟩) hHeld ?_
            · intro v hSv
              clear hHeld
              go_simp
            try simp only [Act.put, List.setIfInBounds_toArray, List.set_cons_zero, List.set_cons_succ]
            refine wpAnyH_take (i := 4) (v := .int .i64 more) (at_list rfl) (by kernel_rfl) (by kernel_rfl) (by kernel_rfl) (fun _ _ _ h => h) (Or.inl ⟨by rfl, ?_⟩) hHeld ?_
            · intro v hSv
              clear hHeld
              go_simp
            try simp only [Act.put, List.setIfInBounds_toArray, List.set_cons_zero, List.set_cons_succ]
            refine wpAnyH_take (i := 5) (v := .int .i64 u) (at_list rfl) (by kernel_rfl) (by kernel_rfl) (by kernel_rfl) (fun _ _ _ h => h) (Or.inl ⟨by rfl, ?_⟩) hHeld ?_
            · intro v hSv
              clear hHeld
              go_simp
            try simp only [Act.put, List.setIfInBounds_toArray, List.set_cons_zero, List.set_cons_succ]
            refine wpAnyH_take (i := 7) (v := .agg (#[.int .i64 o.lo, .int .i64 o.hi, .bool o.k])) (at_list rfl) (by kernel_rfl) (by kernel_rfl) (by kernel_rfl) (fun _ _ _ h => h) (yields_whole (by rfl) 29 _ rfl gK3 rfl (fun v hv => hv.2.2.1) Try.underlying29 rfl (by kernel_rfl)) hHeld ?_
            try simp only [Act.put, List.setIfInBounds_toArray, List.set_cons_zero, List.set_cons_succ]
            refine wpAnyH_ready (rs := [6]) (by kernel_rfl) (by simp) ?_
            refine AllReadyH.cons (at_list rfl) (fun K hK => ?_) AllReadyH.nil
            go_simp
            refine (pread14_any gM ⟨0, o, at_, 1⟩ u _ hHeld.2.1).mono ?_
            rintro e v2 ⟨rfl, hv2⟩
            rw [HRD.out]
            go_wp2_with fail
            refine hK.out _ _ ?_ (fun hHeld2 => ?_)
            · exact ⟨bstep hHeld.1 hv2, (hHeld.2.1).keptB hv2, (hHeld.2.2.1).keptB hv2, trivial⟩
            clear hK K hHeld
            have hHeld := hHeld2
            clear hHeld2 hv2
            try simp only [Act.put, List.setIfInBounds_toArray, List.set_cons_zero, List.set_cons_succ]
            refine wpAnyH_take (i := 8) (v := .bool true) (at_list rfl) (by kernel_rfl) (by kernel_rfl) (by kernel_rfl) (fun _ _ _ h => h) (yields_cmp (by rfl) .eql 38 _ _ _ rfl (#[.int .i64 o.lo, .int .i64 o.hi, .bool o.k]) (#[.int .i64 o.lo, .int .i64 o.hi, .bool o.k]) rfl rfl (by kernel_rfl) true (fun v => (eql_span _ _ _ _ _ _ v).trans (by rw [eqS_refl]))) hHeld ?_
            try simp only [Act.put, List.setIfInBounds_toArray, List.set_cons_zero, List.set_cons_succ]
            refine wpAnyH_take (i := 9) (v := .bool true) (at_list rfl) (by kernel_rfl) (by kernel_rfl) (by kernel_rfl) (fun _ _ _ h => h) (Or.inl ⟨by rfl, ?_⟩) hHeld ?_
            · intro v hSv
              clear hHeld
              go_simp
            try simp only [Act.put, List.setIfInBounds_toArray, List.set_cons_zero, List.set_cons_succ]
            refine wpAnyH_take (i := 10) (v := .bool true) (at_list rfl) (by kernel_rfl) (by kernel_rfl) (by kernel_rfl) (fun _ _ _ h => h) (Or.inl ⟨by rfl, ?_⟩) hHeld ?_
            · intro v hSv
              clear hHeld
              go_simp
            try simp only [Act.put, List.setIfInBounds_toArray, List.set_cons_zero, List.set_cons_succ]
            refine wpAnyH_take (i := 11) (v := .pointer (some ⟨gM, 0, none⟩)) (at_list rfl) (by kernel_rfl) (by kernel_rfl) (by kernel_rfl) (fun _ _ _ h => h) (Or.inl ⟨by rfl, ?_⟩) hHeld ?_
            · intro v hSv
              clear hHeld
              go_simp
            try simp only [Act.put, List.setIfInBounds_toArray, List.set_cons_zero, List.set_cons_succ]
            refine wpAnyH_take (i := 12) (v := .int .i64 at_) (at_list rfl) (by kernel_rfl) (by kernel_rfl) (by kernel_rfl) (fun _ _ _ h => h) (Or.inl ⟨by rfl, ?_⟩) hHeld ?_
            · intro v hSv
              clear hHeld
              go_simp
            try simp only [Act.put, List.setIfInBounds_toArray, List.set_cons_zero, List.set_cons_succ]
            refine wpAnyH_take (i := 13) (v := .int .i64 more) (at_list rfl) (by kernel_rfl) (by kernel_rfl) (by kernel_rfl) (fun _ _ _ h => h) (Or.inl ⟨by rfl, ?_⟩) hHeld ?_
            · intro v hSv
              clear hHeld
              go_simp
            try simp only [Act.put, List.setIfInBounds_toArray, List.set_cons_zero, List.set_cons_succ]
            refine wpAnyH_take (i := 14) (v := .int .i64 u) (at_list rfl) (by kernel_rfl) (by kernel_rfl) (by kernel_rfl) (fun _ _ _ h => h) (Or.inl ⟨by rfl, ?_⟩) hHeld ?_
            · intro v hSv
              clear hHeld
              go_simp
            try simp only [Act.put, List.setIfInBounds_toArray, List.set_cons_zero, List.set_cons_succ]
            refine wpAnyH_take (i := 16) (v := .agg (#[.int .i64 o.lo, .int .i64 o.hi, .bool o.k])) (at_list rfl) (by kernel_rfl) (by kernel_rfl) (by kernel_rfl) (fun _ _ _ h => h) (yields_whole (by rfl) 29 _ rfl gK3 rfl (fun v hv => hv.2.2.1) Try.underlying29 rfl (by kernel_rfl)) hHeld ?_
            try simp only [Act.put, List.setIfInBounds_toArray, List.set_cons_zero, List.set_cons_succ]
            refine wpAnyH_take (i := 17) (v := .int .i64 at_) (at_list rfl) (by kernel_rfl) (by kernel_rfl) (by kernel_rfl) (fun _ _ _ h => h) (Or.inl ⟨by rfl, ?_⟩) hHeld ?_
            · intro v hSv
              clear hHeld
              go_simp
            try simp only [Act.put, List.setIfInBounds_toArray, List.set_cons_zero, List.set_cons_succ]
            refine wpAnyH_take (i := 18) (v := .int .i64 more) (at_list rfl) (by kernel_rfl) (by kernel_rfl) (by kernel_rfl) (fun _ _ _ h => h) (Or.inl ⟨by rfl, ?_⟩) hHeld ?_
            · intro v hSv
              clear hHeld
              go_simp
            try simp only [Act.put, List.setIfInBounds_toArray, List.set_cons_zero, List.set_cons_succ]
            refine wpAnyH_take (i := 19) (v := .int .i64 u) (at_list rfl) (by kernel_rfl) (by kernel_rfl) (by kernel_rfl) (fun _ _ _ h => h) (Or.inl ⟨by rfl, ?_⟩) hHeld ?_
            · intro v hSv
              clear hHeld
              go_simp
            try simp only [Act.put, List.setIfInBounds_toArray, List.set_cons_zero, List.set_cons_succ]
            refine wpAnyH_ready (rs := [15]) (by kernel_rfl) (by simp) ?_
            refine AllReadyH.cons (at_list rfl) (fun K hK => ?_) AllReadyH.nil
            go_simp
            refine (pmaster14_any gM ⟨0, o, at_, 1⟩ u _ hHeld.2.1).mono ?_
            rintro e v3 ⟨rfl, hv3⟩
            rw [HMS.out]
            go_wp2_with fail
            refine hK.out _ _ ?_ (fun hHeld2 => ?_)
            · exact ⟨bstep hHeld.1 hv3, (hHeld.2.1).keptB hv3, (hHeld.2.2.1).keptB hv3, trivial⟩
            clear hK K hHeld
            have hHeld := hHeld2
            clear hHeld2 hv3
            try simp only [Act.put, List.setIfInBounds_toArray, List.set_cons_zero, List.set_cons_succ]
            refine wpAnyH_ready (rs := [20]) (by kernel_rfl) (by simp) ?_
            refine AllReadyH.cons (at_list rfl) (fun K hK => ?_) AllReadyH.nil
            go_simp
            refine (shift3_any o u _).mono ?_
            rintro e v4 ⟨rfl, hv4⟩
            rw [Hp.out]
            go_wp2_with fail
            refine hK.out _ _ ?_ (fun hHeld2 => ?_)
            · exact ⟨bstep hHeld.1 hv4, (hHeld.2.1).keptB hv4, (hHeld.2.2.1).keptB hv4, trivial⟩
            clear hK K hHeld
            have hHeld := hHeld2
            clear hHeld2 hv4
            try simp only [Act.put, List.setIfInBounds_toArray, List.set_cons_zero, List.set_cons_succ]
            refine wpAnyH_take (i := 21) (v := .bool true) (at_list rfl) (by kernel_rfl) (by kernel_rfl) (by kernel_rfl) (fun _ _ _ h => h) (yields_cmp (by rfl) .eql 38 _ _ _ rfl (#[.int .i64 p.lo, .int .i64 p.hi, .bool p.k]) (#[.int .i64 p.lo, .int .i64 p.hi, .bool p.k]) rfl rfl (by kernel_rfl) true (fun v => (eql_span _ _ _ _ _ _ v).trans (by rw [eqS_refl]))) hHeld ?_
            try simp only [Act.put, List.setIfInBounds_toArray, List.set_cons_zero, List.set_cons_succ]
            refine wpAnyH_take (i := 22) (v := .bool true) (at_list rfl) (by kernel_rfl) (by kernel_rfl) (by kernel_rfl) (fun _ _ _ h => h) (Or.inl ⟨by rfl, ?_⟩) hHeld ?_
            · intro v hSv
              clear hHeld
              go_simp
            try simp only [Act.put, List.setIfInBounds_toArray, List.set_cons_zero, List.set_cons_succ]
            refine wpAnyH_take (i := 23) (v := .bool true) (at_list rfl) (by kernel_rfl) (by kernel_rfl) (by kernel_rfl) (fun _ _ _ h => h) (Or.inl ⟨by rfl, ?_⟩) hHeld ?_
            · intro v hSv
              clear hHeld
              go_simp
            try simp only [Act.put, List.setIfInBounds_toArray, List.set_cons_zero, List.set_cons_succ]
            refine wpAnyH_take (i := 24) (v := .pointer (some ⟨gM, 0, none⟩)) (at_list rfl) (by kernel_rfl) (by kernel_rfl) (by kernel_rfl) (fun _ _ _ h => h) (Or.inl ⟨by rfl, ?_⟩) hHeld ?_
            · intro v hSv
              clear hHeld
              go_simp
            try simp only [Act.put, List.setIfInBounds_toArray, List.set_cons_zero, List.set_cons_succ]
            refine wpAnyH_take (i := 25) (v := .int .i64 at_) (at_list rfl) (by kernel_rfl) (by kernel_rfl) (by kernel_rfl) (fun _ _ _ h => h) (Or.inl ⟨by rfl, ?_⟩) hHeld ?_
            · intro v hSv
              clear hHeld
              go_simp
            try simp only [Act.put, List.setIfInBounds_toArray, List.set_cons_zero, List.set_cons_succ]
            refine wpAnyH_take (i := 26) (v := .int .i64 v0) (at_list rfl) (by kernel_rfl) (by kernel_rfl) (by kernel_rfl) (fun _ _ _ h => h) (Or.inl ⟨by rfl, ?_⟩) hHeld ?_
            · intro v hSv
              clear hHeld
              go_simp
            try simp only [Act.put, List.setIfInBounds_toArray, List.set_cons_zero, List.set_cons_succ]
            refine wpAnyH_ready (rs := [27]) (by kernel_rfl) (by simp) ?_
            refine AllReadyH.cons (at_list rfl) (fun K hK => ?_) AllReadyH.nil
            go_simp
            refine (pread14_any gM ⟨0, o, at_, 1⟩ v0 _ hHeld.2.1).mono ?_
            rintro e v5 ⟨rfl, hv5⟩
            rw [HRB.out]
            go_wp2_with fail
            refine hK.out _ _ ?_ (fun hHeld2 => ?_)
            · exact ⟨bstep hHeld.1 hv5, (hHeld.2.1).keptB hv5, (hHeld.2.2.1).keptB hv5, trivial⟩
            clear hK K hHeld
            have hHeld := hHeld2
            clear hHeld2 hv5
            try simp only [Act.put, List.setIfInBounds_toArray, List.set_cons_zero, List.set_cons_succ]
            refine wpAnyH_ready (rs := [28]) (by kernel_rfl) (by simp) ?_
            refine AllReadyH.cons (at_list rfl) (fun K hK => ?_) AllReadyH.nil
            go_simp
            refine (unknown_any _).mono ?_
            rintro e v6 ⟨rfl, hv6⟩
            go_wp2_with fail
            refine hK.out _ _ ?_ (fun hHeld2 => ?_)
            · exact ⟨bstep hHeld.1 hv6, (hHeld.2.1).keptB hv6, (hHeld.2.2.1).keptB hv6, trivial⟩
            clear hK K hHeld
            have hHeld := hHeld2
            clear hHeld2 hv6
            try simp only [Act.put, List.setIfInBounds_toArray, List.set_cons_zero, List.set_cons_succ]
            refine wpAnyH_take (i := 29) (v := .bool true) (at_list rfl) (by kernel_rfl) (by kernel_rfl) (by kernel_rfl) (fun _ _ _ h => h) (yields_cmp (by rfl) .eql 38 _ _ _ rfl (#[.int .i64 unS.lo, .int .i64 unS.hi, .bool unS.k]) (#[.int .i64 0, .int .i64 0, .bool false]) rfl rfl (by kernel_rfl) true (fun v => (eql_span _ _ _ _ _ _ v).trans (by rfl))) hHeld ?_
            try simp only [Act.put, List.setIfInBounds_toArray, List.set_cons_zero, List.set_cons_succ]
            refine wpAnyH_take (i := 30) (v := .bool true) (at_list rfl) (by kernel_rfl) (by kernel_rfl) (by kernel_rfl) (fun _ _ _ h => h) (Or.inl ⟨by rfl, ?_⟩) hHeld ?_
            · intro v hSv
              clear hHeld
              go_simp
            try simp only [Act.put, List.setIfInBounds_toArray, List.set_cons_zero, List.set_cons_succ]
            refine wpAnyH_take (i := 31) (v := .bool true) (at_list rfl) (by kernel_rfl) (by kernel_rfl) (by kernel_rfl) (fun _ _ _ h => h) (Or.inl ⟨by rfl, ?_⟩) hHeld ?_
            · intro v hSv
              clear hHeld
              go_simp
            try simp only [Act.put, List.setIfInBounds_toArray, List.set_cons_zero, List.set_cons_succ]
            refine wpAnyH_done (by kernel_rfl) ?_ _
            have HB := Lib.hid hHeld.1
            have M := Lib.hid hHeld.2.1
            have K3 := Lib.hid hHeld.2.2.1
            clear hHeld
            go_wp2
            try rw [Exit.noGoto_ret]
            go_ret
            exact ⟨rfl, HB.out⟩

end Go.Proofs.Ytblbjljfcoeeeaa
