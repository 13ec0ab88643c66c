/- The walk over the reference of layer 10: Port. -/
import Derived.Test.YtpdnfeooijmgoaaDecideMath
import Derived.Test.YtpdnfeooijmgoaaBestRefAll
import Derived.Deep.DeepCutAuto
import Derived.Deep.LoopGhost
import Derived.WalkMore
namespace Go.Proofs.Ytpdnfeooijmgoaa
set_option maxRecDepth 100000
open Go.RowKit
set_option linter.unusedVariables false
set_option linter.unusedSimpArgs false

set_option maxHeartbeats 4000000 in
theorem rdport10_any (me : Rs) (A : Option Addr) (n c : Nat) (l : List Ch) (k st : Int) (w : World) (hm : me.ok) (ho : ∀ s ∈ l, s.s.ok) (hn : n ≤ 900) (h : ChsIn w (.slice A n c) l) :
    Calls Try.prog 17 #[.agg (rsA me), .slice A n c, .int .i64 k, .int .i64 st] w fun e w' => e = .returned (.int .i64 (decideN me l k st)) ∧ Below w.heap.size w w' := by
  have HO := Lib.hid ho
  have OM := Lib.hid hm
  clear ho hm
  have HB := Lib.hid (Below.refl w.heap.size w)
  have CI := Lib.hid h
  have HLN : Hid (l.length = n) := by
    obtain ⟨_, _, _, h1, h2, _⟩ := CI.out
    cases h1
    exact h2
  have HN := Lib.hid hn
  clear h hn
  go_enter Try.func17, Try.ntmps17
  go_upto_region 1 with ((refine big_box rfl 29 _ rfl (rsA me) rfl (by kernel_rfl) ?_; intro gK4 wK4 hlK4 nK4 hbK4; have K4 := Lib.hid nK4; have LK4 := Lib.hid (Nat.le_trans (HB.out).size hlK4); have OCIK4 := Lib.hid ((CI.out).off hlK4); replace CI := Lib.hid ((CI.out).keptB hbK4); replace HB := Lib.hid (bstep HB.out hbK4); clear hlK4 nK4 hbK4; try simp only [Act.put, List.setIfInBounds_toArray, List.set_cons_zero, List.set_cons_succ]))
  by_cases t0 : k < 0
  · have d0 : decide (k < 0) = true := decide_eq_true t0
    have HX : Hid (decideN me l k st = 0) := dec_idle (by unfold idleB; rw [HLN.out]; simp [d0])
    clear t0
    go_wp2
    go_ret
    exact ⟨ret_int9 HX.out.symm, HB.out⟩
  · have d0 : decide (k < 0) = false := decide_eq_false t0
    by_cases t1 : (n : Int) ≤ k
    · have d1 : decide ((n : Int) ≤ k) = true := decide_eq_true t1
      have HX : Hid (decideN me l k st = 0) := dec_idle (by unfold idleB; rw [HLN.out]; simp [d0, d1])
      clear t1
      go_wp2
      go_ret
      exact ⟨ret_int9 HX.out.symm, HB.out⟩
    · have d1 : decide ((n : Int) ≤ k) = false := decide_eq_false t1
      by_cases t2 : st = 1
      · have d2 : (st == 1) = true := by simpa using t2
        have HX : Hid (decideN me l k st = 0) := dec_idle (by unfold idleB; rw [HLN.out]; simp [d0, d1, d2])
        clear t2
        go_wp2
        go_ret
        exact ⟨ret_int9 HX.out.symm, HB.out⟩
      · have d2 : (st == 1) = false := by simpa using t2
        by_cases t3 : st = 2
        · have d3 : (st == 2) = true := by simpa using t3
          have HX : Hid (decideN me l k st = 0) := dec_idle (by unfold idleB; rw [HLN.out]; simp [d0, d1, d2, d3])
          clear t3
          go_wp2
          go_ret
          exact ⟨ret_int9 HX.out.symm, HB.out⟩
        · have d3 : (st == 2) = false := by simpa using t3
          by_cases t4 : st = 3
          · have d4 : (st == 3) = true := by simpa using t4
            have HX : Hid (decideN me l k st = 0) := dec_idle (by unfold idleB; rw [HLN.out]; simp [d0, d1, d2, d3, d4])
            clear t4
            go_wp2
            go_ret
            exact ⟨ret_int9 HX.out.symm, HB.out⟩
          · have d4 : (st == 3) = false := by simpa using t4
            obtain ⟨q, hq⟩ : ∃ q : Nat, k = (q : Int) := ⟨k.toNat, by omega⟩
            subst hq
            have HI : Hid (idleB l.length q st = false) := by rw [Hid]; unfold idleB; rw [HLN.out, d0, d1, d2, d3, d4]; rfl
            obtain ⟨r, hr⟩ : ∃ r, l[q]? = some r := ⟨_, List.getElem?_eq_getElem (show q < l.length by have := HLN.out; omega)⟩
            have HRQ := Lib.hid hr
            have HK : Hid (q < n) := by rw [Hid]; omega
            clear hr t0 t1 t2 t3 t4
            obtain ⟨g, o, hA⟩ : ∃ g o, A = some ⟨g, o, none⟩ := by
              obtain ⟨_, _, _, h1, _, h3⟩ := CI.out
              cases h1
              obtain ⟨g, o, h4, _⟩ := h3 (by have := HK.out; omega)
              exact ⟨g, o, h4⟩
            subst hA
            have OR := Lib.hid (HO.out r (List.mem_of_getElem? HRQ.out))
            go_upto_region 4 with (first | (refine big_fill rfl 45 _ _ rfl gK9 (chA ⟨me, true⟩) rfl rfl K9.out (by kernel_rfl) (by kernel_rfl) (by kernel_rfl) ?_; intro vK90 nK9 htK9; replace K9 := Lib.hid nK9; replace CI := Lib.hid ((CI.out).touch htK9 OCIK9.out); replace K4 := Lib.hid ((K4.out).touch htK9 OK4K9.out); replace HB := Lib.hid (btouch HB.out htK9 LK9.out); clear nK9 htK9; try simp only [Act.put, List.setIfInBounds_toArray, List.set_cons_zero, List.set_cons_succ]) | (refine big_alloc rfl 45 rfl (chA zeroCh) (by kernel_rfl) ?_; intro gK9 wK9 hlK9 nK9 hbK9; have K9 := Lib.hid nK9; have LK9 := Lib.hid (Nat.le_trans (HB.out).size hlK9); have OCIK9 := Lib.hid ((CI.out).off hlK9); have OK4K9 := Lib.hid ((K4.out).off hlK9); replace CI := Lib.hid ((CI.out).keptB hbK9); replace K4 := Lib.hid ((K4.out).keptB hbK9); replace HB := Lib.hid (bstep HB.out hbK9); clear hlK9 nK9 hbK9; try simp only [Act.put, List.setIfInBounds_toArray, List.set_cons_zero, List.set_cons_succ]) | (refine big_build rfl 45 _ rfl (chA ⟨me, true⟩) (by kernel_rfl) ?_; try simp only [Act.put, List.setIfInBounds_toArray, List.set_cons_zero, List.set_cons_succ]) | (refine big_whole rfl 29 _ rfl gK4 rfl K4.out Try.underlying29 rfl (by kernel_rfl) ?_; try simp only [Act.put, List.setIfInBounds_toArray, List.set_cons_zero, List.set_cons_succ]))
            clear d0 d1 d2 d3 d4
            go_upto_region 5 with (first | (refine big_fill rfl 45 _ _ rfl gK10 (chA r) rfl rfl K10.out (by kernel_rfl) (by kernel_rfl) (by kernel_rfl) ?_; intro vK100 nK10 htK10; replace K10 := Lib.hid nK10; replace CI := Lib.hid ((CI.out).touch htK10 OCIK10.out); replace K4 := Lib.hid ((K4.out).touch htK10 OK4K10.out); replace K9 := Lib.hid ((K9.out).touch htK10 OK9K10.out); replace HB := Lib.hid (btouch HB.out htK10 LK10.out); clear nK10 htK10; try simp only [Act.put, List.setIfInBounds_toArray, List.set_cons_zero, List.set_cons_succ]) | (refine big_alloc rfl 45 rfl (chA zeroCh) (by kernel_rfl) ?_; intro gK10 wK10 hlK10 nK10 hbK10; have K10 := Lib.hid nK10; have LK10 := Lib.hid (Nat.le_trans (HB.out).size hlK10); have OCIK10 := Lib.hid ((CI.out).off hlK10); have OK4K10 := Lib.hid ((K4.out).off hlK10); have OK9K10 := Lib.hid ((K9.out).off hlK10); replace CI := Lib.hid ((CI.out).keptB hbK10); replace K4 := Lib.hid ((K4.out).keptB hbK10); replace K9 := Lib.hid ((K9.out).keptB hbK10); replace HB := Lib.hid (bstep HB.out hbK10); clear hlK10 nK10 hbK10; try simp only [Act.put, List.setIfInBounds_toArray, List.set_cons_zero, List.set_cons_succ]) | (refine big_loadAt rfl 45 _ rfl g (o + q * 33) rfl (chA r) (ch_in CI.out HRQ.out) Try.underlying45 rfl (by kernel_rfl) ?_; try simp only [Act.put, List.setIfInBounds_toArray, List.set_cons_zero, List.set_cons_succ]) | (refine big_index rfl 30 _ _ rfl g o n c q 33 rfl rfl HK.out Try.underlying30 (by kernel_rfl) ?_; try simp only [Act.put, List.setIfInBounds_toArray, List.set_cons_zero, List.set_cons_succ]))
            have x32 := (K10.out).reads (i := 32) (x := .bool r.is) rfl
            have x2 := (K4.out).reads (i := 2) (x := .int .i64 me.q1) rfl
            by_cases t5 : st = 4
            · have d5 : (st == 4) = true := by simpa using t5
              cases hri : r.is
              · have HX : Hid (decideN me l (q : Int) st = 0) := dec_deaf HI.out HRQ.out ⟨t5, hri⟩
                rw [hri] at x32
                clear t5 hri x2
                go_wp2
                go_ret
                exact ⟨ret_int9 HX.out.symm, HB.out⟩
              · have HD : Hid (¬ (st = 4 ∧ r.is = false)) := by rw [Hid]; rintro ⟨_, h⟩; rw [hri] at h; cases h
                rw [hri] at x32
                clear t5 hri
                by_cases t6 : 0 < me.q1
                · have d6 : decide (0 < me.q1) = true := decide_eq_true t6
                  by_cases t7 : me.q1 < 128
                  · have d7 : decide (me.q1 < 128) = true := decide_eq_true t7
                    have HQ : Hid (0 < me.q1 ∧ me.q1 < 128) := ⟨t6, t7⟩
                    clear t6 t7
                    go_upto_region 8 with fail
                    clear x2 x32
                    go_wp2_with (first | (refine big_whole rfl 45 _ rfl gK9 rfl K9.out Try.underlying45 rfl (by kernel_rfl) ?_; try simp only [Act.put, List.setIfInBounds_toArray, List.set_cons_zero, List.set_cons_succ]) | (refine big_whole rfl 45 _ rfl gK10 rfl K10.out Try.underlying45 rfl (by kernel_rfl) ?_; try simp only [Act.put, List.setIfInBounds_toArray, List.set_cons_zero, List.set_cons_succ]))
                    cases hb : betterB ⟨me, true⟩ r
                    · have HX : Hid (decideN me l (q : Int) st = 5) := by rw [Hid, dec_grand HI.out HRQ.out HD.out HQ.out, hb]; rfl
                      have HBB := Lib.hid hb
                      clear hb
                      refine (rbetter9_any ⟨me, true⟩ r _ OM.out OR.out).mono ?_
                      rintro e c1 ⟨rfl, hc1⟩
                      replace K4 := Lib.hid ((K4.out).keptB hc1)
                      replace HB := Lib.hid (bstep HB.out hc1)
                      clear hc1
                      rw [HBB.out]
                      go_wp2
                      go_ret
                      exact ⟨ret_int9 HX.out.symm, HB.out⟩
                    · have HX : Hid (decideN me l (q : Int) st = 1) := by rw [Hid, dec_grand HI.out HRQ.out HD.out HQ.out, hb]; rfl
                      have HBB := Lib.hid hb
                      clear hb
                      refine (rbetter9_any ⟨me, true⟩ r _ OM.out OR.out).mono ?_
                      rintro e c1 ⟨rfl, hc1⟩
                      replace K4 := Lib.hid ((K4.out).keptB hc1)
                      replace HB := Lib.hid (bstep HB.out hc1)
                      clear hc1
                      rw [HBB.out]
                      go_wp2
                      go_ret
                      exact ⟨ret_int9 HX.out.symm, HB.out⟩
                  · have d7 : decide (me.q1 < 128) = false := decide_eq_false t7
                    have HQ : Hid (¬ (0 < me.q1 ∧ me.q1 < 128)) := by rw [Hid]; omega
                    clear t6 t7
                    go_upto_region 11 with fail
                    clear x2 x32
                    go_wp2_with fail
                    refine (rall9_in _ l _ HO.out (by have := HN.out; have := HLN.out; omega) CI.out).mono ?_
                    rintro e c1 ⟨rfl, hc1⟩
                    replace CI := Lib.hid ((CI.out).keptB hc1)
                    replace K9 := Lib.hid ((K9.out).keptB hc1)
                    replace K10 := Lib.hid ((K10.out).keptB hc1)
                    replace HB := Lib.hid (bstep HB.out hc1)
                    clear hc1
                    rcases allN_spec l with ⟨ha, _⟩ | ⟨p, bb, ha, hb, _⟩
                    · have HX : Hid (decideN me l (q : Int) st = 2) := dec_lead HI.out HRQ.out HD.out HQ.out (by rw [ha]; omega)
                      rw [ha]
                      clear ha
                      go_wp2
                      refine wp_region_noPanic ?_
                      refine wp_region_held_drew (S := fun v => Below w.heap.size w v ∧ ChsIn v (.slice (some ⟨g, o, none⟩) n c) l ∧ Holds v gK9 45 (chA ⟨me, true⟩) ∧ Holds v gK10 45 (chA r) ∧ True) (by kernel_rfl) ?_ (fun hHeld => ?_)
                      · exact ⟨bdrew HB.out, (CI.out).drew, (K9.out).drew, (K10.out).drew, trivial⟩
                      clear HB CI K9 K10
                      refine wpAnyH_take (i := 0) (v := .int .i64 (-1)) (at_list rfl) (by kernel_rfl) (by kernel_rfl) (by kernel_rfl) (fun _ _ _ h => h) (Or.inl ⟨by rfl, ?_⟩) hHeld ?_
                      · intro v hSv
                        clear hHeld
                        go_simp
                      try simp only [Act.put, List.setIfInBounds_toArray, List.set_cons_zero, List.set_cons_succ]
                      refine wpAnyH_take (i := 1) (v := .bool true) (at_list rfl) (by kernel_rfl) (by kernel_rfl) (by kernel_rfl) (fun _ _ _ h => h) (Or.inl ⟨by rfl, ?_⟩) hHeld ?_
                      · intro v hSv
                        clear hHeld
                        go_simp
                      try simp only [Act.put, List.setIfInBounds_toArray, List.set_cons_zero, List.set_cons_succ]
                      refine wpAnyH_take (i := 2) (v := .bool true) (at_list rfl) (by kernel_rfl) (by kernel_rfl) (by kernel_rfl) (fun _ _ _ h => h) (Or.inl ⟨by rfl, ?_⟩) hHeld ?_
                      · intro v hSv
                        clear hHeld
                        go_simp
                      try simp only [Act.put, List.setIfInBounds_toArray, List.set_cons_zero, List.set_cons_succ]
                      refine wpAnyH_take (i := 3) (v := undef) (at_list rfl) (by kernel_rfl) (by kernel_rfl) (by kernel_rfl) (fun _ _ _ h => h) (Or.inr ⟨by rfl, rfl⟩) hHeld ?_
                      try simp only [Act.put, List.setIfInBounds_toArray, List.set_cons_zero, List.set_cons_succ]
                      refine wpAnyH_take (i := 4) (v := undef) (at_list rfl) (by kernel_rfl) (by kernel_rfl) (by kernel_rfl) (fun _ _ _ h => h) (Or.inr ⟨by rfl, rfl⟩) hHeld ?_
                      try simp only [Act.put, List.setIfInBounds_toArray, List.set_cons_zero, List.set_cons_succ]
                      refine wpAnyH_take (i := 5) (v := undef) (at_list rfl) (by kernel_rfl) (by kernel_rfl) (by kernel_rfl) (fun _ _ _ h => h) (Or.inr ⟨by rfl, rfl⟩) hHeld ?_
                      try simp only [Act.put, List.setIfInBounds_toArray, List.set_cons_zero, List.set_cons_succ]
                      refine wpAnyH_take (i := 6) (v := undef) (at_list rfl) (by kernel_rfl) (by kernel_rfl) (by kernel_rfl) (fun _ _ _ h => h) (Or.inr ⟨by rfl, rfl⟩) hHeld ?_
                      try simp only [Act.put, List.setIfInBounds_toArray, List.set_cons_zero, List.set_cons_succ]
                      refine wpAnyH_take (i := 7) (v := undef) (at_list rfl) (by kernel_rfl) (by kernel_rfl) (by kernel_rfl) (fun _ _ _ h => h) (Or.inr ⟨by rfl, rfl⟩) hHeld ?_
                      try simp only [Act.put, List.setIfInBounds_toArray, List.set_cons_zero, List.set_cons_succ]
                      refine wpAnyH_take (i := 8) (v := undef) (at_list rfl) (by kernel_rfl) (by kernel_rfl) (by kernel_rfl) (fun _ _ _ h => h) (Or.inr ⟨by rfl, rfl⟩) hHeld ?_
                      try simp only [Act.put, List.setIfInBounds_toArray, List.set_cons_zero, List.set_cons_succ]
                      refine wpAnyH_take (i := 9) (v := .bool true) (at_list rfl) (by kernel_rfl) (by kernel_rfl) (by kernel_rfl) (fun _ _ _ h => h) (Or.inl ⟨by rfl, ?_⟩) hHeld ?_
                      · intro v hSv
                        clear hHeld
                        go_simp
                      try simp only [Act.put, List.setIfInBounds_toArray, List.set_cons_zero, List.set_cons_succ]
                      refine wpAnyH_done (by kernel_rfl) ?_ _
                      refine NoPanic.normal ?_
                      have HB := Lib.hid hHeld.1
                      have CI := Lib.hid hHeld.2.1
                      have K9 := Lib.hid hHeld.2.2.1
                      have K10 := Lib.hid hHeld.2.2.2.1
                      clear hHeld
                      go_wp2
                      go_ret
                      exact ⟨ret_int9 HX.out.symm, HB.out⟩
                    · rw [ha]
                      have HBP := Lib.hid hb
                      have HPN : Hid (p < n) := by rw [Hid, ← HLN.out]; exact (List.getElem?_eq_some_iff.1 hb).1
                      have OB := Lib.hid (HO.out bb (List.mem_of_getElem? hb))
                      have HX0 := Lib.hid (dec_best HI.out HRQ.out HD.out HQ.out ha hb)
                      clear ha hb
                      cases hbb : betterB ⟨me, true⟩ bb
                      · have HBB := Lib.hid hbb
                        clear hbb
                        go_wp2
                        refine wp_region_noPanic ?_
                        refine wp_region_held_drew (S := fun v => Below w.heap.size w v ∧ ChsIn v (.slice (some ⟨g, o, none⟩) n c) l ∧ Holds v gK9 45 (chA ⟨me, true⟩) ∧ Holds v gK10 45 (chA r) ∧ True) (by kernel_rfl) ?_ (fun hHeld => ?_)
                        · exact ⟨bdrew HB.out, (CI.out).drew, (K9.out).drew, (K10.out).drew, trivial⟩
                        clear HB CI K9 K10
                        refine wpAnyH_take (i := 0) (v := .int .i64 p) (at_list rfl) (by kernel_rfl) (by kernel_rfl) (by kernel_rfl) (fun _ _ _ h => h) (Or.inl ⟨by rfl, ?_⟩) hHeld ?_
                        · intro v hSv
                          clear hHeld
                          go_simp
                        try simp only [Act.put, List.setIfInBounds_toArray, List.set_cons_zero, List.set_cons_succ]
                        refine wpAnyH_take (i := 1) (v := .bool false) (at_list rfl) (by kernel_rfl) (by kernel_rfl) (by kernel_rfl) (fun _ _ _ h => h) (Or.inl ⟨by rfl, ?_⟩) hHeld ?_
                        · intro v hSv
                          clear hHeld
                          go_simp
                          all_goals omega
                        try simp only [Act.put, List.setIfInBounds_toArray, List.set_cons_zero, List.set_cons_succ]
                        refine wpAnyH_take (i := 2) (v := .bool false) (at_list rfl) (by kernel_rfl) (by kernel_rfl) (by kernel_rfl) (fun _ _ _ h => h) (Or.inl ⟨by rfl, ?_⟩) hHeld ?_
                        · intro v hSv
                          clear hHeld
                          go_simp
                        try simp only [Act.put, List.setIfInBounds_toArray, List.set_cons_zero, List.set_cons_succ]
                        refine wpAnyH_take (i := 3) (v := .agg (chA ⟨me, true⟩)) (at_list rfl) (by kernel_rfl) (by kernel_rfl) (by kernel_rfl) (fun _ _ _ h => h) (yields_whole (by rfl) 45 _ rfl gK9 rfl (fun v hv => hv.2.2.1) Try.underlying45 rfl (by kernel_rfl)) hHeld ?_
                        try simp only [Act.put, List.setIfInBounds_toArray, List.set_cons_zero, List.set_cons_succ]
                        refine wpAnyH_take (i := 4) (v := .slice (some ⟨g, o, none⟩) n c) (at_list rfl) (by kernel_rfl) (by kernel_rfl) (by kernel_rfl) (fun _ _ _ h => h) (Or.inl ⟨by rfl, ?_⟩) hHeld ?_
                        · intro v hSv
                          clear hHeld
                          go_simp
                        try simp only [Act.put, List.setIfInBounds_toArray, List.set_cons_zero, List.set_cons_succ]
                        refine wpAnyH_take (i := 5) (v := .int .i64 p) (at_list rfl) (by kernel_rfl) (by kernel_rfl) (by kernel_rfl) (fun _ _ _ h => h) (Or.inl ⟨by rfl, ?_⟩) hHeld ?_
                        · intro v hSv
                          clear hHeld
                          go_simp
                        try simp only [Act.put, List.setIfInBounds_toArray, List.set_cons_zero, List.set_cons_succ]
                        refine wpAnyH_take (i := 6) (v := .pointer (some ⟨g, o + p * 33, none⟩)) (at_list rfl) (by kernel_rfl) (by kernel_rfl) (by kernel_rfl) (fun _ _ _ h => h) (yields_index (by rfl) 30 _ _ rfl g o n c p 33 rfl rfl HPN.out Try.underlying30 (by kernel_rfl)) hHeld ?_
                        try simp only [Act.put, List.setIfInBounds_toArray, List.set_cons_zero, List.set_cons_succ]
                        refine wpAnyH_take (i := 7) (v := .agg (chA bb)) (at_list rfl) (by kernel_rfl) (by kernel_rfl) (by kernel_rfl) (fun _ _ _ h => h) (yieldsIf_load_mid (by rfl) 45 _ rfl g (o + p * 33) rfl (chA bb).toList _ (fun v hv => ch_in (hv.2.1) HBP.out) Try.underlying45 rfl (by kernel_rfl)) hHeld ?_
                        try simp only [Act.put, List.setIfInBounds_toArray, List.set_cons_zero, List.set_cons_succ]
                        refine wpAnyH_ready (rs := [8]) (by kernel_rfl) (by simp) ?_
                        refine AllReadyH.cons (at_list rfl) (fun K hK => ?_) AllReadyH.nil
                        go_simp
                        refine (rbetter9_any ⟨me, true⟩ bb _ OM.out OB.out).mono ?_
                        rintro e v2 ⟨rfl, hv2⟩
                        rw [HBB.out]
                        go_wp2_with fail
                        refine hK.out _ _ ?_ (fun hHeld2 => ?_)
                        · exact ⟨bstep hHeld.1 hv2, (hHeld.2.1).keptB hv2, (hHeld.2.2.1).keptB hv2, (hHeld.2.2.2.1).keptB hv2, trivial⟩
                        clear hK K hHeld
                        have hHeld := hHeld2
                        clear hHeld2 hv2
                        try simp only [Act.put, List.setIfInBounds_toArray, List.set_cons_zero, List.set_cons_succ]
                        refine wpAnyH_take (i := 9) (v := .bool false) (at_list rfl) (by kernel_rfl) (by kernel_rfl) (by kernel_rfl) (fun _ _ _ h => h) (Or.inl ⟨by rfl, ?_⟩) hHeld ?_
                        · intro v hSv
                          clear hHeld
                          go_simp
                        try simp only [Act.put, List.setIfInBounds_toArray, List.set_cons_zero, List.set_cons_succ]
                        refine wpAnyH_done (by kernel_rfl) ?_ _
                        refine NoPanic.normal ?_
                        have HB := Lib.hid hHeld.1
                        have CI := Lib.hid hHeld.2.1
                        have K9 := Lib.hid hHeld.2.2.1
                        have K10 := Lib.hid hHeld.2.2.2.1
                        clear hHeld
                        by_cases hpq : p = q
                        · have HX : Hid (decideN me l (q : Int) st = 4) := by rw [Hid, HX0.out, HBB.out, if_neg (by decide), if_pos hpq]
                          have dq : ((p : Int) == (q : Int)) = true := by simp [hpq]
                          clear hpq HX0
                          go_wp2
                          go_ret
                          exact ⟨ret_int9 HX.out.symm, HB.out⟩
                        · cases hw : bywayB bb r
                          · have HW := Lib.hid hw
                            have HX : Hid (decideN me l (q : Int) st = 3) := by rw [Hid, HX0.out, HBB.out, if_neg (by decide), if_neg hpq, hw]; rfl
                            have dq : ((p : Int) == (q : Int)) = false := by simp; omega
                            clear hpq hw HX0
                            go_wp2
                            refine wp_region_noPanic ?_
                            refine wp_region_held_drew (S := fun v => Below w.heap.size w v ∧ ChsIn v (.slice (some ⟨g, o, none⟩) n c) l ∧ Holds v gK9 45 (chA ⟨me, true⟩) ∧ Holds v gK10 45 (chA r) ∧ True) (by kernel_rfl) ?_ (fun hHeld => ?_)
                            · exact ⟨bdrew HB.out, (CI.out).drew, (K9.out).drew, (K10.out).drew, trivial⟩
                            clear HB CI K9 K10
                            refine wpAnyH_take (i := 0) (v := .slice (some ⟨g, o, none⟩) n c) (at_list rfl) (by kernel_rfl) (by kernel_rfl) (by kernel_rfl) (fun _ _ _ h => h) (Or.inl ⟨by rfl, ?_⟩) hHeld ?_
                            · intro v hSv
                              clear hHeld
                              go_simp
                            try simp only [Act.put, List.setIfInBounds_toArray, List.set_cons_zero, List.set_cons_succ]
                            refine wpAnyH_take (i := 1) (v := .int .i64 p) (at_list rfl) (by kernel_rfl) (by kernel_rfl) (by kernel_rfl) (fun _ _ _ h => h) (Or.inl ⟨by rfl, ?_⟩) hHeld ?_
                            · intro v hSv
                              clear hHeld
                              go_simp
                            try simp only [Act.put, List.setIfInBounds_toArray, List.set_cons_zero, List.set_cons_succ]
                            refine wpAnyH_take (i := 2) (v := .pointer (some ⟨g, o + p * 33, none⟩)) (at_list rfl) (by kernel_rfl) (by kernel_rfl) (by kernel_rfl) (fun _ _ _ h => h) (yields_index (by rfl) 30 _ _ rfl g o n c p 33 rfl rfl HPN.out Try.underlying30 (by kernel_rfl)) hHeld ?_
                            try simp only [Act.put, List.setIfInBounds_toArray, List.set_cons_zero, List.set_cons_succ]
                            refine wpAnyH_take (i := 3) (v := .agg (chA bb)) (at_list rfl) (by kernel_rfl) (by kernel_rfl) (by kernel_rfl) (fun _ _ _ h => h) (yieldsIf_load_mid (by rfl) 45 _ rfl g (o + p * 33) rfl (chA bb).toList _ (fun v hv => ch_in (hv.2.1) HBP.out) Try.underlying45 rfl (by kernel_rfl)) hHeld ?_
                            try simp only [Act.put, List.setIfInBounds_toArray, List.set_cons_zero, List.set_cons_succ]
                            refine wpAnyH_take (i := 4) (v := .agg (chA r)) (at_list rfl) (by kernel_rfl) (by kernel_rfl) (by kernel_rfl) (fun _ _ _ h => h) (yields_whole (by rfl) 45 _ rfl gK10 rfl (fun v hv => hv.2.2.2.1) Try.underlying45 rfl (by kernel_rfl)) hHeld ?_
                            try simp only [Act.put, List.setIfInBounds_toArray, List.set_cons_zero, List.set_cons_succ]
                            refine wpAnyH_ready (rs := [5]) (by kernel_rfl) (by simp) ?_
                            refine AllReadyH.cons (at_list rfl) (fun K hK => ?_) AllReadyH.nil
                            go_simp
                            refine (rbyway9_any bb r _ OB.out OR.out).mono ?_
                            rintro e v2 ⟨rfl, hv2⟩
                            rw [HW.out]
                            go_wp2_with fail
                            refine hK.out _ _ ?_ (fun hHeld2 => ?_)
                            · exact ⟨bstep hHeld.1 hv2, (hHeld.2.1).keptB hv2, (hHeld.2.2.1).keptB hv2, (hHeld.2.2.2.1).keptB hv2, trivial⟩
                            clear hK K hHeld
                            have hHeld := hHeld2
                            clear hHeld2 hv2
                            try simp only [Act.put, List.setIfInBounds_toArray, List.set_cons_zero, List.set_cons_succ]
                            refine wpAnyH_done (by kernel_rfl) ?_ _
                            refine NoPanic.normal ?_
                            have HB := Lib.hid hHeld.1
                            have CI := Lib.hid hHeld.2.1
                            have K9 := Lib.hid hHeld.2.2.1
                            have K10 := Lib.hid hHeld.2.2.2.1
                            clear hHeld
                            go_wp2
                            go_ret
                            exact ⟨ret_int9 HX.out.symm, HB.out⟩
                          · have HW := Lib.hid hw
                            have HX : Hid (decideN me l (q : Int) st = 6) := by rw [Hid, HX0.out, HBB.out, if_neg (by decide), if_neg hpq, hw]; rfl
                            have dq : ((p : Int) == (q : Int)) = false := by simp; omega
                            clear hpq hw HX0
                            go_wp2
                            refine wp_region_noPanic ?_
                            refine wp_region_held_drew (S := fun v => Below w.heap.size w v ∧ ChsIn v (.slice (some ⟨g, o, none⟩) n c) l ∧ Holds v gK9 45 (chA ⟨me, true⟩) ∧ Holds v gK10 45 (chA r) ∧ True) (by kernel_rfl) ?_ (fun hHeld => ?_)
                            · exact ⟨bdrew HB.out, (CI.out).drew, (K9.out).drew, (K10.out).drew, trivial⟩
                            clear HB CI K9 K10
                            refine wpAnyH_take (i := 0) (v := .slice (some ⟨g, o, none⟩) n c) (at_list rfl) (by kernel_rfl) (by kernel_rfl) (by kernel_rfl) (fun _ _ _ h => h) (Or.inl ⟨by rfl, ?_⟩) hHeld ?_
                            · intro v hSv
                              clear hHeld
                              go_simp
                            try simp only [Act.put, List.setIfInBounds_toArray, List.set_cons_zero, List.set_cons_succ]
                            refine wpAnyH_take (i := 1) (v := .int .i64 p) (at_list rfl) (by kernel_rfl) (by kernel_rfl) (by kernel_rfl) (fun _ _ _ h => h) (Or.inl ⟨by rfl, ?_⟩) hHeld ?_
                            · intro v hSv
                              clear hHeld
                              go_simp
                            try simp only [Act.put, List.setIfInBounds_toArray, List.set_cons_zero, List.set_cons_succ]
                            refine wpAnyH_take (i := 2) (v := .pointer (some ⟨g, o + p * 33, none⟩)) (at_list rfl) (by kernel_rfl) (by kernel_rfl) (by kernel_rfl) (fun _ _ _ h => h) (yields_index (by rfl) 30 _ _ rfl g o n c p 33 rfl rfl HPN.out Try.underlying30 (by kernel_rfl)) hHeld ?_
                            try simp only [Act.put, List.setIfInBounds_toArray, List.set_cons_zero, List.set_cons_succ]
                            refine wpAnyH_take (i := 3) (v := .agg (chA bb)) (at_list rfl) (by kernel_rfl) (by kernel_rfl) (by kernel_rfl) (fun _ _ _ h => h) (yieldsIf_load_mid (by rfl) 45 _ rfl g (o + p * 33) rfl (chA bb).toList _ (fun v hv => ch_in (hv.2.1) HBP.out) Try.underlying45 rfl (by kernel_rfl)) hHeld ?_
                            try simp only [Act.put, List.setIfInBounds_toArray, List.set_cons_zero, List.set_cons_succ]
                            refine wpAnyH_take (i := 4) (v := .agg (chA r)) (at_list rfl) (by kernel_rfl) (by kernel_rfl) (by kernel_rfl) (fun _ _ _ h => h) (yields_whole (by rfl) 45 _ rfl gK10 rfl (fun v hv => hv.2.2.2.1) Try.underlying45 rfl (by kernel_rfl)) hHeld ?_
                            try simp only [Act.put, List.setIfInBounds_toArray, List.set_cons_zero, List.set_cons_succ]
                            refine wpAnyH_ready (rs := [5]) (by kernel_rfl) (by simp) ?_
                            refine AllReadyH.cons (at_list rfl) (fun K hK => ?_) AllReadyH.nil
                            go_simp
                            refine (rbyway9_any bb r _ OB.out OR.out).mono ?_
                            rintro e v2 ⟨rfl, hv2⟩
                            rw [HW.out]
                            go_wp2_with fail
                            refine hK.out _ _ ?_ (fun hHeld2 => ?_)
                            · exact ⟨bstep hHeld.1 hv2, (hHeld.2.1).keptB hv2, (hHeld.2.2.1).keptB hv2, (hHeld.2.2.2.1).keptB hv2, trivial⟩
                            clear hK K hHeld
                            have hHeld := hHeld2
                            clear hHeld2 hv2
                            try simp only [Act.put, List.setIfInBounds_toArray, List.set_cons_zero, List.set_cons_succ]
                            refine wpAnyH_done (by kernel_rfl) ?_ _
                            refine NoPanic.normal ?_
                            have HB := Lib.hid hHeld.1
                            have CI := Lib.hid hHeld.2.1
                            have K9 := Lib.hid hHeld.2.2.1
                            have K10 := Lib.hid hHeld.2.2.2.1
                            clear hHeld
                            go_wp2
                            go_ret
                            exact ⟨ret_int9 HX.out.symm, HB.out⟩
                      · have HBB := Lib.hid hbb
                        have HX : Hid (decideN me l (q : Int) st = 2) := by rw [Hid, HX0.out, hbb]; rfl
                        clear hbb HX0
                        go_wp2
                        refine wp_region_noPanic ?_
                        refine wp_region_held_drew (S := fun v => Below w.heap.size w v ∧ ChsIn v (.slice (some ⟨g, o, none⟩) n c) l ∧ Holds v gK9 45 (chA ⟨me, true⟩) ∧ Holds v gK10 45 (chA r) ∧ True) (by kernel_rfl) ?_ (fun hHeld => ?_)
                        · exact ⟨bdrew HB.out, (CI.out).drew, (K9.out).drew, (K10.out).drew, trivial⟩
                        clear HB CI K9 K10
                        refine wpAnyH_take (i := 0) (v := .int .i64 p) (at_list rfl) (by kernel_rfl) (by kernel_rfl) (by kernel_rfl) (fun _ _ _ h => h) (Or.inl ⟨by rfl, ?_⟩) hHeld ?_
                        · intro v hSv
                          clear hHeld
                          go_simp
                        try simp only [Act.put, List.setIfInBounds_toArray, List.set_cons_zero, List.set_cons_succ]
                        refine wpAnyH_take (i := 1) (v := .bool false) (at_list rfl) (by kernel_rfl) (by kernel_rfl) (by kernel_rfl) (fun _ _ _ h => h) (Or.inl ⟨by rfl, ?_⟩) hHeld ?_
                        · intro v hSv
                          clear hHeld
                          go_simp
                          all_goals omega
                        try simp only [Act.put, List.setIfInBounds_toArray, List.set_cons_zero, List.set_cons_succ]
                        refine wpAnyH_take (i := 2) (v := .bool false) (at_list rfl) (by kernel_rfl) (by kernel_rfl) (by kernel_rfl) (fun _ _ _ h => h) (Or.inl ⟨by rfl, ?_⟩) hHeld ?_
                        · intro v hSv
                          clear hHeld
                          go_simp
                        try simp only [Act.put, List.setIfInBounds_toArray, List.set_cons_zero, List.set_cons_succ]
                        refine wpAnyH_take (i := 3) (v := .agg (chA ⟨me, true⟩)) (at_list rfl) (by kernel_rfl) (by kernel_rfl) (by kernel_rfl) (fun _ _ _ h => h) (yields_whole (by rfl) 45 _ rfl gK9 rfl (fun v hv => hv.2.2.1) Try.underlying45 rfl (by kernel_rfl)) hHeld ?_
                        try simp only [Act.put, List.setIfInBounds_toArray, List.set_cons_zero, List.set_cons_succ]
                        refine wpAnyH_take (i := 4) (v := .slice (some ⟨g, o, none⟩) n c) (at_list rfl) (by kernel_rfl) (by kernel_rfl) (by kernel_rfl) (fun _ _ _ h => h) (Or.inl ⟨by rfl, ?_⟩) hHeld ?_
                        · intro v hSv
                          clear hHeld
                          go_simp
                        try simp only [Act.put, List.setIfInBounds_toArray, List.set_cons_zero, List.set_cons_succ]
                        refine wpAnyH_take (i := 5) (v := .int .i64 p) (at_list rfl) (by kernel_rfl) (by kernel_rfl) (by kernel_rfl) (fun _ _ _ h => h) (Or.inl ⟨by rfl, ?_⟩) hHeld ?_
                        · intro v hSv
                          clear hHeld
                          go_simp
                        try simp only [Act.put, List.setIfInBounds_toArray, List.set_cons_zero, List.set_cons_succ]
                        refine wpAnyH_take (i := 6) (v := .pointer (some ⟨g, o + p * 33, none⟩)) (at_list rfl) (by kernel_rfl) (by kernel_rfl) (by kernel_rfl) (fun _ _ _ h => h) (yields_index (by rfl) 30 _ _ rfl g o n c p 33 rfl rfl HPN.out Try.underlying30 (by kernel_rfl)) hHeld ?_
                        try simp only [Act.put, List.setIfInBounds_toArray, List.set_cons_zero, List.set_cons_succ]
                        refine wpAnyH_take (i := 7) (v := .agg (chA bb)) (at_list rfl) (by kernel_rfl) (by kernel_rfl) (by kernel_rfl) (fun _ _ _ h => h) (yieldsIf_load_mid (by rfl) 45 _ rfl g (o + p * 33) rfl (chA bb).toList _ (fun v hv => ch_in (hv.2.1) HBP.out) Try.underlying45 rfl (by kernel_rfl)) hHeld ?_
                        try simp only [Act.put, List.setIfInBounds_toArray, List.set_cons_zero, List.set_cons_succ]
                        refine wpAnyH_ready (rs := [8]) (by kernel_rfl) (by simp) ?_
                        refine AllReadyH.cons (at_list rfl) (fun K hK => ?_) AllReadyH.nil
                        go_simp
                        refine (rbetter9_any ⟨me, true⟩ bb _ OM.out OB.out).mono ?_
                        rintro e v2 ⟨rfl, hv2⟩
                        rw [HBB.out]
                        go_wp2_with fail
                        refine hK.out _ _ ?_ (fun hHeld2 => ?_)
                        · exact ⟨bstep hHeld.1 hv2, (hHeld.2.1).keptB hv2, (hHeld.2.2.1).keptB hv2, (hHeld.2.2.2.1).keptB hv2, trivial⟩
                        clear hK K hHeld
                        have hHeld := hHeld2
                        clear hHeld2 hv2
                        try simp only [Act.put, List.setIfInBounds_toArray, List.set_cons_zero, List.set_cons_succ]
                        refine wpAnyH_take (i := 9) (v := .bool true) (at_list rfl) (by kernel_rfl) (by kernel_rfl) (by kernel_rfl) (fun _ _ _ h => h) (Or.inl ⟨by rfl, ?_⟩) hHeld ?_
                        · intro v hSv
                          clear hHeld
                          go_simp
                        try simp only [Act.put, List.setIfInBounds_toArray, List.set_cons_zero, List.set_cons_succ]
                        refine wpAnyH_done (by kernel_rfl) ?_ _
                        refine NoPanic.normal ?_
                        have HB := Lib.hid hHeld.1
                        have CI := Lib.hid hHeld.2.1
                        have K9 := Lib.hid hHeld.2.2.1
                        have K10 := Lib.hid hHeld.2.2.2.1
                        clear hHeld
                        go_wp2
                        go_ret
                        exact ⟨ret_int9 HX.out.symm, HB.out⟩
                · have d6 : decide (0 < me.q1) = false := decide_eq_false t6
                  have HQ : Hid (¬ (0 < me.q1 ∧ me.q1 < 128)) := by rw [Hid]; omega
                  clear t6
                  go_upto_region 11 with fail
                  clear x2 x32
                  go_wp2_with fail
                  refine (rall9_in _ l _ HO.out (by have := HN.out; have := HLN.out; omega) CI.out).mono ?_
                  rintro e c1 ⟨rfl, hc1⟩
                  replace CI := Lib.hid ((CI.out).keptB hc1)
                  replace K9 := Lib.hid ((K9.out).keptB hc1)
                  replace K10 := Lib.hid ((K10.out).keptB hc1)
                  replace HB := Lib.hid (bstep HB.out hc1)
                  clear hc1
                  rcases allN_spec l with ⟨ha, _⟩ | ⟨p, bb, ha, hb, _⟩
                  · have HX : Hid (decideN me l (q : Int) st = 2) := dec_lead HI.out HRQ.out HD.out HQ.out (by rw [ha]; omega)
                    rw [ha]
                    clear ha
                    go_wp2
                    refine wp_region_noPanic ?_
                    refine wp_region_held_drew (S := fun v => Below w.heap.size w v ∧ ChsIn v (.slice (some ⟨g, o, none⟩) n c) l ∧ Holds v gK9 45 (chA ⟨me, true⟩) ∧ Holds v gK10 45 (chA r) ∧ True) (by kernel_rfl) ?_ (fun hHeld => ?_)
                    · exact ⟨bdrew HB.out, (CI.out).drew, (K9.out).drew, (K10.out).drew, trivial⟩
                    clear HB CI K9 K10
                    refine wpAnyH_take (i := 0) (v := .int .i64 (-1)) (at_list rfl) (by kernel_rfl) (by kernel_rfl) (by kernel_rfl) (fun _ _ _ h => h) (Or.inl ⟨by rfl, ?_⟩) hHeld ?_
                    · intro v hSv
                      clear hHeld
                      go_simp
                    try simp only [Act.put, List.setIfInBounds_toArray, List.set_cons_zero, List.set_cons_succ]
                    refine wpAnyH_take (i := 1) (v := .bool true) (at_list rfl) (by kernel_rfl) (by kernel_rfl) (by kernel_rfl) (fun _ _ _ h => h) (Or.inl ⟨by rfl, ?_⟩) hHeld ?_
                    · intro v hSv
                      clear hHeld
                      go_simp
                    try simp only [Act.put, List.setIfInBounds_toArray, List.set_cons_zero, List.set_cons_succ]
                    refine wpAnyH_take (i := 2) (v := .bool true) (at_list rfl) (by kernel_rfl) (by kernel_rfl) (by kernel_rfl) (fun _ _ _ h => h) (Or.inl ⟨by rfl, ?_⟩) hHeld ?_
                    · intro v hSv
                      clear hHeld
                      go_simp
                    try simp only [Act.put, List.setIfInBounds_toArray, List.set_cons_zero, List.set_cons_succ]
                    refine wpAnyH_take (i := 3) (v := undef) (at_list rfl) (by kernel_rfl) (by kernel_rfl) (by kernel_rfl) (fun _ _ _ h => h) (Or.inr ⟨by rfl, rfl⟩) hHeld ?_
                    try simp only [Act.put, List.setIfInBounds_toArray, List.set_cons_zero, List.set_cons_succ]
                    refine wpAnyH_take (i := 4) (v := undef) (at_list rfl) (by kernel_rfl) (by kernel_rfl) (by kernel_rfl) (fun _ _ _ h => h) (Or.inr ⟨by rfl, rfl⟩) hHeld ?_
                    try simp only [Act.put, List.setIfInBounds_toArray, List.set_cons_zero, List.set_cons_succ]
                    refine wpAnyH_take (i := 5) (v := undef) (at_list rfl) (by kernel_rfl) (by kernel_rfl) (by kernel_rfl) (fun _ _ _ h => h) (Or.inr ⟨by rfl, rfl⟩) hHeld ?_
                    try simp only [Act.put, List.setIfInBounds_toArray, List.set_cons_zero, List.set_cons_succ]
                    refine wpAnyH_take (i := 6) (v := undef) (at_list rfl) (by kernel_rfl) (by kernel_rfl) (by kernel_rfl) (fun _ _ _ h => h) (Or.inr ⟨by rfl, rfl⟩) hHeld ?_
                    try simp only [Act.put, List.setIfInBounds_toArray, List.set_cons_zero, List.set_cons_succ]
                    refine wpAnyH_take (i := 7) (v := undef) (at_list rfl) (by kernel_rfl) (by kernel_rfl) (by kernel_rfl) (fun _ _ _ h => h) (Or.inr ⟨by rfl, rfl⟩) hHeld ?_
                    try simp only [Act.put, List.setIfInBounds_toArray, List.set_cons_zero, List.set_cons_succ]
                    refine wpAnyH_take (i := 8) (v := undef) (at_list rfl) (by kernel_rfl) (by kernel_rfl) (by kernel_rfl) (fun _ _ _ h => h) (Or.inr ⟨by rfl, rfl⟩) hHeld ?_
                    try simp only [Act.put, List.setIfInBounds_toArray, List.set_cons_zero, List.set_cons_succ]
                    refine wpAnyH_take (i := 9) (v := .bool true) (at_list rfl) (by kernel_rfl) (by kernel_rfl) (by kernel_rfl) (fun _ _ _ h => h) (Or.inl ⟨by rfl, ?_⟩) hHeld ?_
                    · intro v hSv
                      clear hHeld
                      go_simp
                    try simp only [Act.put, List.setIfInBounds_toArray, List.set_cons_zero, List.set_cons_succ]
                    refine wpAnyH_done (by kernel_rfl) ?_ _
                    refine NoPanic.normal ?_
                    have HB := Lib.hid hHeld.1
                    have CI := Lib.hid hHeld.2.1
                    have K9 := Lib.hid hHeld.2.2.1
                    have K10 := Lib.hid hHeld.2.2.2.1
                    clear hHeld
                    go_wp2
                    go_ret
                    exact ⟨ret_int9 HX.out.symm, HB.out⟩
                  · rw [ha]
                    have HBP := Lib.hid hb
                    have HPN : Hid (p < n) := by rw [Hid, ← HLN.out]; exact (List.getElem?_eq_some_iff.1 hb).1
                    have OB := Lib.hid (HO.out bb (List.mem_of_getElem? hb))
                    have HX0 := Lib.hid (dec_best HI.out HRQ.out HD.out HQ.out ha hb)
                    clear ha hb
                    cases hbb : betterB ⟨me, true⟩ bb
                    · have HBB := Lib.hid hbb
                      clear hbb
                      go_wp2
                      refine wp_region_noPanic ?_
                      refine wp_region_held_drew (S := fun v => Below w.heap.size w v ∧ ChsIn v (.slice (some ⟨g, o, none⟩) n c) l ∧ Holds v gK9 45 (chA ⟨me, true⟩) ∧ Holds v gK10 45 (chA r) ∧ True) (by kernel_rfl) ?_ (fun hHeld => ?_)
                      · exact ⟨bdrew HB.out, (CI.out).drew, (K9.out).drew, (K10.out).drew, trivial⟩
                      clear HB CI K9 K10
                      refine wpAnyH_take (i := 0) (v := .int .i64 p) (at_list rfl) (by kernel_rfl) (by kernel_rfl) (by kernel_rfl) (fun _ _ _ h => h) (Or.inl ⟨by rfl, ?_⟩) hHeld ?_
                      · intro v hSv
                        clear hHeld
                        go_simp
                      try simp only [Act.put, List.setIfInBounds_toArray, List.set_cons_zero, List.set_cons_succ]
                      refine wpAnyH_take (i := 1) (v := .bool false) (at_list rfl) (by kernel_rfl) (by kernel_rfl) (by kernel_rfl) (fun _ _ _ h => h) (Or.inl ⟨by rfl, ?_⟩) hHeld ?_
                      · intro v hSv
                        clear hHeld
                        go_simp
                        all_goals omega
                      try simp only [Act.put, List.setIfInBounds_toArray, List.set_cons_zero, List.set_cons_succ]
                      refine wpAnyH_take (i := 2) (v := .bool false) (at_list rfl) (by kernel_rfl) (by kernel_rfl) (by kernel_rfl) (fun _ _ _ h => h) (Or.inl ⟨by rfl, ?_⟩) hHeld ?_
                      · intro v hSv
                        clear hHeld
                        go_simp
                      try simp only [Act.put, List.setIfInBounds_toArray, List.set_cons_zero, List.set_cons_succ]
                      refine wpAnyH_take (i := 3) (v := .agg (chA ⟨me, true⟩)) (at_list rfl) (by kernel_rfl) (by kernel_rfl) (by kernel_rfl) (fun _ _ _ h => h) (yields_whole (by rfl) 45 _ rfl gK9 rfl (fun v hv => hv.2.2.1) Try.underlying45 rfl (by kernel_rfl)) hHeld ?_
                      try simp only [Act.put, List.setIfInBounds_toArray, List.set_cons_zero, List.set_cons_succ]
                      refine wpAnyH_take (i := 4) (v := .slice (some ⟨g, o, none⟩) n c) (at_list rfl) (by kernel_rfl) (by kernel_rfl) (by kernel_rfl) (fun _ _ _ h => h) (Or.inl ⟨by rfl, ?_⟩) hHeld ?_
                      · intro v hSv
                        clear hHeld
                        go_simp
                      try simp only [Act.put, List.setIfInBounds_toArray, List.set_cons_zero, List.set_cons_succ]
                      refine wpAnyH_take (i := 5) (v := .int .i64 p) (at_list rfl) (by kernel_rfl) (by kernel_rfl) (by kernel_rfl) (fun _ _ _ h => h) (Or.inl ⟨by rfl, ?_⟩) hHeld ?_
                      · intro v hSv
                        clear hHeld
                        go_simp
                      try simp only [Act.put, List.setIfInBounds_toArray, List.set_cons_zero, List.set_cons_succ]
                      refine wpAnyH_take (i := 6) (v := .pointer (some ⟨g, o + p * 33, none⟩)) (at_list rfl) (by kernel_rfl) (by kernel_rfl) (by kernel_rfl) (fun _ _ _ h => h) (yields_index (by rfl) 30 _ _ rfl g o n c p 33 rfl rfl HPN.out Try.underlying30 (by kernel_rfl)) hHeld ?_
                      try simp only [Act.put, List.setIfInBounds_toArray, List.set_cons_zero, List.set_cons_succ]
                      refine wpAnyH_take (i := 7) (v := .agg (chA bb)) (at_list rfl) (by kernel_rfl) (by kernel_rfl) (by kernel_rfl) (fun _ _ _ h => h) (yieldsIf_load_mid (by rfl) 45 _ rfl g (o + p * 33) rfl (chA bb).toList _ (fun v hv => ch_in (hv.2.1) HBP.out) Try.underlying45 rfl (by kernel_rfl)) hHeld ?_
                      try simp only [Act.put, List.setIfInBounds_toArray, List.set_cons_zero, List.set_cons_succ]
                      refine wpAnyH_ready (rs := [8]) (by kernel_rfl) (by simp) ?_
                      refine AllReadyH.cons (at_list rfl) (fun K hK => ?_) AllReadyH.nil
                      go_simp
                      refine (rbetter9_any ⟨me, true⟩ bb _ OM.out OB.out).mono ?_
                      rintro e v2 ⟨rfl, hv2⟩
                      rw [HBB.out]
                      go_wp2_with fail
                      refine hK.out _ _ ?_ (fun hHeld2 => ?_)
                      · exact ⟨bstep hHeld.1 hv2, (hHeld.2.1).keptB hv2, (hHeld.2.2.1).keptB hv2, (hHeld.2.2.2.1).keptB hv2, trivial⟩
                      clear hK K hHeld
                      have hHeld := hHeld2
                      clear hHeld2 hv2
                      try simp only [Act.put, List.setIfInBounds_toArray, List.set_cons_zero, List.set_cons_succ]
                      refine wpAnyH_take (i := 9) (v := .bool false) (at_list rfl) (by kernel_rfl) (by kernel_rfl) (by kernel_rfl) (fun _ _ _ h => h) (Or.inl ⟨by rfl, ?_⟩) hHeld ?_
                      · intro v hSv
                        clear hHeld
                        go_simp
                      try simp only [Act.put, List.setIfInBounds_toArray, List.set_cons_zero, List.set_cons_succ]
                      refine wpAnyH_done (by kernel_rfl) ?_ _
                      refine NoPanic.normal ?_
                      have HB := Lib.hid hHeld.1
                      have CI := Lib.hid hHeld.2.1
                      have K9 := Lib.hid hHeld.2.2.1
                      have K10 := Lib.hid hHeld.2.2.2.1
                      clear hHeld
                      by_cases hpq : p = q
                      · have HX : Hid (decideN me l (q : Int) st = 4) := by rw [Hid, HX0.out, HBB.out, if_neg (by decide), if_pos hpq]
                        have dq : ((p : Int) == (q : Int)) = true := by simp [hpq]
                        clear hpq HX0
                        go_wp2
                        go_ret
                        exact ⟨ret_int9 HX.out.symm, HB.out⟩
                      · cases hw : bywayB bb r
                        · have HW := Lib.hid hw
                          have HX : Hid (decideN me l (q : Int) st = 3) := by rw [Hid, HX0.out, HBB.out, if_neg (by decide), if_neg hpq, hw]; rfl
                          have dq : ((p : Int) == (q : Int)) = false := by simp; omega
                          clear hpq hw HX0
                          go_wp2
                          refine wp_region_noPanic ?_
                          refine wp_region_held_drew (S := fun v => Below w.heap.size w v ∧ ChsIn v (.slice (some ⟨g, o, none⟩) n c) l ∧ Holds v gK9 45 (chA ⟨me, true⟩) ∧ Holds v gK10 45 (chA r) ∧ True) (by kernel_rfl) ?_ (fun hHeld => ?_)
                          · exact ⟨bdrew HB.out, (CI.out).drew, (K9.out).drew, (K10.out).drew, trivial⟩
                          clear HB CI K9 K10
                          refine wpAnyH_take (i := 0) (v := .slice (some ⟨g, o, none⟩) n c) (at_list rfl) (by kernel_rfl) (by kernel_rfl) (by kernel_rfl) (fun _ _ _ h => h) (Or.inl ⟨by rfl, ?_⟩) hHeld ?_
                          · intro v hSv
                            clear hHeld
                            go_simp
                          try simp only [Act.put, List.setIfInBounds_toArray, List.set_cons_zero, List.set_cons_succ]
                          refine wpAnyH_take (i := 1) (v := .int .i64 p) (at_list rfl) (by kernel_rfl) (by kernel_rfl) (by kernel_rfl) (fun _ _ _ h => h) (Or.inl ⟨by rfl, ?_⟩) hHeld ?_
                          · intro v hSv
                            clear hHeld
                            go_simp
                          try simp only [Act.put, List.setIfInBounds_toArray, List.set_cons_zero, List.set_cons_succ]
                          refine wpAnyH_take (i := 2) (v := .pointer (some ⟨g, o + p * 33, none⟩)) (at_list rfl) (by kernel_rfl) (by kernel_rfl) (by kernel_rfl) (fun _ _ _ h => h) (yields_index (by rfl) 30 _ _ rfl g o n c p 33 rfl rfl HPN.out Try.underlying30 (by kernel_rfl)) hHeld ?_
                          try simp only [Act.put, List.setIfInBounds_toArray, List.set_cons_zero, List.set_cons_succ]
                          refine wpAnyH_take (i := 3) (v := .agg (chA bb)) (at_list rfl) (by kernel_rfl) (by kernel_rfl) (by kernel_rfl) (fun _ _ _ h => h) (yieldsIf_load_mid (by rfl) 45 _ rfl g (o + p * 33) rfl (chA bb).toList _ (fun v hv => ch_in (hv.2.1) HBP.out) Try.underlying45 rfl (by kernel_rfl)) hHeld ?_
                          try simp only [Act.put, List.setIfInBounds_toArray, List.set_cons_zero, List.set_cons_succ]
                          refine wpAnyH_take (i := 4) (v := .agg (chA r)) (at_list rfl) (by kernel_rfl) (by kernel_rfl) (by kernel_rfl) (fun _ _ _ h => h) (yields_whole (by rfl) 45 _ rfl gK10 rfl (fun v hv => hv.2.2.2.1) Try.underlying45 rfl (by kernel_rfl)) hHeld ?_
                          try simp only [Act.put, List.setIfInBounds_toArray, List.set_cons_zero, List.set_cons_succ]
                          refine wpAnyH_ready (rs := [5]) (by kernel_rfl) (by simp) ?_
                          refine AllReadyH.cons (at_list rfl) (fun K hK => ?_) AllReadyH.nil
                          go_simp
                          refine (rbyway9_any bb r _ OB.out OR.out).mono ?_
                          rintro e v2 ⟨rfl, hv2⟩
                          rw [HW.out]
                          go_wp2_with fail
                          refine hK.out _ _ ?_ (fun hHeld2 => ?_)
                          · exact ⟨bstep hHeld.1 hv2, (hHeld.2.1).keptB hv2, (hHeld.2.2.1).keptB hv2, (hHeld.2.2.2.1).keptB hv2, trivial⟩
                          clear hK K hHeld
                          have hHeld := hHeld2
                          clear hHeld2 hv2
                          try simp only [Act.put, List.setIfInBounds_toArray, List.set_cons_zero, List.set_cons_succ]
                          refine wpAnyH_done (by kernel_rfl) ?_ _
                          refine NoPanic.normal ?_
                          have HB := Lib.hid hHeld.1
                          have CI := Lib.hid hHeld.2.1
                          have K9 := Lib.hid hHeld.2.2.1
                          have K10 := Lib.hid hHeld.2.2.2.1
                          clear hHeld
                          go_wp2
                          go_ret
                          exact ⟨ret_int9 HX.out.symm, HB.out⟩
                        · have HW := Lib.hid hw
                          have HX : Hid (decideN me l (q : Int) st = 6) := by rw [Hid, HX0.out, HBB.out, if_neg (by decide), if_neg hpq, hw]; rfl
                          have dq : ((p : Int) == (q : Int)) = false := by simp; omega
                          clear hpq hw HX0
                          go_wp2
                          refine wp_region_noPanic ?_
                          refine wp_region_held_drew (S := fun v => Below w.heap.size w v ∧ ChsIn v (.slice (some ⟨g, o, none⟩) n c) l ∧ Holds v gK9 45 (chA ⟨me, true⟩) ∧ Holds v gK10 45 (chA r) ∧ True) (by kernel_rfl) ?_ (fun hHeld => ?_)
                          · exact ⟨bdrew HB.out, (CI.out).drew, (K9.out).drew, (K10.out).drew, trivial⟩
                          clear HB CI K9 K10
                          refine wpAnyH_take (i := 0) (v := .slice (some ⟨g, o, none⟩) n c) (at_list rfl) (by kernel_rfl) (by kernel_rfl) (by kernel_rfl) (fun _ _ _ h => h) (Or.inl ⟨by rfl, ?_⟩) hHeld ?_
                          · intro v hSv
                            clear hHeld
                            go_simp
                          try simp only [Act.put, List.setIfInBounds_toArray, List.set_cons_zero, List.set_cons_succ]
                          refine wpAnyH_take (i := 1) (v := .int .i64 p) (at_list rfl) (by kernel_rfl) (by kernel_rfl) (by kernel_rfl) (fun _ _ _ h => h) (Or.inl ⟨by rfl, ?_⟩) hHeld ?_
                          · intro v hSv
                            clear hHeld
                            go_simp
                          try simp only [Act.put, List.setIfInBounds_toArray, List.set_cons_zero, List.set_cons_succ]
                          refine wpAnyH_take (i := 2) (v := .pointer (some ⟨g, o + p * 33, none⟩)) (at_list rfl) (by kernel_rfl) (by kernel_rfl) (by kernel_rfl) (fun _ _ _ h => h) (yields_index (by rfl) 30 _ _ rfl g o n c p 33 rfl rfl HPN.out Try.underlying30 (by kernel_rfl)) hHeld ?_
                          try simp only [Act.put, List.setIfInBounds_toArray, List.set_cons_zero, List.set_cons_succ]
                          refine wpAnyH_take (i := 3) (v := .agg (chA bb)) (at_list rfl) (by kernel_rfl) (by kernel_rfl) (by kernel_rfl) (fun _ _ _ h => h) (yieldsIf_load_mid (by rfl) 45 _ rfl g (o + p * 33) rfl (chA bb).toList _ (fun v hv => ch_in (hv.2.1) HBP.out) Try.underlying45 rfl (by kernel_rfl)) hHeld ?_
                          try simp only [Act.put, List.setIfInBounds_toArray, List.set_cons_zero, List.set_cons_succ]
                          refine wpAnyH_take (i := 4) (v := .agg (chA r)) (at_list rfl) (by kernel_rfl) (by kernel_rfl) (by kernel_rfl) (fun _ _ _ h => h) (yields_whole (by rfl) 45 _ rfl gK10 rfl (fun v hv => hv.2.2.2.1) Try.underlying45 rfl (by kernel_rfl)) hHeld ?_
                          try simp only [Act.put, List.setIfInBounds_toArray, List.set_cons_zero, List.set_cons_succ]
                          refine wpAnyH_ready (rs := [5]) (by kernel_rfl) (by simp) ?_
                          refine AllReadyH.cons (at_list rfl) (fun K hK => ?_) AllReadyH.nil
                          go_simp
                          refine (rbyway9_any bb r _ OB.out OR.out).mono ?_
                          rintro e v2 ⟨rfl, hv2⟩
                          rw [HW.out]
                          go_wp2_with fail
                          refine hK.out _ _ ?_ (fun hHeld2 => ?_)
                          · exact ⟨bstep hHeld.1 hv2, (hHeld.2.1).keptB hv2, (hHeld.2.2.1).keptB hv2, (hHeld.2.2.2.1).keptB hv2, trivial⟩
                          clear hK K hHeld
                          have hHeld := hHeld2
                          clear hHeld2 hv2
                          try simp only [Act.put, List.setIfInBounds_toArray, List.set_cons_zero, List.set_cons_succ]
                          refine wpAnyH_done (by kernel_rfl) ?_ _
                          refine NoPanic.normal ?_
                          have HB := Lib.hid hHeld.1
                          have CI := Lib.hid hHeld.2.1
                          have K9 := Lib.hid hHeld.2.2.1
                          have K10 := Lib.hid hHeld.2.2.2.1
                          clear hHeld
                          go_wp2
                          go_ret
                          exact ⟨ret_int9 HX.out.symm, HB.out⟩
                    · have HBB := Lib.hid hbb
                      have HX : Hid (decideN me l (q : Int) st = 2) := by rw [Hid, HX0.out, hbb]; rfl
                      clear hbb HX0
                      go_wp2
                      refine wp_region_noPanic ?_
                      refine wp_region_held_drew (S := fun v => Below w.heap.size w v ∧ ChsIn v (.slice (some ⟨g, o, none⟩) n c) l ∧ Holds v gK9 45 (chA ⟨me, true⟩) ∧ Holds v gK10 45 (chA r) ∧ True) (by kernel_rfl) ?_ (fun hHeld => ?_)
                      · exact ⟨bdrew HB.out, (CI.out).drew, (K9.out).drew, (K10.out).drew, trivial⟩
                      clear HB CI K9 K10
                      refine wpAnyH_take (i := 0) (v := .int .i64 p) (at_list rfl) (by kernel_rfl) (by kernel_rfl) (by kernel_rfl) (fun _ _ _ h => h) (Or.inl ⟨by rfl, ?_⟩) hHeld ?_
                      · intro v hSv
                        clear hHeld
                        go_simp
                      try simp only [Act.put, List.setIfInBounds_toArray, List.set_cons_zero, List.set_cons_succ]
                      refine wpAnyH_take (i := 1) (v := .bool false) (at_list rfl) (by kernel_rfl) (by kernel_rfl) (by kernel_rfl) (fun _ _ _ h => h) (Or.inl ⟨by rfl, ?_⟩) hHeld ?_
                      · intro v hSv
                        clear hHeld
                        go_simp
                        all_goals omega
                      try simp only [Act.put, List.setIfInBounds_toArray, List.set_cons_zero, List.set_cons_succ]
                      refine wpAnyH_take (i := 2) (v := .bool false) (at_list rfl) (by kernel_rfl) (by kernel_rfl) (by kernel_rfl) (fun _ _ _ h => h) (Or.inl ⟨by rfl, ?_⟩) hHeld ?_
                      · intro v hSv
                        clear hHeld
                        go_simp
                      try simp only [Act.put, List.setIfInBounds_toArray, List.set_cons_zero, List.set_cons_succ]
                      refine wpAnyH_take (i := 3) (v := .agg (chA ⟨me, true⟩)) (at_list rfl) (by kernel_rfl) (by kernel_rfl) (by kernel_rfl) (fun _ _ _ h => h) (yields_whole (by rfl) 45 _ rfl gK9 rfl (fun v hv => hv.2.2.1) Try.underlying45 rfl (by kernel_rfl)) hHeld ?_
                      try simp only [Act.put, List.setIfInBounds_toArray, List.set_cons_zero, List.set_cons_succ]
                      refine wpAnyH_take (i := 4) (v := .slice (some ⟨g, o, none⟩) n c) (at_list rfl) (by kernel_rfl) (by kernel_rfl) (by kernel_rfl) (fun _ _ _ h => h) (Or.inl ⟨by rfl, ?_⟩) hHeld ?_
                      · intro v hSv
                        clear hHeld
                        go_simp
                      try simp only [Act.put, List.setIfInBounds_toArray, List.set_cons_zero, List.set_cons_succ]
                      refine wpAnyH_take (i := 5) (v := .int .i64 p) (at_list rfl) (by kernel_rfl) (by kernel_rfl) (by kernel_rfl) (fun _ _ _ h => h) (Or.inl ⟨by rfl, ?_⟩) hHeld ?_
                      · intro v hSv
                        clear hHeld
                        go_simp
                      try simp only [Act.put, List.setIfInBounds_toArray, List.set_cons_zero, List.set_cons_succ]
                      refine wpAnyH_take (i := 6) (v := .pointer (some ⟨g, o + p * 33, none⟩)) (at_list rfl) (by kernel_rfl) (by kernel_rfl) (by kernel_rfl) (fun _ _ _ h => h) (yields_index (by rfl) 30 _ _ rfl g o n c p 33 rfl rfl HPN.out Try.underlying30 (by kernel_rfl)) hHeld ?_
                      try simp only [Act.put, List.setIfInBounds_toArray, List.set_cons_zero, List.set_cons_succ]
                      refine wpAnyH_take (i := 7) (v := .agg (chA bb)) (at_list rfl) (by kernel_rfl) (by kernel_rfl) (by kernel_rfl) (fun _ _ _ h => h) (yieldsIf_load_mid (by rfl) 45 _ rfl g (o + p * 33) rfl (chA bb).toList _ (fun v hv => ch_in (hv.2.1) HBP.out) Try.underlying45 rfl (by kernel_rfl)) hHeld ?_
                      try simp only [Act.put, List.setIfInBounds_toArray, List.set_cons_zero, List.set_cons_succ]
                      refine wpAnyH_ready (rs := [8]) (by kernel_rfl) (by simp) ?_
                      refine AllReadyH.cons (at_list rfl) (fun K hK => ?_) AllReadyH.nil
                      go_simp
                      refine (rbetter9_any ⟨me, true⟩ bb _ OM.out OB.out).mono ?_
                      rintro e v2 ⟨rfl, hv2⟩
                      rw [HBB.out]
                      go_wp2_with fail
                      refine hK.out _ _ ?_ (fun hHeld2 => ?_)
                      · exact ⟨bstep hHeld.1 hv2, (hHeld.2.1).keptB hv2, (hHeld.2.2.1).keptB hv2, (hHeld.2.2.2.1).keptB hv2, trivial⟩
                      clear hK K hHeld
                      have hHeld := hHeld2
                      clear hHeld2 hv2
                      try simp only [Act.put, List.setIfInBounds_toArray, List.set_cons_zero, List.set_cons_succ]
                      refine wpAnyH_take (i := 9) (v := .bool true) (at_list rfl) (by kernel_rfl) (by kernel_rfl) (by kernel_rfl) (fun _ _ _ h => h) (Or.inl ⟨by rfl, ?_⟩) hHeld ?_
                      · intro v hSv
                        clear hHeld
                        go_simp
                      try simp only [Act.put, List.setIfInBounds_toArray, List.set_cons_zero, List.set_cons_succ]
                      refine wpAnyH_done (by kernel_rfl) ?_ _
                      refine NoPanic.normal ?_
                      have HB := Lib.hid hHeld.1
                      have CI := Lib.hid hHeld.2.1
                      have K9 := Lib.hid hHeld.2.2.1
                      have K10 := Lib.hid hHeld.2.2.2.1
                      clear hHeld
                      go_wp2
                      go_ret
                      exact ⟨ret_int9 HX.out.symm, HB.out⟩
            · have d5 : (st == 4) = false := by simpa using t5
              have HD : Hid (¬ (st = 4 ∧ r.is = false)) := by rw [Hid]; rintro ⟨h, _⟩; exact t5 h
              clear t5
              by_cases t6 : 0 < me.q1
              · have d6 : decide (0 < me.q1) = true := decide_eq_true t6
                by_cases t7 : me.q1 < 128
                · have d7 : decide (me.q1 < 128) = true := decide_eq_true t7
                  have HQ : Hid (0 < me.q1 ∧ me.q1 < 128) := ⟨t6, t7⟩
                  clear t6 t7
                  go_upto_region 8 with fail
                  clear x2 x32
                  go_wp2_with (first | (refine big_whole rfl 45 _ rfl gK9 rfl K9.out Try.underlying45 rfl (by kernel_rfl) ?_; try simp only [Act.put, List.setIfInBounds_toArray, List.set_cons_zero, List.set_cons_succ]) | (refine big_whole rfl 45 _ rfl gK10 rfl K10.out Try.underlying45 rfl (by kernel_rfl) ?_; try simp only [Act.put, List.setIfInBounds_toArray, List.set_cons_zero, List.set_cons_succ]))
                  cases hb : betterB ⟨me, true⟩ r
                  · have HX : Hid (decideN me l (q : Int) st = 5) := by rw [Hid, dec_grand HI.out HRQ.out HD.out HQ.out, hb]; rfl
                    have HBB := Lib.hid hb
                    clear hb
                    refine (rbetter9_any ⟨me, true⟩ r _ OM.out OR.out).mono ?_
                    rintro e c1 ⟨rfl, hc1⟩
                    replace K4 := Lib.hid ((K4.out).keptB hc1)
                    replace HB := Lib.hid (bstep HB.out hc1)
                    clear hc1
                    rw [HBB.out]
                    go_wp2
                    go_ret
                    exact ⟨ret_int9 HX.out.symm, HB.out⟩
                  · have HX : Hid (decideN me l (q : Int) st = 1) := by rw [Hid, dec_grand HI.out HRQ.out HD.out HQ.out, hb]; rfl
                    have HBB := Lib.hid hb
                    clear hb
                    refine (rbetter9_any ⟨me, true⟩ r _ OM.out OR.out).mono ?_
                    rintro e c1 ⟨rfl, hc1⟩
                    replace K4 := Lib.hid ((K4.out).keptB hc1)
                    replace HB := Lib.hid (bstep HB.out hc1)
                    clear hc1
                    rw [HBB.out]
                    go_wp2
                    go_ret
                    exact ⟨ret_int9 HX.out.symm, HB.out⟩
                · have d7 : decide (me.q1 < 128) = false := decide_eq_false t7
                  have HQ : Hid (¬ (0 < me.q1 ∧ me.q1 < 128)) := by rw [Hid]; omega
                  clear t6 t7
                  go_upto_region 11 with fail
                  clear x2 x32
                  go_wp2_with fail
                  refine (rall9_in _ l _ HO.out (by have := HN.out; have := HLN.out; omega) CI.out).mono ?_
                  rintro e c1 ⟨rfl, hc1⟩
                  replace CI := Lib.hid ((CI.out).keptB hc1)
                  replace K9 := Lib.hid ((K9.out).keptB hc1)
                  replace K10 := Lib.hid ((K10.out).keptB hc1)
                  replace HB := Lib.hid (bstep HB.out hc1)
                  clear hc1
                  rcases allN_spec l with ⟨ha, _⟩ | ⟨p, bb, ha, hb, _⟩
                  · have HX : Hid (decideN me l (q : Int) st = 2) := dec_lead HI.out HRQ.out HD.out HQ.out (by rw [ha]; omega)
                    rw [ha]
                    clear ha
                    go_wp2
                    refine wp_region_noPanic ?_
                    refine wp_region_held_drew (S := fun v => Below w.heap.size w v ∧ ChsIn v (.slice (some ⟨g, o, none⟩) n c) l ∧ Holds v gK9 45 (chA ⟨me, true⟩) ∧ Holds v gK10 45 (chA r) ∧ True) (by kernel_rfl) ?_ (fun hHeld => ?_)
                    · exact ⟨bdrew HB.out, (CI.out).drew, (K9.out).drew, (K10.out).drew, trivial⟩
                    clear HB CI K9 K10
                    refine wpAnyH_take (i := 0) (v := .int .i64 (-1)) (at_list rfl) (by kernel_rfl) (by kernel_rfl) (by kernel_rfl) (fun _ _ _ h => h) (Or.inl ⟨by rfl, ?_⟩) hHeld ?_
                    · intro v hSv
                      clear hHeld
                      go_simp
                    try simp only [Act.put, List.setIfInBounds_toArray, List.set_cons_zero, List.set_cons_succ]
                    refine wpAnyH_take (i := 1) (v := .bool true) (at_list rfl) (by kernel_rfl) (by kernel_rfl) (by kernel_rfl) (fun _ _ _ h => h) (Or.inl ⟨by rfl, ?_⟩) hHeld ?_
                    · intro v hSv
                      clear hHeld
                      go_simp
                    try simp only [Act.put, List.setIfInBounds_toArray, List.set_cons_zero, List.set_cons_succ]
                    refine wpAnyH_take (i := 2) (v := .bool true) (at_list rfl) (by kernel_rfl) (by kernel_rfl) (by kernel_rfl) (fun _ _ _ h => h) (Or.inl ⟨by rfl, ?_⟩) hHeld ?_
                    · intro v hSv
                      clear hHeld
                      go_simp
                    try simp only [Act.put, List.setIfInBounds_toArray, List.set_cons_zero, List.set_cons_succ]
                    refine wpAnyH_take (i := 3) (v := undef) (at_list rfl) (by kernel_rfl) (by kernel_rfl) (by kernel_rfl) (fun _ _ _ h => h) (Or.inr ⟨by rfl, rfl⟩) hHeld ?_
                    try simp only [Act.put, List.setIfInBounds_toArray, List.set_cons_zero, List.set_cons_succ]
                    refine wpAnyH_take (i := 4) (v := undef) (at_list rfl) (by kernel_rfl) (by kernel_rfl) (by kernel_rfl) (fun _ _ _ h => h) (Or.inr ⟨by rfl, rfl⟩) hHeld ?_
                    try simp only [Act.put, List.setIfInBounds_toArray, List.set_cons_zero, List.set_cons_succ]
                    refine wpAnyH_take (i := 5) (v := undef) (at_list rfl) (by kernel_rfl) (by kernel_rfl) (by kernel_rfl) (fun _ _ _ h => h) (Or.inr ⟨by rfl, rfl⟩) hHeld ?_
                    try simp only [Act.put, List.setIfInBounds_toArray, List.set_cons_zero, List.set_cons_succ]
                    refine wpAnyH_take (i := 6) (v := undef) (at_list rfl) (by kernel_rfl) (by kernel_rfl) (by kernel_rfl) (fun _ _ _ h => h) (Or.inr ⟨by rfl, rfl⟩) hHeld ?_
                    try simp only [Act.put, List.setIfInBounds_toArray, List.set_cons_zero, List.set_cons_succ]
                    refine wpAnyH_take (i := 7) (v := undef) (at_list rfl) (by kernel_rfl) (by kernel_rfl) (by kernel_rfl) (fun _ _ _ h => h) (Or.inr ⟨by rfl, rfl⟩) hHeld ?_
                    try simp only [Act.put, List.setIfInBounds_toArray, List.set_cons_zero, List.set_cons_succ]
                    refine wpAnyH_take (i := 8) (v := undef) (at_list rfl) (by kernel_rfl) (by kernel_rfl) (by kernel_rfl) (fun _ _ _ h => h) (Or.inr ⟨by rfl, rfl⟩) hHeld ?_
                    try simp only [Act.put, List.setIfInBounds_toArray, List.set_cons_zero, List.set_cons_succ]
                    refine wpAnyH_take (i := 9) (v := .bool true) (at_list rfl) (by kernel_rfl) (by kernel_rfl) (by kernel_rfl) (fun _ _ _ h => h) (Or.inl ⟨by rfl, ?_⟩) hHeld ?_
                    · intro v hSv
                      clear hHeld
                      go_simp
                    try simp only [Act.put, List.setIfInBounds_toArray, List.set_cons_zero, List.set_cons_succ]
                    refine wpAnyH_done (by kernel_rfl) ?_ _
                    refine NoPanic.normal ?_
                    have HB := Lib.hid hHeld.1
                    have CI := Lib.hid hHeld.2.1
                    have K9 := Lib.hid hHeld.2.2.1
                    have K10 := Lib.hid hHeld.2.2.2.1
                    clear hHeld
                    go_wp2
                    go_ret
                    exact ⟨ret_int9 HX.out.symm, HB.out⟩
                  · rw [ha]
                    have HBP := Lib.hid hb
                    have HPN : Hid (p < n) := by rw [Hid, ← HLN.out]; exact (List.getElem?_eq_some_iff.1 hb).1
                    have OB := Lib.hid (HO.out bb (List.mem_of_getElem? hb))
                    have HX0 := Lib.hid (dec_best HI.out HRQ.out HD.out HQ.out ha hb)
                    clear ha hb
                    cases hbb : betterB ⟨me, true⟩ bb
                    · have HBB := Lib.hid hbb
                      clear hbb
                      go_wp2
                      refine wp_region_noPanic ?_
                      refine wp_region_held_drew (S := fun v => Below w.heap.size w v ∧ ChsIn v (.slice (some ⟨g, o, none⟩) n c) l ∧ Holds v gK9 45 (chA ⟨me, true⟩) ∧ Holds v gK10 45 (chA r) ∧ True) (by kernel_rfl) ?_ (fun hHeld => ?_)
                      · exact ⟨bdrew HB.out, (CI.out).drew, (K9.out).drew, (K10.out).drew, trivial⟩
                      clear HB CI K9 K10
                      refine wpAnyH_take (i := 0) (v := .int .i64 p) (at_list rfl) (by kernel_rfl) (by kernel_rfl) (by kernel_rfl) (fun _ _ _ h => h) (Or.inl ⟨by rfl, ?_⟩) hHeld ?_
                      · intro v hSv
                        clear hHeld
                        go_simp
                      try simp only [Act.put, List.setIfInBounds_toArray, List.set_cons_zero, List.set_cons_succ]
                      refine wpAnyH_take (i := 1) (v := .bool false) (at_list rfl) (by kernel_rfl) (by kernel_rfl) (by kernel_rfl) (fun _ _ _ h => h) (Or.inl ⟨by rfl, ?_⟩) hHeld ?_
                      · intro v hSv
                        clear hHeld
                        go_simp
                        all_goals omega
                      try simp only [Act.put, List.setIfInBounds_toArray, List.set_cons_zero, List.set_cons_succ]
                      refine wpAnyH_take (i := 2) (v := .bool false) (at_list rfl) (by kernel_rfl) (by kernel_rfl) (by kernel_rfl) (fun _ _ _ h => h) (Or.inl ⟨by rfl, ?_⟩) hHeld ?_
                      · intro v hSv
                        clear hHeld
                        go_simp
                      try simp only [Act.put, List.setIfInBounds_toArray, List.set_cons_zero, List.set_cons_succ]
                      refine wpAnyH_take (i := 3) (v := .agg (chA ⟨me, true⟩)) (at_list rfl) (by kernel_rfl) (by kernel_rfl) (by kernel_rfl) (fun _ _ _ h => h) (yields_whole (by rfl) 45 _ rfl gK9 rfl (fun v hv => hv.2.2.1) Try.underlying45 rfl (by kernel_rfl)) hHeld ?_
                      try simp only [Act.put, List.setIfInBounds_toArray, List.set_cons_zero, List.set_cons_succ]
                      refine wpAnyH_take (i := 4) (v := .slice (some ⟨g, o, none⟩) n c) (at_list rfl) (by kernel_rfl) (by kernel_rfl) (by kernel_rfl) (fun _ _ _ h => h) (Or.inl ⟨by rfl, ?_⟩) hHeld ?_
                      · intro v hSv
                        clear hHeld
                        go_simp
                      try simp only [Act.put, List.setIfInBounds_toArray, List.set_cons_zero, List.set_cons_succ]
                      refine wpAnyH_take (i := 5) (v := .int .i64 p) (at_list rfl) (by kernel_rfl) (by kernel_rfl) (by kernel_rfl) (fun _ _ _ h => h) (Or.inl ⟨by rfl, ?_⟩) hHeld ?_
                      · intro v hSv
                        clear hHeld
                        go_simp
                      try simp only [Act.put, List.setIfInBounds_toArray, List.set_cons_zero, List.set_cons_succ]
                      refine wpAnyH_take (i := 6) (v := .pointer (some ⟨g, o + p * 33, none⟩)) (at_list rfl) (by kernel_rfl) (by kernel_rfl) (by kernel_rfl) (fun _ _ _ h => h) (yields_index (by rfl) 30 _ _ rfl g o n c p 33 rfl rfl HPN.out Try.underlying30 (by kernel_rfl)) hHeld ?_
                      try simp only [Act.put, List.setIfInBounds_toArray, List.set_cons_zero, List.set_cons_succ]
                      refine wpAnyH_take (i := 7) (v := .agg (chA bb)) (at_list rfl) (by kernel_rfl) (by kernel_rfl) (by kernel_rfl) (fun _ _ _ h => h) (yieldsIf_load_mid (by rfl) 45 _ rfl g (o + p * 33) rfl (chA bb).toList _ (fun v hv => ch_in (hv.2.1) HBP.out) Try.underlying45 rfl (by kernel_rfl)) hHeld ?_
                      try simp only [Act.put, List.setIfInBounds_toArray, List.set_cons_zero, List.set_cons_succ]
                      refine wpAnyH_ready (rs := [8]) (by kernel_rfl) (by simp) ?_
                      refine AllReadyH.cons (at_list rfl) (fun K hK => ?_) AllReadyH.nil
                      go_simp
                      refine (rbetter9_any ⟨me, true⟩ bb _ OM.out OB.out).mono ?_
                      rintro e v2 ⟨rfl, hv2⟩
                      rw [HBB.out]
                      go_wp2_with fail
                      refine hK.out _ _ ?_ (fun hHeld2 => ?_)
                      · exact ⟨bstep hHeld.1 hv2, (hHeld.2.1).keptB hv2, (hHeld.2.2.1).keptB hv2, (hHeld.2.2.2.1).keptB hv2, trivial⟩
                      clear hK K hHeld
                      have hHeld := hHeld2
                      clear hHeld2 hv2
                      try simp only [Act.put, List.setIfInBounds_toArray, List.set_cons_zero, List.set_cons_succ]
                      refine wpAnyH_take (i := 9) (v := .bool false) (at_list rfl) (by kernel_rfl) (by kernel_rfl) (by kernel_rfl) (fun _ _ _ h => h) (Or.inl ⟨by rfl, ?_⟩) hHeld ?_
                      · intro v hSv
                        clear hHeld
                        go_simp
                      try simp only [Act.put, List.setIfInBounds_toArray, List.set_cons_zero, List.set_cons_succ]
                      refine wpAnyH_done (by kernel_rfl) ?_ _
                      refine NoPanic.normal ?_
                      have HB := Lib.hid hHeld.1
                      have CI := Lib.hid hHeld.2.1
                      have K9 := Lib.hid hHeld.2.2.1
                      have K10 := Lib.hid hHeld.2.2.2.1
                      clear hHeld
                      by_cases hpq : p = q
                      · have HX : Hid (decideN me l (q : Int) st = 4) := by rw [Hid, HX0.out, HBB.out, if_neg (by decide), if_pos hpq]
                        have dq : ((p : Int) == (q : Int)) = true := by simp [hpq]
                        clear hpq HX0
                        go_wp2
                        go_ret
                        exact ⟨ret_int9 HX.out.symm, HB.out⟩
                      · cases hw : bywayB bb r
                        · have HW := Lib.hid hw
                          have HX : Hid (decideN me l (q : Int) st = 3) := by rw [Hid, HX0.out, HBB.out, if_neg (by decide), if_neg hpq, hw]; rfl
                          have dq : ((p : Int) == (q : Int)) = false := by simp; omega
                          clear hpq hw HX0
                          go_wp2
                          refine wp_region_noPanic ?_
                          refine wp_region_held_drew (S := fun v => Below w.heap.size w v ∧ ChsIn v (.slice (some ⟨g, o, none⟩) n c) l ∧ Holds v gK9 45 (chA ⟨me, true⟩) ∧ Holds v gK10 45 (chA r) ∧ True) (by kernel_rfl) ?_ (fun hHeld => ?_)
                          · exact ⟨bdrew HB.out, (CI.out).drew, (K9.out).drew, (K10.out).drew, trivial⟩
                          clear HB CI K9 K10
                          refine wpAnyH_take (i := 0) (v := .slice (some ⟨g, o, none⟩) n c) (at_list rfl) (by kernel_rfl) (by kernel_rfl) (by kernel_rfl) (fun _ _ _ h => h) (Or.inl ⟨by rfl, ?_⟩) hHeld ?_
                          · intro v hSv
                            clear hHeld
                            go_simp
                          try simp only [Act.put, List.setIfInBounds_toArray, List.set_cons_zero, List.set_cons_succ]
                          refine wpAnyH_take (i := 1) (v := .int .i64 p) (at_list rfl) (by kernel_rfl) (by kernel_rfl) (by kernel_rfl) (fun _ _ _ h => h) (Or.inl ⟨by rfl, ?_⟩) hHeld ?_
                          · intro v hSv
                            clear hHeld
                            go_simp
                          try simp only [Act.put, List.setIfInBounds_toArray, List.set_cons_zero, List.set_cons_succ]
                          refine wpAnyH_take (i := 2) (v := .pointer (some ⟨g, o + p * 33, none⟩)) (at_list rfl) (by kernel_rfl) (by kernel_rfl) (by kernel_rfl) (fun _ _ _ h => h) (yields_index (by rfl) 30 _ _ rfl g o n c p 33 rfl rfl HPN.out Try.underlying30 (by kernel_rfl)) hHeld ?_
                          try simp only [Act.put, List.setIfInBounds_toArray, List.set_cons_zero, List.set_cons_succ]
                          refine wpAnyH_take (i := 3) (v := .agg (chA bb)) (at_list rfl) (by kernel_rfl) (by kernel_rfl) (by kernel_rfl) (fun _ _ _ h => h) (yieldsIf_load_mid (by rfl) 45 _ rfl g (o + p * 33) rfl (chA bb).toList _ (fun v hv => ch_in (hv.2.1) HBP.out) Try.underlying45 rfl (by kernel_rfl)) hHeld ?_
                          try simp only [Act.put, List.setIfInBounds_toArray, List.set_cons_zero, List.set_cons_succ]
                          refine wpAnyH_take (i := 4) (v := .agg (chA r)) (at_list rfl) (by kernel_rfl) (by kernel_rfl) (by kernel_rfl) (fun _ _ _ h => h) (yields_whole (by rfl) 45 _ rfl gK10 rfl (fun v hv => hv.2.2.2.1) Try.underlying45 rfl (by kernel_rfl)) hHeld ?_
                          try simp only [Act.put, List.setIfInBounds_toArray, List.set_cons_zero, List.set_cons_succ]
                          refine wpAnyH_ready (rs := [5]) (by kernel_rfl) (by simp) ?_
                          refine AllReadyH.cons (at_list rfl) (fun K hK => ?_) AllReadyH.nil
                          go_simp
                          refine (rbyway9_any bb r _ OB.out OR.out).mono ?_
                          rintro e v2 ⟨rfl, hv2⟩
                          rw [HW.out]
                          go_wp2_with fail
                          refine hK.out _ _ ?_ (fun hHeld2 => ?_)
                          · exact ⟨bstep hHeld.1 hv2, (hHeld.2.1).keptB hv2, (hHeld.2.2.1).keptB hv2, (hHeld.2.2.2.1).keptB hv2, trivial⟩
                          clear hK K hHeld
                          have hHeld := hHeld2
                          clear hHeld2 hv2
                          try simp only [Act.put, List.setIfInBounds_toArray, List.set_cons_zero, List.set_cons_succ]
                          refine wpAnyH_done (by kernel_rfl) ?_ _
                          refine NoPanic.normal ?_
                          have HB := Lib.hid hHeld.1
                          have CI := Lib.hid hHeld.2.1
                          have K9 := Lib.hid hHeld.2.2.1
                          have K10 := Lib.hid hHeld.2.2.2.1
                          clear hHeld
                          go_wp2
                          go_ret
                          exact ⟨ret_int9 HX.out.symm, HB.out⟩
                        · have HW := Lib.hid hw
                          have HX : Hid (decideN me l (q : Int) st = 6) := by rw [Hid, HX0.out, HBB.out, if_neg (by decide), if_neg hpq, hw]; rfl
                          have dq : ((p : Int) == (q : Int)) = false := by simp; omega
                          clear hpq hw HX0
                          go_wp2
                          refine wp_region_noPanic ?_
                          refine wp_region_held_drew (S := fun v => Below w.heap.size w v ∧ ChsIn v (.slice (some ⟨g, o, none⟩) n c) l ∧ Holds v gK9 45 (chA ⟨me, true⟩) ∧ Holds v gK10 45 (chA r) ∧ True) (by kernel_rfl) ?_ (fun hHeld => ?_)
                          · exact ⟨bdrew HB.out, (CI.out).drew, (K9.out).drew, (K10.out).drew, trivial⟩
                          clear HB CI K9 K10
                          refine wpAnyH_take (i := 0) (v := .slice (some ⟨g, o, none⟩) n c) (at_list rfl) (by kernel_rfl) (by kernel_rfl) (by kernel_rfl) (fun _ _ _ h => h) (Or.inl ⟨by rfl, ?_⟩) hHeld ?_
                          · intro v hSv
                            clear hHeld
                            go_simp
                          try simp only [Act.put, List.setIfInBounds_toArray, List.set_cons_zero, List.set_cons_succ]
                          refine wpAnyH_take (i := 1) (v := .int .i64 p) (at_list rfl) (by kernel_rfl) (by kernel_rfl) (by kernel_rfl) (fun _ _ _ h => h) (Or.inl ⟨by rfl, ?_⟩) hHeld ?_
                          · intro v hSv
                            clear hHeld
                            go_simp
                          try simp only [Act.put, List.setIfInBounds_toArray, List.set_cons_zero, List.set_cons_succ]
                          refine wpAnyH_take (i := 2) (v := .pointer (some ⟨g, o + p * 33, none⟩)) (at_list rfl) (by kernel_rfl) (by kernel_rfl) (by kernel_rfl) (fun _ _ _ h => h) (yields_index (by rfl) 30 _ _ rfl g o n c p 33 rfl rfl HPN.out Try.underlying30 (by kernel_rfl)) hHeld ?_
                          try simp only [Act.put, List.setIfInBounds_toArray, List.set_cons_zero, List.set_cons_succ]
                          refine wpAnyH_take (i := 3) (v := .agg (chA bb)) (at_list rfl) (by kernel_rfl) (by kernel_rfl) (by kernel_rfl) (fun _ _ _ h => h) (yieldsIf_load_mid (by rfl) 45 _ rfl g (o + p * 33) rfl (chA bb).toList _ (fun v hv => ch_in (hv.2.1) HBP.out) Try.underlying45 rfl (by kernel_rfl)) hHeld ?_
                          try simp only [Act.put, List.setIfInBounds_toArray, List.set_cons_zero, List.set_cons_succ]
                          refine wpAnyH_take (i := 4) (v := .agg (chA r)) (at_list rfl) (by kernel_rfl) (by kernel_rfl) (by kernel_rfl) (fun _ _ _ h => h) (yields_whole (by rfl) 45 _ rfl gK10 rfl (fun v hv => hv.2.2.2.1) Try.underlying45 rfl (by kernel_rfl)) hHeld ?_
                          try simp only [Act.put, List.setIfInBounds_toArray, List.set_cons_zero, List.set_cons_succ]
                          refine wpAnyH_ready (rs := [5]) (by kernel_rfl) (by simp) ?_
                          refine AllReadyH.cons (at_list rfl) (fun K hK => ?_) AllReadyH.nil
                          go_simp
                          refine (rbyway9_any bb r _ OB.out OR.out).mono ?_
                          rintro e v2 ⟨rfl, hv2⟩
                          rw [HW.out]
                          go_wp2_with fail
                          refine hK.out _ _ ?_ (fun hHeld2 => ?_)
                          · exact ⟨bstep hHeld.1 hv2, (hHeld.2.1).keptB hv2, (hHeld.2.2.1).keptB hv2, (hHeld.2.2.2.1).keptB hv2, trivial⟩
                          clear hK K hHeld
                          have hHeld := hHeld2
                          clear hHeld2 hv2
                          try simp only [Act.put, List.setIfInBounds_toArray, List.set_cons_zero, List.set_cons_succ]
                          refine wpAnyH_done (by kernel_rfl) ?_ _
                          refine NoPanic.normal ?_
                          have HB := Lib.hid hHeld.1
                          have CI := Lib.hid hHeld.2.1
                          have K9 := Lib.hid hHeld.2.2.1
                          have K10 := Lib.hid hHeld.2.2.2.1
                          clear hHeld
                          go_wp2
                          go_ret
                          exact ⟨ret_int9 HX.out.symm, HB.out⟩
                    · have HBB := Lib.hid hbb
                      have HX : Hid (decideN me l (q : Int) st = 2) := by rw [Hid, HX0.out, hbb]; rfl
                      clear hbb HX0
                      go_wp2
                      refine wp_region_noPanic ?_
                      refine wp_region_held_drew (S := fun v => Below w.heap.size w v ∧ ChsIn v (.slice (some ⟨g, o, none⟩) n c) l ∧ Holds v gK9 45 (chA ⟨me, true⟩) ∧ Holds v gK10 45 (chA r) ∧ True) (by kernel_rfl) ?_ (fun hHeld => ?_)
                      · exact ⟨bdrew HB.out, (CI.out).drew, (K9.out).drew, (K10.out).drew, trivial⟩
                      clear HB CI K9 K10
                      refine wpAnyH_take (i := 0) (v := .int .i64 p) (at_list rfl) (by kernel_rfl) (by kernel_rfl) (by kernel_rfl) (fun _ _ _ h => h) (Or.inl ⟨by rfl, ?_⟩) hHeld ?_
                      · intro v hSv
                        clear hHeld
                        go_simp
                      try simp only [Act.put, List.setIfInBounds_toArray, List.set_cons_zero, List.set_cons_succ]
                      refine wpAnyH_take (i := 1) (v := .bool false) (at_list rfl) (by kernel_rfl) (by kernel_rfl) (by kernel_rfl) (fun _ _ _ h => h) (Or.inl ⟨by rfl, ?_⟩) hHeld ?_
                      · intro v hSv
                        clear hHeld
                        go_simp
                        all_goals omega
                      try simp only [Act.put, List.setIfInBounds_toArray, List.set_cons_zero, List.set_cons_succ]
                      refine wpAnyH_take (i := 2) (v := .bool false) (at_list rfl) (by kernel_rfl) (by kernel_rfl) (by kernel_rfl) (fun _ _ _ h => h) (Or.inl ⟨by rfl, ?_⟩) hHeld ?_
                      · intro v hSv
                        clear hHeld
                        go_simp
                      try simp only [Act.put, List.setIfInBounds_toArray, List.set_cons_zero, List.set_cons_succ]
                      refine wpAnyH_take (i := 3) (v := .agg (chA ⟨me, true⟩)) (at_list rfl) (by kernel_rfl) (by kernel_rfl) (by kernel_rfl) (fun _ _ _ h => h) (yields_whole (by rfl) 45 _ rfl gK9 rfl (fun v hv => hv.2.2.1) Try.underlying45 rfl (by kernel_rfl)) hHeld ?_
                      try simp only [Act.put, List.setIfInBounds_toArray, List.set_cons_zero, List.set_cons_succ]
                      refine wpAnyH_take (i := 4) (v := .slice (some ⟨g, o, none⟩) n c) (at_list rfl) (by kernel_rfl) (by kernel_rfl) (by kernel_rfl) (fun _ _ _ h => h) (Or.inl ⟨by rfl, ?_⟩) hHeld ?_
                      · intro v hSv
                        clear hHeld
                        go_simp
                      try simp only [Act.put, List.setIfInBounds_toArray, List.set_cons_zero, List.set_cons_succ]
                      refine wpAnyH_take (i := 5) (v := .int .i64 p) (at_list rfl) (by kernel_rfl) (by kernel_rfl) (by kernel_rfl) (fun _ _ _ h => h) (Or.inl ⟨by rfl, ?_⟩) hHeld ?_
                      · intro v hSv
                        clear hHeld
                        go_simp
                      try simp only [Act.put, List.setIfInBounds_toArray, List.set_cons_zero, List.set_cons_succ]
                      refine wpAnyH_take (i := 6) (v := .pointer (some ⟨g, o + p * 33, none⟩)) (at_list rfl) (by kernel_rfl) (by kernel_rfl) (by kernel_rfl) (fun _ _ _ h => h) (yields_index (by rfl) 30 _ _ rfl g o n c p 33 rfl rfl HPN.out Try.underlying30 (by kernel_rfl)) hHeld ?_
                      try simp only [Act.put, List.setIfInBounds_toArray, List.set_cons_zero, List.set_cons_succ]
                      refine wpAnyH_take (i := 7) (v := .agg (chA bb)) (at_list rfl) (by kernel_rfl) (by kernel_rfl) (by kernel_rfl) (fun _ _ _ h => h) (yieldsIf_load_mid (by rfl) 45 _ rfl g (o + p * 33) rfl (chA bb).toList _ (fun v hv => ch_in (hv.2.1) HBP.out) Try.underlying45 rfl (by kernel_rfl)) hHeld ?_
                      try simp only [Act.put, List.setIfInBounds_toArray, List.set_cons_zero, List.set_cons_succ]
                      refine wpAnyH_ready (rs := [8]) (by kernel_rfl) (by simp) ?_
                      refine AllReadyH.cons (at_list rfl) (fun K hK => ?_) AllReadyH.nil
                      go_simp
                      refine (rbetter9_any ⟨me, true⟩ bb _ OM.out OB.out).mono ?_
                      rintro e v2 ⟨rfl, hv2⟩
                      rw [HBB.out]
                      go_wp2_with fail
                      refine hK.out _ _ ?_ (fun hHeld2 => ?_)
                      · exact ⟨bstep hHeld.1 hv2, (hHeld.2.1).keptB hv2, (hHeld.2.2.1).keptB hv2, (hHeld.2.2.2.1).keptB hv2, trivial⟩
                      clear hK K hHeld
                      have hHeld := hHeld2
                      clear hHeld2 hv2
                      try simp only [Act.put, List.setIfInBounds_toArray, List.set_cons_zero, List.set_cons_succ]
                      refine wpAnyH_take (i := 9) (v := .bool true) (at_list rfl) (by kernel_rfl) (by kernel_rfl) (by kernel_rfl) (fun _ _ _ h => h) (Or.inl ⟨by rfl, ?_⟩) hHeld ?_
                      · intro v hSv
                        clear hHeld
                        go_simp
                      try simp only [Act.put, List.setIfInBounds_toArray, List.set_cons_zero, List.set_cons_succ]
                      refine wpAnyH_done (by kernel_rfl) ?_ _
                      refine NoPanic.normal ?_
                      have HB := Lib.hid hHeld.1
                      have CI := Lib.hid hHeld.2.1
                      have K9 := Lib.hid hHeld.2.2.1
                      have K10 := Lib.hid hHeld.2.2.2.1
                      clear hHeld
                      go_wp2
                      go_ret
                      exact ⟨ret_int9 HX.out.symm, HB.out⟩
              · have d6 : decide (0 < me.q1) = false := decide_eq_false t6
                have HQ : Hid (¬ (0 < me.q1 ∧ me.q1 < 128)) := by rw [Hid]; omega
                clear t6
                go_upto_region 11 with fail
                clear x2 x32
                go_wp2_with fail
                refine (rall9_in _ l _ HO.out (by have := HN.out; have := HLN.out; omega) CI.out).mono ?_
                rintro e c1 ⟨rfl, hc1⟩
                replace CI := Lib.hid ((CI.out).keptB hc1)
                replace K9 := Lib.hid ((K9.out).keptB hc1)
                replace K10 := Lib.hid ((K10.out).keptB hc1)
                replace HB := Lib.hid (bstep HB.out hc1)
                clear hc1
                rcases allN_spec l with ⟨ha, _⟩ | ⟨p, bb, ha, hb, _⟩
                · have HX : Hid (decideN me l (q : Int) st = 2) := dec_lead HI.out HRQ.out HD.out HQ.out (by rw [ha]; omega)
                  rw [ha]
                  clear ha
                  go_wp2
                  refine wp_region_noPanic ?_
                  refine wp_region_held_drew (S := fun v => Below w.heap.size w v ∧ ChsIn v (.slice (some ⟨g, o, none⟩) n c) l ∧ Holds v gK9 45 (chA ⟨me, true⟩) ∧ Holds v gK10 45 (chA r) ∧ True) (by kernel_rfl) ?_ (fun hHeld => ?_)
                  · exact ⟨bdrew HB.out, (CI.out).drew, (K9.out).drew, (K10.out).drew, trivial⟩
                  clear HB CI K9 K10
                  refine wpAnyH_take (i := 0) (v := .int .i64 (-1)) (at_list rfl) (by kernel_rfl) (by kernel_rfl) (by kernel_rfl) (fun _ _ _ h => h) (Or.inl ⟨by rfl, ?_⟩) hHeld ?_
                  · intro v hSv
                    clear hHeld
                    go_simp
                  try simp only [Act.put, List.setIfInBounds_toArray, List.set_cons_zero, List.set_cons_succ]
                  refine wpAnyH_take (i := 1) (v := .bool true) (at_list rfl) (by kernel_rfl) (by kernel_rfl) (by kernel_rfl) (fun _ _ _ h => h) (Or.inl ⟨by rfl, ?_⟩) hHeld ?_
                  · intro v hSv
                    clear hHeld
                    go_simp
                  try simp only [Act.put, List.setIfInBounds_toArray, List.set_cons_zero, List.set_cons_succ]
                  refine wpAnyH_take (i := 2) (v := .bool true) (at_list rfl) (by kernel_rfl) (by kernel_rfl) (by kernel_rfl) (fun _ _ _ h => h) (Or.inl ⟨by rfl, ?_⟩) hHeld ?_
                  · intro v hSv
                    clear hHeld
                    go_simp
                  try simp only [Act.put, List.setIfInBounds_toArray, List.set_cons_zero, List.set_cons_succ]
                  refine wpAnyH_take (i := 3) (v := undef) (at_list rfl) (by kernel_rfl) (by kernel_rfl) (by kernel_rfl) (fun _ _ _ h => h) (Or.inr ⟨by rfl, rfl⟩) hHeld ?_
                  try simp only [Act.put, List.setIfInBounds_toArray, List.set_cons_zero, List.set_cons_succ]
                  refine wpAnyH_take (i := 4) (v := undef) (at_list rfl) (by kernel_rfl) (by kernel_rfl) (by kernel_rfl) (fun _ _ _ h => h) (Or.inr ⟨by rfl, rfl⟩) hHeld ?_
                  try simp only [Act.put, List.setIfInBounds_toArray, List.set_cons_zero, List.set_cons_succ]
                  refine wpAnyH_take (i := 5) (v := undef) (at_list rfl) (by kernel_rfl) (by kernel_rfl) (by kernel_rfl) (fun _ _ _ h => h) (Or.inr ⟨by rfl, rfl⟩) hHeld ?_
                  try simp only [Act.put, List.setIfInBounds_toArray, List.set_cons_zero, List.set_cons_succ]
                  refine wpAnyH_take (i := 6) (v := undef) (at_list rfl) (by kernel_rfl) (by kernel_rfl) (by kernel_rfl) (fun _ _ _ h => h) (Or.inr ⟨by rfl, rfl⟩) hHeld ?_
                  try simp only [Act.put, List.setIfInBounds_toArray, List.set_cons_zero, List.set_cons_succ]
                  refine wpAnyH_take (i := 7) (v := undef) (at_list rfl) (by kernel_rfl) (by kernel_rfl) (by kernel_rfl) (fun _ _ _ h => h) (Or.inr ⟨by rfl, rfl⟩) hHeld ?_
                  try simp only [Act.put, List.setIfInBounds_toArray, List.set_cons_zero, List.set_cons_succ]
                  refine wpAnyH_take (i := 8) (v := undef) (at_list rfl) (by kernel_rfl) (by kernel_rfl) (by kernel_rfl) (fun _ _ _ h => h) (Or.inr ⟨by rfl, rfl⟩) hHeld ?_
                  try simp only [Act.put, List.setIfInBounds_toArray, List.set_cons_zero, List.set_cons_succ]
                  refine wpAnyH_take (i := 9) (v := .bool true) (at_list rfl) (by kernel_rfl) (by kernel_rfl) (by kernel_rfl) (fun _ _ _ h => h) (Or.inl ⟨by rfl, ?_⟩) hHeld ?_
                  · intro v hSv
                    clear hHeld
                    go_simp
                  try simp only [Act.put, List.setIfInBounds_toArray, List.set_cons_zero, List.set_cons_succ]
                  refine wpAnyH_done (by kernel_rfl) ?_ _
                  refine NoPanic.normal ?_
                  have HB := Lib.hid hHeld.1
                  have CI := Lib.hid hHeld.2.1
                  have K9 := Lib.hid hHeld.2.2.1
                  have K10 := Lib.hid hHeld.2.2.2.1
                  clear hHeld
                  go_wp2
                  go_ret
                  exact ⟨ret_int9 HX.out.symm, HB.out⟩
                · rw [ha]
                  have HBP := Lib.hid hb
                  have HPN : Hid (p < n) := by rw [Hid, ← HLN.out]; exact (List.getElem?_eq_some_iff.1 hb).1
                  have OB := Lib.hid (HO.out bb (List.mem_of_getElem? hb))
                  have HX0 := Lib.hid (dec_best HI.out HRQ.out HD.out HQ.out ha hb)
                  clear ha hb
                  cases hbb : betterB ⟨me, true⟩ bb
                  · have HBB := Lib.hid hbb
                    clear hbb
                    go_wp2
                    refine wp_region_noPanic ?_
                    refine wp_region_held_drew (S := fun v => Below w.heap.size w v ∧ ChsIn v (.slice (some ⟨g, o, none⟩) n c) l ∧ Holds v gK9 45 (chA ⟨me, true⟩) ∧ Holds v gK10 45 (chA r) ∧ True) (by kernel_rfl) ?_ (fun hHeld => ?_)
                    · exact ⟨bdrew HB.out, (CI.out).drew, (K9.out).drew, (K10.out).drew, trivial⟩
                    clear HB CI K9 K10
                    refine wpAnyH_take (i := 0) (v := .int .i64 p) (at_list rfl) (by kernel_rfl) (by kernel_rfl) (by kernel_rfl) (fun _ _ _ h => h) (Or.inl ⟨by rfl, ?_⟩) hHeld ?_
                    · intro v hSv
                      clear hHeld
                      go_simp
                    try simp only [Act.put, List.setIfInBounds_toArray, List.set_cons_zero, List.set_cons_succ]
                    refine wpAnyH_take (i := 1) (v := .bool false) (at_list rfl) (by kernel_rfl) (by kernel_rfl) (by kernel_rfl) (fun _ _ _ h => h) (Or.inl ⟨by rfl, ?_⟩) hHeld ?_
                    · intro v hSv
                      clear hHeld
                      go_simp
                      all_goals omega
                    try simp only [Act.put, List.setIfInBounds_toArray, List.set_cons_zero, List.set_cons_succ]
                    refine wpAnyH_take (i := 2) (v := .bool false) (at_list rfl) (by kernel_rfl) (by kernel_rfl) (by kernel_rfl) (fun _ _ _ h => h) (Or.inl ⟨by rfl, ?_⟩) hHeld ?_
                    · intro v hSv
                      clear hHeld
                      go_simp
                    try simp only [Act.put, List.setIfInBounds_toArray, List.set_cons_zero, List.set_cons_succ]
                    refine wpAnyH_take (i := 3) (v := .agg (chA ⟨me, true⟩)) (at_list rfl) (by kernel_rfl) (by kernel_rfl) (by kernel_rfl) (fun _ _ _ h => h) (yields_whole (by rfl) 45 _ rfl gK9 rfl (fun v hv => hv.2.2.1) Try.underlying45 rfl (by kernel_rfl)) hHeld ?_
                    try simp only [Act.put, List.setIfInBounds_toArray, List.set_cons_zero, List.set_cons_succ]
                    refine wpAnyH_take (i := 4) (v := .slice (some ⟨g, o, none⟩) n c) (at_list rfl) (by kernel_rfl) (by kernel_rfl) (by kernel_rfl) (fun _ _ _ h => h) (Or.inl ⟨by rfl, ?_⟩) hHeld ?_
                    · intro v hSv
                      clear hHeld
                      go_simp
                    try simp only [Act.put, List.setIfInBounds_toArray, List.set_cons_zero, List.set_cons_succ]
                    refine wpAnyH_take (i := 5) (v := .int .i64 p) (at_list rfl) (by kernel_rfl) (by kernel_rfl) (by kernel_rfl) (fun _ _ _ h => h) (Or.inl ⟨by rfl, ?_⟩) hHeld ?_
                    · intro v hSv
                      clear hHeld
                      go_simp
                    try simp only [Act.put, List.setIfInBounds_toArray, List.set_cons_zero, List.set_cons_succ]
                    refine wpAnyH_take (i := 6) (v := .pointer (some ⟨g, o + p * 33, none⟩)) (at_list rfl) (by kernel_rfl) (by kernel_rfl) (by kernel_rfl) (fun _ _ _ h => h) (yields_index (by rfl) 30 _ _ rfl g o n c p 33 rfl rfl HPN.out Try.underlying30 (by kernel_rfl)) hHeld ?_
                    try simp only [Act.put, List.setIfInBounds_toArray, List.set_cons_zero, List.set_cons_succ]
                    refine wpAnyH_take (i := 7) (v := .agg (chA bb)) (at_list rfl) (by kernel_rfl) (by kernel_rfl) (by kernel_rfl) (fun _ _ _ h => h) (yieldsIf_load_mid (by rfl) 45 _ rfl g (o + p * 33) rfl (chA bb).toList _ (fun v hv => ch_in (hv.2.1) HBP.out) Try.underlying45 rfl (by kernel_rfl)) hHeld ?_
                    try simp only [Act.put, List.setIfInBounds_toArray, List.set_cons_zero, List.set_cons_succ]
                    refine wpAnyH_ready (rs := [8]) (by kernel_rfl) (by simp) ?_
                    refine AllReadyH.cons (at_list rfl) (fun K hK => ?_) AllReadyH.nil
                    go_simp
                    refine (rbetter9_any ⟨me, true⟩ bb _ OM.out OB.out).mono ?_
                    rintro e v2 ⟨rfl, hv2⟩
                    rw [HBB.out]
                    go_wp2_with fail
                    refine hK.out _ _ ?_ (fun hHeld2 => ?_)
                    · exact ⟨bstep hHeld.1 hv2, (hHeld.2.1).keptB hv2, (hHeld.2.2.1).keptB hv2, (hHeld.2.2.2.1).keptB hv2, trivial⟩
                    clear hK K hHeld
                    have hHeld := hHeld2
                    clear hHeld2 hv2
                    try simp only [Act.put, List.setIfInBounds_toArray, List.set_cons_zero, List.set_cons_succ]
                    refine wpAnyH_take (i := 9) (v := .bool false) (at_list rfl) (by kernel_rfl) (by kernel_rfl) (by kernel_rfl) (fun _ _ _ h => h) (Or.inl ⟨by rfl, ?_⟩) hHeld ?_
                    · intro v hSv
                      clear hHeld
                      go_simp
                    try simp only [Act.put, List.setIfInBounds_toArray, List.set_cons_zero, List.set_cons_succ]
                    refine wpAnyH_done (by kernel_rfl) ?_ _
                    refine NoPanic.normal ?_
                    have HB := Lib.hid hHeld.1
                    have CI := Lib.hid hHeld.2.1
                    have K9 := Lib.hid hHeld.2.2.1
                    have K10 := Lib.hid hHeld.2.2.2.1
                    clear hHeld
                    by_cases hpq : p = q
                    · have HX : Hid (decideN me l (q : Int) st = 4) := by rw [Hid, HX0.out, HBB.out, if_neg (by decide), if_pos hpq]
                      have dq : ((p : Int) == (q : Int)) = true := by simp [hpq]
                      clear hpq HX0
                      go_wp2
                      go_ret
                      exact ⟨ret_int9 HX.out.symm, HB.out⟩
                    · cases hw : bywayB bb r
                      · have HW := Lib.hid hw
                        have HX : Hid (decideN me l (q : Int) st = 3) := by rw [Hid, HX0.out, HBB.out, if_neg (by decide), if_neg hpq, hw]; rfl
                        have dq : ((p : Int) == (q : Int)) = false := by simp; omega
                        clear hpq hw HX0
                        go_wp2
                        refine wp_region_noPanic ?_
                        refine wp_region_held_drew (S := fun v => Below w.heap.size w v ∧ ChsIn v (.slice (some ⟨g, o, none⟩) n c) l ∧ Holds v gK9 45 (chA ⟨me, true⟩) ∧ Holds v gK10 45 (chA r) ∧ True) (by kernel_rfl) ?_ (fun hHeld => ?_)
                        · exact ⟨bdrew HB.out, (CI.out).drew, (K9.out).drew, (K10.out).drew, trivial⟩
                        clear HB CI K9 K10
                        refine wpAnyH_take (i := 0) (v := .slice (some ⟨g, o, none⟩) n c) (at_list rfl) (by kernel_rfl) (by kernel_rfl) (by kernel_rfl) (fun _ _ _ h => h) (Or.inl ⟨by rfl, ?_⟩) hHeld ?_
                        · intro v hSv
                          clear hHeld
                          go_simp
                        try simp only [Act.put, List.setIfInBounds_toArray, List.set_cons_zero, List.set_cons_succ]
                        refine wpAnyH_take (i := 1) (v := .int .i64 p) (at_list rfl) (by kernel_rfl) (by kernel_rfl) (by kernel_rfl) (fun _ _ _ h => h) (Or.inl ⟨by rfl, ?_⟩) hHeld ?_
                        · intro v hSv
                          clear hHeld
                          go_simp
                        try simp only [Act.put, List.setIfInBounds_toArray, List.set_cons_zero, List.set_cons_succ]
                        refine wpAnyH_take (i := 2) (v := .pointer (some ⟨g, o + p * 33, none⟩)) (at_list rfl) (by kernel_rfl) (by kernel_rfl) (by kernel_rfl) (fun _ _ _ h => h) (yields_index (by rfl) 30 _ _ rfl g o n c p 33 rfl rfl HPN.out Try.underlying30 (by kernel_rfl)) hHeld ?_
                        try simp only [Act.put, List.setIfInBounds_toArray, List.set_cons_zero, List.set_cons_succ]
                        refine wpAnyH_take (i := 3) (v := .agg (chA bb)) (at_list rfl) (by kernel_rfl) (by kernel_rfl) (by kernel_rfl) (fun _ _ _ h => h) (yieldsIf_load_mid (by rfl) 45 _ rfl g (o + p * 33) rfl (chA bb).toList _ (fun v hv => ch_in (hv.2.1) HBP.out) Try.underlying45 rfl (by kernel_rfl)) hHeld ?_
                        try simp only [Act.put, List.setIfInBounds_toArray, List.set_cons_zero, List.set_cons_succ]
                        refine wpAnyH_take (i := 4) (v := .agg (chA r)) (at_list rfl) (by kernel_rfl) (by kernel_rfl) (by kernel_rfl) (fun _ _ _ h => h) (yields_whole (by rfl) 45 _ rfl gK10 rfl (fun v hv => hv.2.2.2.1) Try.underlying45 rfl (by kernel_rfl)) hHeld ?_
                        try simp only [Act.put, List.setIfInBounds_toArray, List.set_cons_zero, List.set_cons_succ]
                        refine wpAnyH_ready (rs := [5]) (by kernel_rfl) (by simp) ?_
                        refine AllReadyH.cons (at_list rfl) (fun K hK => ?_) AllReadyH.nil
                        go_simp
                        refine (rbyway9_any bb r _ OB.out OR.out).mono ?_
                        rintro e v2 ⟨rfl, hv2⟩
                        rw [HW.out]
                        go_wp2_with fail
                        refine hK.out _ _ ?_ (fun hHeld2 => ?_)
                        · exact ⟨bstep hHeld.1 hv2, (hHeld.2.1).keptB hv2, (hHeld.2.2.1).keptB hv2, (hHeld.2.2.2.1).keptB hv2, trivial⟩
                        clear hK K hHeld
                        have hHeld := hHeld2
                        clear hHeld2 hv2
                        try simp only [Act.put, List.setIfInBounds_toArray, List.set_cons_zero, List.set_cons_succ]
                        refine wpAnyH_done (by kernel_rfl) ?_ _
                        refine NoPanic.normal ?_
                        have HB := Lib.hid hHeld.1
                        have CI := Lib.hid hHeld.2.1
                        have K9 := Lib.hid hHeld.2.2.1
                        have K10 := Lib.hid hHeld.2.2.2.1
                        clear hHeld
                        go_wp2
                        go_ret
                        exact ⟨ret_int9 HX.out.symm, HB.out⟩
                      · have HW := Lib.hid hw
                        have HX : Hid (decideN me l (q : Int) st = 6) := by rw [Hid, HX0.out, HBB.out, if_neg (by decide), if_neg hpq, hw]; rfl
                        have dq : ((p : Int) == (q : Int)) = false := by simp; omega
                        clear hpq hw HX0
                        go_wp2
                        refine wp_region_noPanic ?_
                        refine wp_region_held_drew (S := fun v => Below w.heap.size w v ∧ ChsIn v (.slice (some ⟨g, o, none⟩) n c) l ∧ Holds v gK9 45 (chA ⟨me, true⟩) ∧ Holds v gK10 45 (chA r) ∧ True) (by kernel_rfl) ?_ (fun hHeld => ?_)
                        · exact ⟨bdrew HB.out, (CI.out).drew, (K9.out).drew, (K10.out).drew, trivial⟩
                        clear HB CI K9 K10
                        refine wpAnyH_take (i := 0) (v := .slice (some ⟨g, o, none⟩) n c) (at_list rfl) (by kernel_rfl) (by kernel_rfl) (by kernel_rfl) (fun _ _ _ h => h) (Or.inl ⟨by rfl, ?_⟩) hHeld ?_
                        · intro v hSv
                          clear hHeld
                          go_simp
                        try simp only [Act.put, List.setIfInBounds_toArray, List.set_cons_zero, List.set_cons_succ]
                        refine wpAnyH_take (i := 1) (v := .int .i64 p) (at_list rfl) (by kernel_rfl) (by kernel_rfl) (by kernel_rfl) (fun _ _ _ h => h) (Or.inl ⟨by rfl, ?_⟩) hHeld ?_
                        · intro v hSv
                          clear hHeld
                          go_simp
                        try simp only [Act.put, List.setIfInBounds_toArray, List.set_cons_zero, List.set_cons_succ]
                        refine wpAnyH_take (i := 2) (v := .pointer (some ⟨g, o + p * 33, none⟩)) (at_list rfl) (by kernel_rfl) (by kernel_rfl) (by kernel_rfl) (fun _ _ _ h => h) (yields_index (by rfl) 30 _ _ rfl g o n c p 33 rfl rfl HPN.out Try.underlying30 (by kernel_rfl)) hHeld ?_
                        try simp only [Act.put, List.setIfInBounds_toArray, List.set_cons_zero, List.set_cons_succ]
                        refine wpAnyH_take (i := 3) (v := .agg (chA bb)) (at_list rfl) (by kernel_rfl) (by kernel_rfl) (by kernel_rfl) (fun _ _ _ h => h) (yieldsIf_load_mid (by rfl) 45 _ rfl g (o + p * 33) rfl (chA bb).toList _ (fun v hv => ch_in (hv.2.1) HBP.out) Try.underlying45 rfl (by kernel_rfl)) hHeld ?_
                        try simp only [Act.put, List.setIfInBounds_toArray, List.set_cons_zero, List.set_cons_succ]
                        refine wpAnyH_take (i := 4) (v := .agg (chA r)) (at_list rfl) (by kernel_rfl) (by kernel_rfl) (by kernel_rfl) (fun _ _ _ h => h) (yields_whole (by rfl) 45 _ rfl gK10 rfl (fun v hv => hv.2.2.2.1) Try.underlying45 rfl (by kernel_rfl)) hHeld ?_
                        try simp only [Act.put, List.setIfInBounds_toArray, List.set_cons_zero, List.set_cons_succ]
                        refine wpAnyH_ready (rs := [5]) (by kernel_rfl) (by simp) ?_
                        refine AllReadyH.cons (at_list rfl) (fun K hK => ?_) AllReadyH.nil
                        go_simp
                        refine (rbyway9_any bb r _ OB.out OR.out).mono ?_
                        rintro e v2 ⟨rfl, hv2⟩
                        rw [HW.out]
                        go_wp2_with fail
                        refine hK.out _ _ ?_ (fun hHeld2 => ?_)
                        · exact ⟨bstep hHeld.1 hv2, (hHeld.2.1).keptB hv2, (hHeld.2.2.1).keptB hv2, (hHeld.2.2.2.1).keptB hv2, trivial⟩
                        clear hK K hHeld
                        have hHeld := hHeld2
                        clear hHeld2 hv2
                        try simp only [Act.put, List.setIfInBounds_toArray, List.set_cons_zero, List.set_cons_succ]
                        refine wpAnyH_done (by kernel_rfl) ?_ _
                        refine NoPanic.normal ?_
                        have HB := Lib.hid hHeld.1
                        have CI := Lib.hid hHeld.2.1
                        have K9 := Lib.hid hHeld.2.2.1
                        have K10 := Lib.hid hHeld.2.2.2.1
                        clear hHeld
                        go_wp2
                        go_ret
                        exact ⟨ret_int9 HX.out.symm, HB.out⟩
                  · have HBB := Lib.hid hbb
                    have HX : Hid (decideN me l (q : Int) st = 2) := by rw [Hid, HX0.out, hbb]; rfl
                    clear hbb HX0
                    go_wp2
                    refine wp_region_noPanic ?_
                    refine wp_region_held_drew (S := fun v => Below w.heap.size w v ∧ ChsIn v (.slice (some ⟨g, o, none⟩) n c) l ∧ Holds v gK9 45 (chA ⟨me, true⟩) ∧ Holds v gK10 45 (chA r) ∧ True) (by kernel_rfl) ?_ (fun hHeld => ?_)
                    · exact ⟨bdrew HB.out, (CI.out).drew, (K9.out).drew, (K10.out).drew, trivial⟩
                    clear HB CI K9 K10
                    refine wpAnyH_take (i := 0) (v := .int .i64 p) (at_list rfl) (by kernel_rfl) (by kernel_rfl) (by kernel_rfl) (fun _ _ _ h => h) (Or.inl ⟨by rfl, ?_⟩) hHeld ?_
                    · intro v hSv
                      clear hHeld
                      go_simp
                    try simp only [Act.put, List.setIfInBounds_toArray, List.set_cons_zero, List.set_cons_succ]
                    refine wpAnyH_take (i := 1) (v := .bool false) (at_list rfl) (by kernel_rfl) (by kernel_rfl) (by kernel_rfl) (fun _ _ _ h => h) (Or.inl ⟨by rfl, ?_⟩) hHeld ?_
                    · intro v hSv
                      clear hHeld
                      go_simp
                      all_goals omega
                    try simp only [Act.put, List.setIfInBounds_toArray, List.set_cons_zero, List.set_cons_succ]
                    refine wpAnyH_take (i := 2) (v := .bool false) (at_list rfl) (by kernel_rfl) (by kernel_rfl) (by kernel_rfl) (fun _ _ _ h => h) (Or.inl ⟨by rfl, ?_⟩) hHeld ?_
                    · intro v hSv
                      clear hHeld
                      go_simp
                    try simp only [Act.put, List.setIfInBounds_toArray, List.set_cons_zero, List.set_cons_succ]
                    refine wpAnyH_take (i := 3) (v := .agg (chA ⟨me, true⟩)) (at_list rfl) (by kernel_rfl) (by kernel_rfl) (by kernel_rfl) (fun _ _ _ h => h) (yields_whole (by rfl) 45 _ rfl gK9 rfl (fun v hv => hv.2.2.1) Try.underlying45 rfl (by kernel_rfl)) hHeld ?_
                    try simp only [Act.put, List.setIfInBounds_toArray, List.set_cons_zero, List.set_cons_succ]
                    refine wpAnyH_take (i := 4) (v := .slice (some ⟨g, o, none⟩) n c) (at_list rfl) (by kernel_rfl) (by kernel_rfl) (by kernel_rfl) (fun _ _ _ h => h) (Or.inl ⟨by rfl, ?_⟩) hHeld ?_
                    · intro v hSv
                      clear hHeld
                      go_simp
                    try simp only [Act.put, List.setIfInBounds_toArray, List.set_cons_zero, List.set_cons_succ]
                    refine wpAnyH_take (i := 5) (v := .int .i64 p) (at_list rfl) (by kernel_rfl) (by kernel_rfl) (by kernel_rfl) (fun _ _ _ h => h) (Or.inl ⟨by rfl, ?_⟩) hHeld ?_
                    · intro v hSv
                      clear hHeld
                      go_simp
                    try simp only [Act.put, List.setIfInBounds_toArray, List.set_cons_zero, List.set_cons_succ]
                    refine wpAnyH_take (i := 6) (v := .pointer (some ⟨g, o + p * 33, none⟩)) (at_list rfl) (by kernel_rfl) (by kernel_rfl) (by kernel_rfl) (fun _ _ _ h => h) (yields_index (by rfl) 30 _ _ rfl g o n c p 33 rfl rfl HPN.out Try.underlying30 (by kernel_rfl)) hHeld ?_
                    try simp only [Act.put, List.setIfInBounds_toArray, List.set_cons_zero, List.set_cons_succ]
                    refine wpAnyH_take (i := 7) (v := .agg (chA bb)) (at_list rfl) (by kernel_rfl) (by kernel_rfl) (by kernel_rfl) (fun _ _ _ h => h) (yieldsIf_load_mid (by rfl) 45 _ rfl g (o + p * 33) rfl (chA bb).toList _ (fun v hv => ch_in (hv.2.1) HBP.out) Try.underlying45 rfl (by kernel_rfl)) hHeld ?_
                    try simp only [Act.put, List.setIfInBounds_toArray, List.set_cons_zero, List.set_cons_succ]
                    refine wpAnyH_ready (rs := [8]) (by kernel_rfl) (by simp) ?_
                    refine AllReadyH.cons (at_list rfl) (fun K hK => ?_) AllReadyH.nil
                    go_simp
                    refine (rbetter9_any ⟨me, true⟩ bb _ OM.out OB.out).mono ?_
                    rintro e v2 ⟨rfl, hv2⟩
                    rw [HBB.out]
                    go_wp2_with fail
                    refine hK.out _ _ ?_ (fun hHeld2 => ?_)
                    · exact ⟨bstep hHeld.1 hv2, (hHeld.2.1).keptB hv2, (hHeld.2.2.1).keptB hv2, (hHeld.2.2.2.1).keptB hv2, trivial⟩
                    clear hK K hHeld
                    have hHeld := hHeld2
                    clear hHeld2 hv2
                    try simp only [Act.put, List.setIfInBounds_toArray, List.set_cons_zero, List.set_cons_succ]
                    refine wpAnyH_take (i := 9) (v := .bool true) (at_list rfl) (by kernel_rfl) (by kernel_rfl) (by kernel_rfl) (fun _ _ _ h => h) (Or.inl ⟨by rfl, ?_⟩) hHeld ?_
                    · intro v hSv
                      clear hHeld
                      go_simp
                    try simp only [Act.put, List.setIfInBounds_toArray, List.set_cons_zero, List.set_cons_succ]
                    refine wpAnyH_done (by kernel_rfl) ?_ _
                    refine NoPanic.normal ?_
                    have HB := Lib.hid hHeld.1
                    have CI := Lib.hid hHeld.2.1
                    have K9 := Lib.hid hHeld.2.2.1
                    have K10 := Lib.hid hHeld.2.2.2.1
                    clear hHeld
                    go_wp2
                    go_ret
                    exact ⟨ret_int9 HX.out.symm, HB.out⟩

end Go.Proofs.Ytpdnfeooijmgoaa
