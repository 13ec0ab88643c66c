/- The walk over DecidePorts. -/
import Derived.Test.YtpdnfeooijmgoaaDecideAlive
import Derived.Test.YtpdnfeooijmgoaaDecidePortB
import Derived.Test.YtpdnfeooijmgoaaDecideRef2
import Derived.Test.YtpdnfeooijmgoaaMakeRow
import Derived.Deep.DeepCutAuto
import Derived.Deep.LoopGhost
import Derived.WalkMore
import Derived.Laws.OwnMore
namespace Go.Proofs.Ytpdnfeooijmgoaa
set_option maxRecDepth 100000
open Go.RowKit
set_option linter.unusedVariables false
set_option linter.unusedSimpArgs false

set_option maxHeartbeats 4000000 in
theorem decports10 (me : Rs) (A : Option Addr) (n c : Nat) (l : List Ch) (k st : Int) (w : World) (hm : me.ok) (hl : ChsOk w A n c l) :
    Calls Try.prog 4 #[.agg (rsA me), .slice A n c, .agg #[.int .i64 k, .int .i64 st]] w fun e w' => e = .returned (.bool true) ∧ Below w.heap.size w w' := by
  have OM := Lib.hid hm
  have SL := Lib.hid hl
  clear hm hl
  have HO := Lib.hid (SL.out).ok
  have HLN := Lib.hid (SL.out).len
  have HB := Lib.hid (Below.refl w.heap.size w)
  have CI : Hid (ChsIn w (.slice A n c) l) := ⟨A, n, c, rfl, (SL.out).len, (SL.out).at_⟩
  go_enter Try.func4, Try.ntmps4
  go_upto_region 1 with (first | (refine big_box rfl 40 _ rfl (#[.int .i64 k, .int .i64 st]) rfl (by kernel_rfl) ?_; intro gK5 wK5 hlK5 nK5 hbK5; have K5 := Lib.hid nK5; have LK5 := Lib.hid (Nat.le_trans (HB.out).size hlK5); have OCIK5 := Lib.hid ((CI.out).off hlK5); have OK3K5 := Lib.hid ((K3.out).off hlK5); replace CI := Lib.hid ((CI.out).keptB hbK5); replace K3 := Lib.hid ((K3.out).keptB hbK5); replace HB := Lib.hid (bstep HB.out hbK5); clear hlK5 nK5 hbK5; try simp only [Act.put, List.setIfInBounds_toArray, List.set_cons_zero, List.set_cons_succ]) | (refine big_box rfl 29 _ rfl (rsA me) rfl (by kernel_rfl) ?_; intro gK3 wK3 hlK3 nK3 hbK3; have K3 := Lib.hid nK3; have LK3 := Lib.hid (Nat.le_trans (HB.out).size hlK3); have OCIK3 := Lib.hid ((CI.out).off hlK3); replace CI := Lib.hid ((CI.out).keptB hbK3); replace HB := Lib.hid (bstep HB.out hbK3); clear hlK3 nK3 hbK3; try simp only [Act.put, List.setIfInBounds_toArray, List.set_cons_zero, List.set_cons_succ]))
  by_cases h1 : 60 < n
  · have d1 : decide ((60 : Int) < (n : Int)) = true := decide_eq_true (by omega)
    clear h1
    go_wp2_with fail
    refine (alive10_any _).mono ?_
    rintro e c1 ⟨rfl, hc1⟩
    replace K3 := Lib.hid ((K3.out).keptB hc1)
    replace HB := Lib.hid (bstep HB.out hc1)
    clear hc1
    go_wp2
    try rw [Exit.noGoto_ret]
    go_ret
    exact ⟨rfl, HB.out⟩
  · have d1 : decide ((60 : Int) < (n : Int)) = false := decide_eq_false (by omega)
    have HN : Hid (n ≤ 60) := by rw [Hid]; omega
    clear h1
    go_upto_region 3 with fail
    clear d1
    refine wp_region_noPanic ?_
    refine wp_region_held_drew (S := fun v => Below w.heap.size w v ∧ ChsIn v (.slice A n c) l ∧ Holds v gK3 29 (rsA me) ∧ Holds v gK5 40 (#[.int .i64 k, .int .i64 st]) ∧ True) (by kernel_rfl) ?_ (fun hHeld => ?_)
    · exact ⟨bdrew HB.out, (CI.out).drew, (K3.out).drew, (K5.out).drew, trivial⟩
    clear HB CI K3 K5
    refine wpAnyH_take (i := 0) (v := .pointer (some ⟨gK5, 0, none⟩)) (at_list rfl) (by kernel_rfl) (by kernel_rfl) (by kernel_rfl) (fun _ _ _ h => h) (Or.inl ⟨by rfl, ?_⟩) hHeld ?_
    · intro v hSv
      clear hHeld
      go_simp
    try simp only [Act.put, List.setIfInBounds_toArray, List.set_cons_zero, List.set_cons_succ]
    refine wpAnyH_take (i := 1) (v := .int .i64 k) (at_list rfl) (by kernel_rfl) (by kernel_rfl) (by kernel_rfl) (fun _ _ _ h => h) (Or.inl ⟨by rfl, ?_⟩) hHeld ?_
    · intro v hSv
      clear hHeld
      have q := Holds.reads (hSv.2.2.2.1) (i := 0) (x := .int .i64 k) rfl
      clear hSv
      go_simp
    try simp only [Act.put, List.setIfInBounds_toArray, List.set_cons_zero, List.set_cons_succ]
    refine wpAnyH_take (i := 2) (v := .pointer (some ⟨gK5, 1, none⟩)) (at_list rfl) (by kernel_rfl) (by kernel_rfl) (by kernel_rfl) (fun _ _ _ h => h) (Or.inl ⟨by rfl, ?_⟩) hHeld ?_
    · intro v hSv
      clear hHeld
      go_simp
    try simp only [Act.put, List.setIfInBounds_toArray, List.set_cons_zero, List.set_cons_succ]
    refine wpAnyH_take (i := 3) (v := .int .i64 st) (at_list rfl) (by kernel_rfl) (by kernel_rfl) (by kernel_rfl) (fun _ _ _ h => h) (Or.inl ⟨by rfl, ?_⟩) hHeld ?_
    · intro v hSv
      clear hHeld
      have q := Holds.reads (hSv.2.2.2.1) (i := 1) (x := .int .i64 st) rfl
      clear hSv
      go_simp
    try simp only [Act.put, List.setIfInBounds_toArray, List.set_cons_zero, List.set_cons_succ]
    refine wpAnyH_take (i := 4) (v := .int .i64 k) (at_list rfl) (by kernel_rfl) (by kernel_rfl) (by kernel_rfl) (fun _ _ _ h => h) (Or.inl ⟨by rfl, ?_⟩) hHeld ?_
    · intro v hSv
      clear hHeld
      go_simp
    try simp only [Act.put, List.setIfInBounds_toArray, List.set_cons_zero, List.set_cons_succ]
    refine wpAnyH_take (i := 5) (v := .int .i64 st) (at_list rfl) (by kernel_rfl) (by kernel_rfl) (by kernel_rfl) (fun _ _ _ h => h) (Or.inl ⟨by rfl, ?_⟩) hHeld ?_
    · intro v hSv
      clear hHeld
      go_simp
    try simp only [Act.put, List.setIfInBounds_toArray, List.set_cons_zero, List.set_cons_succ]
    refine wpAnyH_done (by kernel_rfl) ?_ _
    refine NoPanic.normal ?_
    have HB := Lib.hid hHeld.1
    have CI := Lib.hid hHeld.2.1
    have K3 := Lib.hid hHeld.2.2.1
    have K5 := Lib.hid hHeld.2.2.2.1
    clear hHeld
    clear K5
    go_upto_region 4 with fail
    obtain ⟨d, HD⟩ : ∃ d, Hid (decideN me l k st = d) := ⟨_, Lib.hid rfl⟩
    refine wp_region_held_drew (S := fun v => Below w.heap.size w v ∧ ChsIn v (.slice A n c) l ∧ Holds v gK3 29 (rsA me) ∧ True) (by kernel_rfl) ?_ (fun hHeld => ?_)
    · exact ⟨bdrew HB.out, (CI.out).drew, (K3.out).drew, trivial⟩
    clear HB CI K3
    refine wpAnyH_take (i := 0) (v := .agg (rsA me)) (at_list rfl) (by kernel_rfl) (by kernel_rfl) (by kernel_rfl) (fun _ _ _ h => h) (yields_whole (by rfl) 29 _ rfl gK3 rfl (fun v hv => hv.2.2.1) Try.underlying29 rfl (by kernel_rfl)) hHeld ?_
    try simp only [Act.put, List.setIfInBounds_toArray, List.set_cons_zero, List.set_cons_succ]
    refine wpAnyH_take (i := 1) (v := .slice A n c) (at_list rfl) (by kernel_rfl) (by kernel_rfl) (by kernel_rfl) (fun _ _ _ h => h) (Or.inl ⟨by rfl, ?_⟩) hHeld ?_
    · intro v hSv
      clear hHeld
      go_simp
    try simp only [Act.put, List.setIfInBounds_toArray, List.set_cons_zero, List.set_cons_succ]
    refine wpAnyH_take (i := 3) (v := .int .i64 k) (at_list rfl) (by kernel_rfl) (by kernel_rfl) (by kernel_rfl) (fun _ _ _ h => h) (Or.inl ⟨by rfl, ?_⟩) hHeld ?_
    · intro v hSv
      clear hHeld
      go_simp
    try simp only [Act.put, List.setIfInBounds_toArray, List.set_cons_zero, List.set_cons_succ]
    refine wpAnyH_take (i := 4) (v := .int .i64 st) (at_list rfl) (by kernel_rfl) (by kernel_rfl) (by kernel_rfl) (fun _ _ _ h => h) (Or.inl ⟨by rfl, ?_⟩) hHeld ?_
    · intro v hSv
      clear hHeld
      go_simp
    try simp only [Act.put, List.setIfInBounds_toArray, List.set_cons_zero, List.set_cons_succ]
    refine wpAnyH_ready (rs := [2]) (by kernel_rfl) (by simp) ?_
    refine AllReadyH.cons (at_list rfl) (fun K hK => ?_) AllReadyH.nil
    go_simp
    refine (own10_in A n c l _ (by have := HN.out; omega) (hHeld.2.1)).mono ?_
    rintro e v1 ⟨x, rfl, hx, hv1⟩
    go_wp2_with fail
    refine hK.out _ _ ?_ (fun hHeld2 => ?_)
    · exact ⟨bstep hHeld.1 hv1, (hHeld.2.1).keptB hv1, (hHeld.2.2.1).keptB hv1, trivial⟩
    clear hK K hHeld
    have hHeld := hHeld2
    clear hHeld2 hv1
    try simp only [Act.put, List.setIfInBounds_toArray, List.set_cons_zero, List.set_cons_succ]
    have XI := Lib.hid hx
    clear hx
    refine wpAnyH_ready (rs := [5]) (by kernel_rfl) (by simp) ?_
    refine AllReadyH.cons (at_list rfl) (fun K hK => ?_) AllReadyH.nil
    go_simp
    refine (pdport10_any me x l k st _ OM.out HO.out (by have := HN.out; have := HLN.out; omega) XI.out).mono ?_
    rintro e v2 ⟨rfl, hv2⟩
    rw [HD.out]
    replace XI := Lib.hid ((XI.out).keptB hv2)
    go_wp2_with fail
    refine hK.out _ _ ?_ (fun hHeld2 => ?_)
    · exact ⟨bstep hHeld.1 hv2, (hHeld.2.1).keptB hv2, (hHeld.2.2.1).keptB hv2, trivial⟩
    clear hK K hHeld
    have hHeld := hHeld2
    clear hHeld2 hv2
    try simp only [Act.put, List.setIfInBounds_toArray, List.set_cons_zero, List.set_cons_succ]
    clear XI
    refine wpAnyH_take (i := 6) (v := .int .i64 d) (at_list rfl) (by kernel_rfl) (by kernel_rfl) (by kernel_rfl) (fun _ _ _ h => h) (Or.inl ⟨by rfl, ?_⟩) hHeld ?_
    · intro v hSv
      clear hHeld
      go_simp
    try simp only [Act.put, List.setIfInBounds_toArray, List.set_cons_zero, List.set_cons_succ]
    refine wpAnyH_done (by kernel_rfl) ?_ _
    have HB := Lib.hid hHeld.1
    have CI := Lib.hid hHeld.2.1
    have K3 := Lib.hid hHeld.2.2.1
    clear hHeld
    go_wp2_with ((refine big_whole rfl 29 _ rfl gK3 rfl K3.out Try.underlying29 rfl (by kernel_rfl) ?_; try simp only [Act.put, List.setIfInBounds_toArray, List.set_cons_zero, List.set_cons_succ]))
    refine (rdport10_any me A n c l k st _ OM.out HO.out (by have := HN.out; omega) CI.out).mono ?_
    rintro e c1 ⟨rfl, hc1⟩
    replace CI := Lib.hid ((CI.out).keptB hc1)
    replace K3 := Lib.hid ((K3.out).keptB hc1)
    replace HB := Lib.hid (bstep HB.out hc1)
    clear hc1
    rw [HD.out]
    by_cases t1 : k < 0
    · have e1 : decide (k < 0) = true := decide_eq_true t1
      have h0 : d = 0 := by rw [← HD.out]; exact dec_idle (by unfold idleB; rw [e1]; rfl)
      subst h0
      clear t1
      go_wp2_with fail
      refine (alive10_any _).mono ?_
      rintro e c1 ⟨rfl, hc1⟩
      replace K3 := Lib.hid ((K3.out).keptB hc1)
      replace HB := Lib.hid (bstep HB.out hc1)
      clear hc1
      go_wp2
      try rw [Exit.noGoto_ret]
      go_ret
      exact ⟨rfl, HB.out⟩
    · have e1 : decide (k < 0) = false := decide_eq_false t1
      by_cases t2 : (n : Int) ≤ k
      · have e2 : decide ((n : Int) ≤ k) = true := decide_eq_true t2
        have h0 : d = 0 := by rw [← HD.out]; exact dec_idle (by unfold idleB; rw [HLN.out, e1, e2]; rfl)
        subst h0
        clear t1 t2
        go_wp2_with fail
        refine (alive10_any _).mono ?_
        rintro e c1 ⟨rfl, hc1⟩
        replace K3 := Lib.hid ((K3.out).keptB hc1)
        replace HB := Lib.hid (bstep HB.out hc1)
        clear hc1
        go_wp2
        try rw [Exit.noGoto_ret]
        go_ret
        exact ⟨rfl, HB.out⟩
      · have e2 : decide ((n : Int) ≤ k) = false := decide_eq_false t2
        obtain ⟨q, hq⟩ : ∃ q : Nat, k = (q : Int) := ⟨k.toNat, by omega⟩
        subst hq
        have HK : Hid (q < n) := by rw [Hid]; omega
        have e3 : decide (n ≤ q) = false := decide_eq_false (by omega)
        clear t1 t2
        go_upto_region 9 with fail
        clear e1 e2 e3
        have hn60 : n ≤ 60 := HN.out
        go_upto_region 10 with ((refine big_make rfl _ _ 31 3 rfl (.int .i64 0) 1 8 Try.underlying31 info_int10 (by omega) n rfl rfl (by omega) ?_; intro B wR hgR hrR hbR; have OC := Lib.hid ((CI.out).off (Nat.le_of_eq hgR)); have O3 := Lib.hid ((K3.out).off (Nat.le_of_eq hgR)); have HWB := Lib.hid (show w.heap.size ≤ B by rw [← hgR]; exact (HB.out).size); rw [made_nums n] at hrR; obtain ⟨cur, hK6, hsz, htk⟩ := row_cells_of hrR; have K6 := Lib.hid hK6; have HSZ := Lib.hid hsz; have HTK := Lib.hid htk; replace CI := Lib.hid ((CI.out).keptB hbR); replace K3 := Lib.hid ((K3.out).keptB hbR); replace HB := Lib.hid (bstep HB.out hbR); clear hgR hrR hbR hK6 hsz htk; try simp only [Act.put, List.setIfInBounds_toArray, List.set_cons_zero, List.set_cons_succ]))
        go_upto_region 11 with (first | (refine big_set rfl 3 _ _ rfl B (0 + q * 1) (.int .i64 st) rfl rfl K6.out (by kernel_rfl) rfl rfl (by have := HSZ.out; have := HK.out; omega) ((cur.toList.set q (.int .i64 st)).toArray) (by simp) ?_; intro w6 n6 t6; replace K6 := Lib.hid n6; replace CI := Lib.hid ((CI.out).touch t6 OC.out); replace K3 := Lib.hid ((K3.out).touch t6 O3.out); replace HB := Lib.hid (btouch HB.out t6 HWB.out); clear n6 t6; try simp only [Act.put, List.setIfInBounds_toArray, List.set_cons_zero, List.set_cons_succ]) | (refine big_set rfl 3 _ _ rfl B (q) (.int .i64 st) rfl rfl K6.out (by kernel_rfl) rfl rfl (by have := HSZ.out; have := HK.out; omega) ((cur.toList.set q (.int .i64 st)).toArray) (by simp) ?_; intro w6 n6 t6; replace K6 := Lib.hid n6; replace CI := Lib.hid ((CI.out).touch t6 OC.out); replace K3 := Lib.hid ((K3.out).touch t6 O3.out); replace HB := Lib.hid (btouch HB.out t6 HWB.out); clear n6 t6; try simp only [Act.put, List.setIfInBounds_toArray, List.set_cons_zero, List.set_cons_succ]) | (refine big_index rfl 31 _ _ rfl B 0 n n q 1 rfl rfl HK.out Try.underlying31 (by kernel_rfl) ?_; try simp only [Act.put, List.setIfInBounds_toArray, List.set_cons_zero, List.set_cons_succ]))
        have NI := Lib.hid (nums_set (n := n) (c := n) K6.out HTK.out (by simp))
        clear K6 HTK HSZ
        obtain ⟨ss, HSS⟩ : ∃ ss, Hid ((List.replicate n (0 : Int)).set q st = ss) := ⟨_, Lib.hid rfl⟩
        rw [HSS.out] at NI
        have HG : Hid (ss.getD q 3 = st) := by rw [Hid, ← HSS.out]; exact zeros_get HK.out
        refine wp_region_held_drew (S := fun v => Below w.heap.size w v ∧ ChsIn v (.slice A n c) l ∧ Holds v gK3 29 (rsA me) ∧ NumIn v (.slice (some ⟨B, 0, none⟩) n n) ss ∧ True) (by kernel_rfl) ?_ (fun hHeld => ?_)
        · exact ⟨bdrew HB.out, (CI.out).drew, (K3.out).drew, (NI.out).drew, trivial⟩
        clear HB CI K3 NI
        refine wpAnyH_take (i := 0) (v := .agg (rsA me)) (at_list rfl) (by kernel_rfl) (by kernel_rfl) (by kernel_rfl) (fun _ _ _ h => h) (yields_whole (by rfl) 29 _ rfl gK3 rfl (fun v hv => hv.2.2.1) Try.underlying29 rfl (by kernel_rfl)) hHeld ?_
        try simp only [Act.put, List.setIfInBounds_toArray, List.set_cons_zero, List.set_cons_succ]
        refine wpAnyH_take (i := 1) (v := .slice A n c) (at_list rfl) (by kernel_rfl) (by kernel_rfl) (by kernel_rfl) (fun _ _ _ h => h) (Or.inl ⟨by rfl, ?_⟩) hHeld ?_
        · intro v hSv
          clear hHeld
          go_simp
        try simp only [Act.put, List.setIfInBounds_toArray, List.set_cons_zero, List.set_cons_succ]
        refine wpAnyH_take (i := 3) (v := .slice (some ⟨B, 0, none⟩) n n) (at_list rfl) (by kernel_rfl) (by kernel_rfl) (by kernel_rfl) (fun _ _ _ h => h) (Or.inl ⟨by rfl, ?_⟩) hHeld ?_
        · intro v hSv
          clear hHeld
          go_simp
        try simp only [Act.put, List.setIfInBounds_toArray, List.set_cons_zero, List.set_cons_succ]
        refine wpAnyH_ready (rs := [2]) (by kernel_rfl) (by simp) ?_
        refine AllReadyH.cons (at_list rfl) (fun K hK => ?_) AllReadyH.nil
        go_simp
        refine (own10_in A n c l _ (by have := HN.out; omega) (hHeld.2.1)).mono ?_
        rintro e v1 ⟨x, rfl, hx, hv1⟩
        go_wp2_with fail
        refine hK.out _ _ ?_ (fun hHeld2 => ?_)
        · exact ⟨bstep hHeld.1 hv1, (hHeld.2.1).keptB hv1, (hHeld.2.2.1).keptB hv1, (hHeld.2.2.2.1).keptB hv1, trivial⟩
        clear hK K hHeld
        have hHeld := hHeld2
        clear hHeld2 hv1
        try simp only [Act.put, List.setIfInBounds_toArray, List.set_cons_zero, List.set_cons_succ]
        have XI := Lib.hid hx
        clear hx
        refine wpAnyH_ready (rs := [4]) (by kernel_rfl) (by simp) ?_
        refine AllReadyH.cons (at_list rfl) (fun K hK => ?_) AllReadyH.nil
        go_simp
        refine (pdall10_any me x l _ ss _ OM.out HO.out (by have := HN.out; have := HLN.out; omega) XI.out (hHeld.2.2.2.1)).mono ?_
        rintro e v2 ⟨y, rfl, hy, hv2⟩
        replace XI := Lib.hid ((XI.out).keptB hv2)
        go_wp2_with fail
        refine hK.out _ _ ?_ (fun hHeld2 => ?_)
        · exact ⟨bstep hHeld.1 hv2, (hHeld.2.1).keptB hv2, (hHeld.2.2.1).keptB hv2, (hHeld.2.2.2.1).keptB hv2, trivial⟩
        clear hK K hHeld
        have hHeld := hHeld2
        clear hHeld2 hv2
        try simp only [Act.put, List.setIfInBounds_toArray, List.set_cons_zero, List.set_cons_succ]
        have YI := Lib.hid hy
        clear hy XI
        obtain ⟨A3, n3, c3, hyy, hz3, _⟩ := YI.out
        subst hyy
        have hn3 : n3 = n := by rw [← hz3, decAll_len, HLN.out]
        subst hn3
        clear hz3
        refine wpAnyH_take (i := 5) (v := .slice A3 n3 c3) (at_list rfl) (by kernel_rfl) (by kernel_rfl) (by kernel_rfl) (fun _ _ _ h => h) (Or.inl ⟨by rfl, ?_⟩) hHeld ?_
        · intro v hSv
          clear hHeld
          go_simp
        try simp only [Act.put, List.setIfInBounds_toArray, List.set_cons_zero, List.set_cons_succ]
        refine wpAnyH_done (by kernel_rfl) ?_ _
        have HB := Lib.hid hHeld.1
        have CI := Lib.hid hHeld.2.1
        have K3 := Lib.hid hHeld.2.2.1
        have NI := Lib.hid hHeld.2.2.2.1
        clear hHeld
        go_wp2_with fail
        refine (alive10_any _).mono ?_
        rintro e c1 ⟨rfl, hc1⟩
        replace YI := Lib.hid ((YI.out).keptB hc1)
        replace HB := Lib.hid (bstep HB.out hc1)
        clear hc1
        have hz := decAll_at me l ss (k := q) (by have := HLN.out; have := HK.out; omega)
        rw [HG.out, HD.out] at hz
        have hqn := HK.out
        obtain ⟨g, o, hA⟩ : ∃ g o, A3 = some ⟨g, o, none⟩ := by
          obtain ⟨_, _, _, h1, _, h3⟩ := YI.out
          cases h1
          obtain ⟨g, o, h4, _⟩ := h3 (by omega)
          exact ⟨g, o, h4⟩
        subst hA
        have xs := num_in YI.out hz
        clear hz
        go_wp2_with ((refine big_index rfl 31 _ _ rfl g o n3 c3 q 1 rfl rfl HK.out Try.underlying31 (by kernel_rfl) ?_; try simp only [Act.put, List.setIfInBounds_toArray, List.set_cons_zero, List.set_cons_succ]))
        try rw [Exit.noGoto_ret]
        go_ret
        exact ⟨rfl, HB.out⟩

end Go.Proofs.Ytpdnfeooijmgoaa
