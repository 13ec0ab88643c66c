/- The walk over DecideAll. -/
import Derived.Test.YtpdnfeooijmgoaaDecideAlive
import Derived.Test.YtpdnfeooijmgoaaDecideRef2
import Derived.Deep.DeepCutAuto
import Derived.Deep.LoopGhost
import Derived.WalkMore
namespace Go.Proofs.Ytpdnfeooijmgoaa
set_option maxRecDepth 100000
open Go.RowKit
set_option linter.unusedVariables false
set_option linter.unusedSimpArgs false

set_option maxHeartbeats 4000000 in
theorem decall10 (me : Rs) (A : Option Addr) (n c : Nat) (l : List Ch) (A2 : Option Addr) (n2 k2 : Nat) (zs : List Int) (w : World) (hm : me.ok) (hl : ChsOk w A n c l) (hs : sliceOk .i64 w A2 n2 k2 zs) :
    Calls Try.prog 3 #[.agg (rsA me), .slice A n c, .slice A2 n2 k2] w fun e w' => e = .returned (.bool true) ∧ Below w.heap.size w w' := by
  have OM := Lib.hid hm
  have SL := Lib.hid hl
  have NI := Lib.hid (slice_nums hs)
  clear hm hl hs
  have HO := Lib.hid (SL.out).ok
  have HLN := Lib.hid (SL.out).len
  have HB := Lib.hid (Below.refl w.heap.size w)
  have CI : Hid (ChsIn w (.slice A n c) l) := ⟨A, n, c, rfl, (SL.out).len, (SL.out).at_⟩
  obtain ⟨ss, HSS⟩ : ∃ ss, Hid (zs.take n2 = ss) := ⟨_, Lib.hid rfl⟩
  rw [HSS.out] at NI
  have HLS : Hid (ss.length = n2) := by
    obtain ⟨_, _, _, h1, h2, _⟩ := NI.out
    cases h1
    exact h2
  go_enter Try.func3, Try.ntmps3
  go_upto_region 1 with ((refine big_box rfl 29 _ rfl (rsA me) rfl (by kernel_rfl) ?_; intro gK3 wK3 hlK3 nK3 hbK3; have K3 := Lib.hid nK3; have LK3 := Lib.hid (Nat.le_trans (HB.out).size hlK3); have OCIK3 := Lib.hid ((CI.out).off hlK3); have ONIK3 := Lib.hid ((NI.out).off hlK3); replace CI := Lib.hid ((CI.out).keptB hbK3); replace NI := Lib.hid ((NI.out).keptB hbK3); replace HB := Lib.hid (bstep HB.out hbK3); clear hlK3 nK3 hbK3; try simp only [Act.put, List.setIfInBounds_toArray, List.set_cons_zero, List.set_cons_succ]))
  by_cases h1 : 60 < n
  · have d1 : decide ((60 : Int) < (n : Int)) = true := decide_eq_true (by omega)
    clear h1
    go_wp2_with fail
    refine (alive10_any _).mono ?_
    rintro e c1 ⟨rfl, hc1⟩
    replace K3 := Lib.hid ((K3.out).keptB hc1)
    replace HB := Lib.hid (bstep HB.out hc1)
    clear hc1
    go_wp2
    try rw [Exit.noGoto_ret]
    go_ret
    exact ⟨rfl, HB.out⟩
  · have d1 : decide ((60 : Int) < (n : Int)) = false := decide_eq_false (by omega)
    by_cases h2 : 100 < n2
    · have d2 : decide ((100 : Int) < (n2 : Int)) = true := decide_eq_true (by omega)
      clear h2
      go_wp2_with fail
      refine (alive10_any _).mono ?_
      rintro e c1 ⟨rfl, hc1⟩
      replace K3 := Lib.hid ((K3.out).keptB hc1)
      replace HB := Lib.hid (bstep HB.out hc1)
      clear hc1
      go_wp2
      try rw [Exit.noGoto_ret]
      go_ret
      exact ⟨rfl, HB.out⟩
    · have d2 : decide ((100 : Int) < (n2 : Int)) = false := decide_eq_false (by omega)
      have HN : Hid (n ≤ 60) := by rw [Hid]; omega
      have HN2 : Hid (n2 ≤ 100) := by rw [Hid]; omega
      clear h1 h2
      go_upto_region 3 with fail
      clear d1 d2
      refine wp_region_held_drew (S := fun v => Below w.heap.size w v ∧ ChsIn v (.slice A n c) l ∧ NumIn v (.slice A2 n2 k2) ss ∧ Holds v gK3 29 (rsA me) ∧ True) (by kernel_rfl) ?_ (fun hHeld => ?_)
      · exact ⟨bdrew HB.out, (CI.out).drew, (NI.out).drew, (K3.out).drew, trivial⟩
      clear HB CI NI K3
      refine wpAnyH_take (i := 0) (v := .agg (rsA me)) (at_list rfl) (by kernel_rfl) (by kernel_rfl) (by kernel_rfl) (fun _ _ _ h => h) (yields_whole (by rfl) 29 _ rfl gK3 rfl (fun v hv => hv.2.2.2.1) Try.underlying29 rfl (by kernel_rfl)) hHeld ?_
      try simp only [Act.put, List.setIfInBounds_toArray, List.set_cons_zero, List.set_cons_succ]
      refine wpAnyH_take (i := 1) (v := .slice A n c) (at_list rfl) (by kernel_rfl) (by kernel_rfl) (by kernel_rfl) (fun _ _ _ h => h) (Or.inl ⟨by rfl, ?_⟩) hHeld ?_
      · intro v hSv
        clear hHeld
        go_simp
      try simp only [Act.put, List.setIfInBounds_toArray, List.set_cons_zero, List.set_cons_succ]
      refine wpAnyH_take (i := 3) (v := .slice A2 n2 k2) (at_list rfl) (by kernel_rfl) (by kernel_rfl) (by kernel_rfl) (fun _ _ _ h => h) (Or.inl ⟨by rfl, ?_⟩) hHeld ?_
      · intro v hSv
        clear hHeld
        go_simp
      try simp only [Act.put, List.setIfInBounds_toArray, List.set_cons_zero, List.set_cons_succ]
      refine wpAnyH_ready (rs := [2]) (by kernel_rfl) (by simp) ?_
      refine AllReadyH.cons (at_list rfl) (fun K hK => ?_) AllReadyH.nil
      go_simp
      refine (own10_in A n c l _ (by have := HN.out; omega) (hHeld.2.1)).mono ?_
      rintro e v1 ⟨x, rfl, hx, hv1⟩
      go_wp2_with fail
      refine hK.out _ _ ?_ (fun hHeld2 => ?_)
      · exact ⟨bstep hHeld.1 hv1, (hHeld.2.1).keptB hv1, (hHeld.2.2.1).keptB hv1, (hHeld.2.2.2.1).keptB hv1, trivial⟩
      clear hK K hHeld
      have hHeld := hHeld2
      clear hHeld2 hv1
      try simp only [Act.put, List.setIfInBounds_toArray, List.set_cons_zero, List.set_cons_succ]
      have XI := Lib.hid hx
      clear hx
      refine wpAnyH_ready (rs := [4]) (by kernel_rfl) (by simp) ?_
      refine AllReadyH.cons (at_list rfl) (fun K hK => ?_) AllReadyH.nil
      go_simp
      refine (pdall10_any me x l (.slice A2 n2 k2) ss _ OM.out HO.out (by have := HN.out; have := HLN.out; omega) XI.out (hHeld.2.2.1)).mono ?_
      rintro e v2 ⟨y, rfl, hy, hv2⟩
      replace XI := Lib.hid ((XI.out).keptB hv2)
      go_wp2_with fail
      refine hK.out _ _ ?_ (fun hHeld2 => ?_)
      · exact ⟨bstep hHeld.1 hv2, (hHeld.2.1).keptB hv2, (hHeld.2.2.1).keptB hv2, (hHeld.2.2.2.1).keptB hv2, trivial⟩
      clear hK K hHeld
      have hHeld := hHeld2
      clear hHeld2 hv2
      try simp only [Act.put, List.setIfInBounds_toArray, List.set_cons_zero, List.set_cons_succ]
      have YI := Lib.hid hy
      clear hy XI
      refine wpAnyH_take (i := 5) (v := y) (at_list rfl) (by kernel_rfl) (by kernel_rfl) (by kernel_rfl) (fun _ _ _ h => h) (Or.inl ⟨by rfl, ?_⟩) hHeld ?_
      · intro v hSv
        clear hHeld
        go_simp
      try simp only [Act.put, List.setIfInBounds_toArray, List.set_cons_zero, List.set_cons_succ]
      refine wpAnyH_done (by kernel_rfl) ?_ _
      have HB := Lib.hid hHeld.1
      have CI := Lib.hid hHeld.2.1
      have NI := Lib.hid hHeld.2.2.1
      have K3 := Lib.hid hHeld.2.2.2.1
      clear hHeld
      go_wp2_with ((refine big_whole rfl 29 _ rfl gK3 rfl K3.out Try.underlying29 rfl (by kernel_rfl) ?_; try simp only [Act.put, List.setIfInBounds_toArray, List.set_cons_zero, List.set_cons_succ]))
      refine (rdall10_any me A n c l A2 n2 k2 ss _ OM.out HO.out (by have := HN.out; omega) CI.out NI.out).mono ?_
      rintro e c1 ⟨z, rfl, hz, hc1⟩
      replace CI := Lib.hid ((CI.out).keptB hc1)
      replace NI := Lib.hid ((NI.out).keptB hc1)
      replace K3 := Lib.hid ((K3.out).keptB hc1)
      replace YI := Lib.hid ((YI.out).keptB hc1)
      replace HB := Lib.hid (bstep HB.out hc1)
      clear hc1
      have ZI := Lib.hid hz
      clear hz
      have HDL : Hid ((decAllN me l ss).length ≤ 60) := by rw [Hid, decAll_len, HLN.out]; exact HN.out
      go_wp2_with fail
      refine (alive10_any _).mono ?_
      rintro e c2 ⟨rfl, hc2⟩
      replace CI := Lib.hid ((CI.out).keptB hc2)
      replace NI := Lib.hid ((NI.out).keptB hc2)
      replace K3 := Lib.hid ((K3.out).keptB hc2)
      replace YI := Lib.hid ((YI.out).keptB hc2)
      replace ZI := Lib.hid ((ZI.out).keptB hc2)
      replace HB := Lib.hid (bstep HB.out hc2)
      clear hc2
      go_wp2_with fail
      refine (ints10_in y z (decAllN me l ss) _ (by have := HDL.out; omega) YI.out ZI.out).mono ?_
      rintro e c3 ⟨rfl, hc3⟩
      replace CI := Lib.hid ((CI.out).keptB hc3)
      replace NI := Lib.hid ((NI.out).keptB hc3)
      replace K3 := Lib.hid ((K3.out).keptB hc3)
      replace YI := Lib.hid ((YI.out).keptB hc3)
      replace ZI := Lib.hid ((ZI.out).keptB hc3)
      replace HB := Lib.hid (bstep HB.out hc3)
      clear hc3
      go_wp2_with fail
      refine (pmast10_any y (decAllN me l ss) _ (by have := HDL.out; omega) YI.out).mono ?_
      rintro e c4 ⟨rfl, hc4⟩
      replace CI := Lib.hid ((CI.out).keptB hc4)
      replace NI := Lib.hid ((NI.out).keptB hc4)
      replace K3 := Lib.hid ((K3.out).keptB hc4)
      replace YI := Lib.hid ((YI.out).keptB hc4)
      replace ZI := Lib.hid ((ZI.out).keptB hc4)
      replace HB := Lib.hid (bstep HB.out hc4)
      clear hc4
      go_wp2_with fail
      obtain ⟨A3, n3, c3, rfl, hz3, _⟩ := ZI.out
      have HZ3 := Lib.hid hz3
      clear hz3
      refine (rmast10_any A3 n3 c3 (decAllN me l ss) _ (by have := HDL.out; have := HZ3.out; omega) ZI.out).mono ?_
      rintro e c5 ⟨rfl, hc5⟩
      replace CI := Lib.hid ((CI.out).keptB hc5)
      replace NI := Lib.hid ((NI.out).keptB hc5)
      replace K3 := Lib.hid ((K3.out).keptB hc5)
      replace YI := Lib.hid ((YI.out).keptB hc5)
      replace ZI := Lib.hid ((ZI.out).keptB hc5)
      replace HB := Lib.hid (bstep HB.out hc5)
      clear hc5
      go_wp2_with fail
      refine (pmast10_any _ ss _ (by have := HLS.out; have := HN2.out; omega) NI.out).mono ?_
      rintro e c6 ⟨rfl, hc6⟩
      replace CI := Lib.hid ((CI.out).keptB hc6)
      replace NI := Lib.hid ((NI.out).keptB hc6)
      replace K3 := Lib.hid ((K3.out).keptB hc6)
      replace YI := Lib.hid ((YI.out).keptB hc6)
      replace ZI := Lib.hid ((ZI.out).keptB hc6)
      replace HB := Lib.hid (bstep HB.out hc6)
      clear hc6
      go_wp2_with fail
      refine (rmast10_any A2 n2 k2 ss _ (by have := HN2.out; omega) NI.out).mono ?_
      rintro e c7 ⟨rfl, hc7⟩
      replace CI := Lib.hid ((CI.out).keptB hc7)
      replace NI := Lib.hid ((NI.out).keptB hc7)
      replace K3 := Lib.hid ((K3.out).keptB hc7)
      replace YI := Lib.hid ((YI.out).keptB hc7)
      replace ZI := Lib.hid ((ZI.out).keptB hc7)
      replace HB := Lib.hid (bstep HB.out hc7)
      clear hc7
      go_wp2
      try rw [Exit.noGoto_ret]
      go_ret
      exact ⟨rfl, HB.out⟩

end Go.Proofs.Ytpdnfeooijmgoaa
