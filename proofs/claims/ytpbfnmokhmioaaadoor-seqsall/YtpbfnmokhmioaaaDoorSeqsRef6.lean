/- The walk over the reference's Fresh. -/
import Derived.Test.YtpbfnmokhmioaaaDoorSeqsRef5
import Derived.Test.YtpbfnmokhmioaaaDoorHeadNumRef
import Derived.Deep.DeepCutAuto
import Derived.Deep.LoopGhost
import Derived.WalkMore
namespace Go.Proofs.YtpbfnmokhmioaaaDoor
set_option maxRecDepth 100000
open Go.RowKit
set_option linter.unusedVariables false
set_option linter.unusedSimpArgs false

theorem okN_no {k s : Int} (h : okN k s = false) (r : Rb) (q : Pt) : rfreshOk r q k s = false := by unfold rfreshOk; rw [h]; rfl
theorem rfresh_stays {r : Rb} {q : Pt} {k s : Int} (h : rfreshOk r q k s = false) : rfreshR r q k s = r := by unfold rfreshR; rw [h]; rfl
theorem bad_no {r : Rb} {q : Pt} {k s : Int} (h : r.L.any (badL q k s) = true) : rfreshOk r q k s = false := by unfold rfreshOk; rw [h]; simp
theorem full_no {r : Rb} {q : Pt} {k s : Int} (h : knownB r.S q = false) (hl : ¬ r.S.length < 16) : rfreshOk r q k s = false := by unfold rfreshOk; rw [h, decide_eq_false hl]; simp
theorem fresh_old {r : Rb} {q : Pt} {k s : Int} (h0 : okN k s = true) (h1 : r.L.any (badL q k s) = false) (h : knownB r.S q = true) : rfreshOk r q k s = true ∧ rfreshR r q k s = ⟨r.sent, r.S, restL r.L q k ++ [⟨q, k, s⟩], r.H⟩ := by
  have e : rfreshOk r q k s = true := by unfold rfreshOk; rw [h0, h1, h]; rfl
  refine ⟨e, ?_⟩
  unfold rfreshR
  rw [e, h]
  rfl
theorem fresh_more {r : Rb} {q : Pt} {k s : Int} (h0 : okN k s = true) (h1 : r.L.any (badL q k s) = false) (h : knownB r.S q = false) (hl : r.S.length < 16) : rfreshOk r q k s = true ∧ rfreshR r q k s = ⟨r.sent, r.S ++ [q], restL r.L q k ++ [⟨q, k, s⟩], r.H⟩ := by
  have e : rfreshOk r q k s = true := by unfold rfreshOk; rw [h0, h1, h, decide_eq_true hl]; rfl
  refine ⟨e, ?_⟩
  unfold rfreshR
  rw [e, h]
  rfl
theorem pt_end {w : World} {B n : Nat} {e : TypeId} {v : Value} {l : List Pt} {q : Pt} (hn : l.length = n) (h : RowB w B e 9 (0 + n + 1) v (rowsL ([] ++ l) ++ (ptA q).toList)) : RowB w B e 9 (l ++ [q]).length v (rowsL (l ++ [q])) := by
  subst hn
  rw [rowsL_append, rowsL_single, List.length_append]
  rw [List.nil_append, Nat.zero_add] at h
  exact h
set_option maxHeartbeats 4000000 in
theorem rfresh11_any (r : Rb) (A : Option Addr) (n c : Nat) (A1 : Option Addr) (n1 d1 : Nat) (s3 : Sl) (q : Pt) (k s : Int) (w : World) (h : RbIn w r ⟨A, n, c⟩ ⟨A1, n1, d1⟩ s3) (hS : r.S.length ≤ 10000) (hL : r.L.length ≤ 10000) (hH : r.H.length ≤ 10000) :
    Calls Tryd.prog 20 #[.agg (rbA r.sent ⟨A, n, c⟩ ⟨A1, n1, d1⟩ s3), .agg (ptA q), .int .i64 k, .int .i64 s] w fun e w' => ∃ t1 t2 t3 : Sl, e = .returned (.tuple #[.agg (rbA r.sent t1 t2 t3), .bool (rfreshOk r q k s)]) ∧ RbIn w' (rfreshR r q k s) t1 t2 t3 ∧ Below w.heap.size w w' := by
  have HB := Lib.hid (Below.refl w.heap.size w)
  have HS := Lib.hid hS
  have HL := Lib.hid hL
  have HH := Lib.hid hH
  have RI := Lib.hid h
  clear hS hL hH h
  have HLN : Hid (r.S.length = n) := (RI.out).S.len
  have HLM : Hid (r.L.length = n1) := (RI.out).L.len
  have hn : n ≤ 10000 := by have := HS.out; have := HLN.out; omega
  have hn1 : n1 ≤ 10000 := by have := HL.out; have := HLM.out; omega
  by_cases hk : longN k = 0
  · have hok : okN k s = false := by unfold okN; rw [hk]; rfl
    have d0 : (longN k == 0) = true := by simp [hk]
    clear hk
    have HX : Hid (rfreshOk r q k s = false) := okN_no hok r q
    clear hok
    go_enter Tryd.func20, Tryd.ntmps20
    go_upto_region 1 with (first | (refine big_alloc rfl 31 rfl (rbA (fun _ => 0) nilS nilS nilS) (by kernel_rfl) ?_; intro gK8 wK8 hlK8 nK8 hbK8; have K8 := Lib.hid nK8; have LK8 := Lib.hid (Nat.le_trans (HB.out).size hlK8); have ORIK8 := Lib.hid ((RI.out).off hlK8); have OK4K8 := Lib.hid ((K4.out).off hlK8); have OK5K8 := Lib.hid ((K5.out).off hlK8); replace RI := Lib.hid ((RI.out).keptB hbK8); replace K4 := Lib.hid ((K4.out).keptB hbK8); replace K5 := Lib.hid ((K5.out).keptB hbK8); replace HB := Lib.hid (bstep HB.out hbK8); clear hlK8 nK8 hbK8; try simp only [Act.put, List.setIfInBounds_toArray, List.set_cons_zero, List.set_cons_succ]) | (refine big_box rfl 35 _ rfl (ptA q) rfl (by kernel_rfl) ?_; intro gK5 wK5 hlK5 nK5 hbK5; have K5 := Lib.hid nK5; have LK5 := Lib.hid (Nat.le_trans (HB.out).size hlK5); have ORIK5 := Lib.hid ((RI.out).off hlK5); have OK4K5 := Lib.hid ((K4.out).off hlK5); replace RI := Lib.hid ((RI.out).keptB hbK5); replace K4 := Lib.hid ((K4.out).keptB hbK5); replace HB := Lib.hid (bstep HB.out hbK5); clear hlK5 nK5 hbK5; try simp only [Act.put, List.setIfInBounds_toArray, List.set_cons_zero, List.set_cons_succ]) | (refine big_box rfl 31 _ rfl (rbA r.sent ⟨A, n, c⟩ ⟨A1, n1, d1⟩ s3) rfl (by kernel_rfl) ?_; intro gK4 wK4 hlK4 nK4 hbK4; have K4 := Lib.hid nK4; have LK4 := Lib.hid (Nat.le_trans (HB.out).size hlK4); have ORIK4 := Lib.hid ((RI.out).off hlK4); replace RI := Lib.hid ((RI.out).keptB hbK4); replace HB := Lib.hid (bstep HB.out hbK4); clear hlK4 nK4 hbK4; try simp only [Act.put, List.setIfInBounds_toArray, List.set_cons_zero, List.set_cons_succ]))
    go_wp2_with fail
    refine (rlong_any k _).mono ?_
    rintro e w1 ⟨rfl, rfl⟩
    have HY : Hid (rfreshR r q k s = r) := rfresh_stays HX.out
    go_wp2_with (first | (refine big_fill rfl 31 _ _ rfl gK8 (rbA r.sent ⟨A, n, c⟩ ⟨A1, n1, d1⟩ s3) rfl rfl K8.out (by kernel_rfl) (by kernel_rfl) (by kernel_rfl) ?_; intro vK85 nK8 htK8; replace K8 := Lib.hid nK8; replace RI := Lib.hid ((RI.out).touch htK8 ORIK8.out); replace K4 := Lib.hid ((K4.out).touch htK8 OK4K8.out); replace K5 := Lib.hid ((K5.out).touch htK8 OK5K8.out); replace HB := Lib.hid (btouch HB.out htK8 LK8.out); clear nK8 htK8; try simp only [Act.put, List.setIfInBounds_toArray, List.set_cons_zero, List.set_cons_succ]) | (refine big_whole rfl 31 _ rfl gK4 rfl K4.out Tryd.underlying31 rfl (by kernel_rfl) ?_; try simp only [Act.put, List.setIfInBounds_toArray, List.set_cons_zero, List.set_cons_succ]))
    try rw [Exit.noGoto_ret]
    refine bodyPost_ret (v := .tuple #[.agg (rbA r.sent ⟨A, n, c⟩ ⟨A1, n1, d1⟩ s3), .bool false]) (results_two rfl _ _ gK8 _ _ _ _ rfl rfl (K8).out Tryd.underlying31 rfl (by kernel_rfl)) rfl ?_
    rw [HX.out, HY.out]
    exact ⟨_, _, _, rfl, RI.out, HB.out⟩
  · by_cases q0 : s < 0
    · have d0 : (longN k == 0) = false := by simpa using hk
      have hok : okN k s = false := by unfold okN; rw [d0, inB_not.2 (.inl q0)]; rfl
      have e0 : decide (s < 0) = true := decide_eq_true q0
      clear hk q0
      have HX : Hid (rfreshOk r q k s = false) := okN_no hok r q
      clear hok
      go_enter Tryd.func20, Tryd.ntmps20
      go_upto_region 1 with (first | (refine big_alloc rfl 31 rfl (rbA (fun _ => 0) nilS nilS nilS) (by kernel_rfl) ?_; intro gK8 wK8 hlK8 nK8 hbK8; have K8 := Lib.hid nK8; have LK8 := Lib.hid (Nat.le_trans (HB.out).size hlK8); have ORIK8 := Lib.hid ((RI.out).off hlK8); have OK4K8 := Lib.hid ((K4.out).off hlK8); have OK5K8 := Lib.hid ((K5.out).off hlK8); replace RI := Lib.hid ((RI.out).keptB hbK8); replace K4 := Lib.hid ((K4.out).keptB hbK8); replace K5 := Lib.hid ((K5.out).keptB hbK8); replace HB := Lib.hid (bstep HB.out hbK8); clear hlK8 nK8 hbK8; try simp only [Act.put, List.setIfInBounds_toArray, List.set_cons_zero, List.set_cons_succ]) | (refine big_box rfl 35 _ rfl (ptA q) rfl (by kernel_rfl) ?_; intro gK5 wK5 hlK5 nK5 hbK5; have K5 := Lib.hid nK5; have LK5 := Lib.hid (Nat.le_trans (HB.out).size hlK5); have ORIK5 := Lib.hid ((RI.out).off hlK5); have OK4K5 := Lib.hid ((K4.out).off hlK5); replace RI := Lib.hid ((RI.out).keptB hbK5); replace K4 := Lib.hid ((K4.out).keptB hbK5); replace HB := Lib.hid (bstep HB.out hbK5); clear hlK5 nK5 hbK5; try simp only [Act.put, List.setIfInBounds_toArray, List.set_cons_zero, List.set_cons_succ]) | (refine big_box rfl 31 _ rfl (rbA r.sent ⟨A, n, c⟩ ⟨A1, n1, d1⟩ s3) rfl (by kernel_rfl) ?_; intro gK4 wK4 hlK4 nK4 hbK4; have K4 := Lib.hid nK4; have LK4 := Lib.hid (Nat.le_trans (HB.out).size hlK4); have ORIK4 := Lib.hid ((RI.out).off hlK4); replace RI := Lib.hid ((RI.out).keptB hbK4); replace HB := Lib.hid (bstep HB.out hbK4); clear hlK4 nK4 hbK4; try simp only [Act.put, List.setIfInBounds_toArray, List.set_cons_zero, List.set_cons_succ]))
      go_wp2_with fail
      refine (rlong_any k _).mono ?_
      rintro e w1 ⟨rfl, rfl⟩
      have HY : Hid (rfreshR r q k s = r) := rfresh_stays HX.out
      go_wp2_with (first | (refine big_fill rfl 31 _ _ rfl gK8 (rbA r.sent ⟨A, n, c⟩ ⟨A1, n1, d1⟩ s3) rfl rfl K8.out (by kernel_rfl) (by kernel_rfl) (by kernel_rfl) ?_; intro vK85 nK8 htK8; replace K8 := Lib.hid nK8; replace RI := Lib.hid ((RI.out).touch htK8 ORIK8.out); replace K4 := Lib.hid ((K4.out).touch htK8 OK4K8.out); replace K5 := Lib.hid ((K5.out).touch htK8 OK5K8.out); replace HB := Lib.hid (btouch HB.out htK8 LK8.out); clear nK8 htK8; try simp only [Act.put, List.setIfInBounds_toArray, List.set_cons_zero, List.set_cons_succ]) | (refine big_whole rfl 31 _ rfl gK4 rfl K4.out Tryd.underlying31 rfl (by kernel_rfl) ?_; try simp only [Act.put, List.setIfInBounds_toArray, List.set_cons_zero, List.set_cons_succ]))
      try rw [Exit.noGoto_ret]
      refine bodyPost_ret (v := .tuple #[.agg (rbA r.sent ⟨A, n, c⟩ ⟨A1, n1, d1⟩ s3), .bool false]) (results_two rfl _ _ gK8 _ _ _ _ rfl rfl (K8).out Tryd.underlying31 rfl (by kernel_rfl)) rfl ?_
      rw [HX.out, HY.out]
      exact ⟨_, _, _, rfl, RI.out, HB.out⟩
    · by_cases q1 : 65535 < s
      · have d0 : (longN k == 0) = false := by simpa using hk
        have hok : okN k s = false := by unfold okN; rw [d0, inB_not.2 (.inr q1)]; rfl
        have e0 : decide (s < 0) = false := decide_eq_false q0
        have e1 : decide (65535 < s) = true := decide_eq_true q1
        clear hk q0 q1
        have HX : Hid (rfreshOk r q k s = false) := okN_no hok r q
        clear hok
        go_enter Tryd.func20, Tryd.ntmps20
        go_upto_region 1 with (first | (refine big_alloc rfl 31 rfl (rbA (fun _ => 0) nilS nilS nilS) (by kernel_rfl) ?_; intro gK8 wK8 hlK8 nK8 hbK8; have K8 := Lib.hid nK8; have LK8 := Lib.hid (Nat.le_trans (HB.out).size hlK8); have ORIK8 := Lib.hid ((RI.out).off hlK8); have OK4K8 := Lib.hid ((K4.out).off hlK8); have OK5K8 := Lib.hid ((K5.out).off hlK8); replace RI := Lib.hid ((RI.out).keptB hbK8); replace K4 := Lib.hid ((K4.out).keptB hbK8); replace K5 := Lib.hid ((K5.out).keptB hbK8); replace HB := Lib.hid (bstep HB.out hbK8); clear hlK8 nK8 hbK8; try simp only [Act.put, List.setIfInBounds_toArray, List.set_cons_zero, List.set_cons_succ]) | (refine big_box rfl 35 _ rfl (ptA q) rfl (by kernel_rfl) ?_; intro gK5 wK5 hlK5 nK5 hbK5; have K5 := Lib.hid nK5; have LK5 := Lib.hid (Nat.le_trans (HB.out).size hlK5); have ORIK5 := Lib.hid ((RI.out).off hlK5); have OK4K5 := Lib.hid ((K4.out).off hlK5); replace RI := Lib.hid ((RI.out).keptB hbK5); replace K4 := Lib.hid ((K4.out).keptB hbK5); replace HB := Lib.hid (bstep HB.out hbK5); clear hlK5 nK5 hbK5; try simp only [Act.put, List.setIfInBounds_toArray, List.set_cons_zero, List.set_cons_succ]) | (refine big_box rfl 31 _ rfl (rbA r.sent ⟨A, n, c⟩ ⟨A1, n1, d1⟩ s3) rfl (by kernel_rfl) ?_; intro gK4 wK4 hlK4 nK4 hbK4; have K4 := Lib.hid nK4; have LK4 := Lib.hid (Nat.le_trans (HB.out).size hlK4); have ORIK4 := Lib.hid ((RI.out).off hlK4); replace RI := Lib.hid ((RI.out).keptB hbK4); replace HB := Lib.hid (bstep HB.out hbK4); clear hlK4 nK4 hbK4; try simp only [Act.put, List.setIfInBounds_toArray, List.set_cons_zero, List.set_cons_succ]))
        go_wp2_with fail
        refine (rlong_any k _).mono ?_
        rintro e w1 ⟨rfl, rfl⟩
        have HY : Hid (rfreshR r q k s = r) := rfresh_stays HX.out
        go_wp2_with (first | (refine big_fill rfl 31 _ _ rfl gK8 (rbA r.sent ⟨A, n, c⟩ ⟨A1, n1, d1⟩ s3) rfl rfl K8.out (by kernel_rfl) (by kernel_rfl) (by kernel_rfl) ?_; intro vK85 nK8 htK8; replace K8 := Lib.hid nK8; replace RI := Lib.hid ((RI.out).touch htK8 ORIK8.out); replace K4 := Lib.hid ((K4.out).touch htK8 OK4K8.out); replace K5 := Lib.hid ((K5.out).touch htK8 OK5K8.out); replace HB := Lib.hid (btouch HB.out htK8 LK8.out); clear nK8 htK8; try simp only [Act.put, List.setIfInBounds_toArray, List.set_cons_zero, List.set_cons_succ]) | (refine big_whole rfl 31 _ rfl gK4 rfl K4.out Tryd.underlying31 rfl (by kernel_rfl) ?_; try simp only [Act.put, List.setIfInBounds_toArray, List.set_cons_zero, List.set_cons_succ]))
        try rw [Exit.noGoto_ret]
        refine bodyPost_ret (v := .tuple #[.agg (rbA r.sent ⟨A, n, c⟩ ⟨A1, n1, d1⟩ s3), .bool false]) (results_two rfl _ _ gK8 _ _ _ _ rfl rfl (K8).out Tryd.underlying31 rfl (by kernel_rfl)) rfl ?_
        rw [HX.out, HY.out]
        exact ⟨_, _, _, rfl, RI.out, HB.out⟩
      · have d0 : (longN k == 0) = false := by simpa using hk
        have HOKN : Hid (okN k s = true) := by unfold okN; rw [Hid, d0, inB_iff.2 ⟨by omega, by omega⟩]; rfl
        have e0 : decide (s < 0) = false := decide_eq_false q0
        have e1 : decide (65535 < s) = false := decide_eq_false q1
        clear hk q0 q1
        go_enter Tryd.func20, Tryd.ntmps20
        go_upto_region 1 with (first | (refine big_alloc rfl 31 rfl (rbA (fun _ => 0) nilS nilS nilS) (by kernel_rfl) ?_; intro gK8 wK8 hlK8 nK8 hbK8; have K8 := Lib.hid nK8; have LK8 := Lib.hid (Nat.le_trans (HB.out).size hlK8); have ORIK8 := Lib.hid ((RI.out).off hlK8); have OK4K8 := Lib.hid ((K4.out).off hlK8); have OK5K8 := Lib.hid ((K5.out).off hlK8); replace RI := Lib.hid ((RI.out).keptB hbK8); replace K4 := Lib.hid ((K4.out).keptB hbK8); replace K5 := Lib.hid ((K5.out).keptB hbK8); replace HB := Lib.hid (bstep HB.out hbK8); clear hlK8 nK8 hbK8; try simp only [Act.put, List.setIfInBounds_toArray, List.set_cons_zero, List.set_cons_succ]) | (refine big_box rfl 35 _ rfl (ptA q) rfl (by kernel_rfl) ?_; intro gK5 wK5 hlK5 nK5 hbK5; have K5 := Lib.hid nK5; have LK5 := Lib.hid (Nat.le_trans (HB.out).size hlK5); have ORIK5 := Lib.hid ((RI.out).off hlK5); have OK4K5 := Lib.hid ((K4.out).off hlK5); replace RI := Lib.hid ((RI.out).keptB hbK5); replace K4 := Lib.hid ((K4.out).keptB hbK5); replace HB := Lib.hid (bstep HB.out hbK5); clear hlK5 nK5 hbK5; try simp only [Act.put, List.setIfInBounds_toArray, List.set_cons_zero, List.set_cons_succ]) | (refine big_box rfl 31 _ rfl (rbA r.sent ⟨A, n, c⟩ ⟨A1, n1, d1⟩ s3) rfl (by kernel_rfl) ?_; intro gK4 wK4 hlK4 nK4 hbK4; have K4 := Lib.hid nK4; have LK4 := Lib.hid (Nat.le_trans (HB.out).size hlK4); have ORIK4 := Lib.hid ((RI.out).off hlK4); replace RI := Lib.hid ((RI.out).keptB hbK4); replace HB := Lib.hid (bstep HB.out hbK4); clear hlK4 nK4 hbK4; try simp only [Act.put, List.setIfInBounds_toArray, List.set_cons_zero, List.set_cons_succ]))
        go_wp2_with fail
        refine (rlong_any k _).mono ?_
        rintro e w1 ⟨rfl, rfl⟩
        go_upto_region 3 with fail
        clear d0 e0 e1
        obtain ⟨B, hB⟩ := size_isH K4
        have LBK4 := Lib.hid (show gK4 < B by rw [← hB]; exact (K4.out).inside)
        have LBK5 := Lib.hid (show gK5 < B by rw [← hB]; exact (K5.out).inside)
        have LBK8 := Lib.hid (show gK8 < B by rw [← hB]; exact (K8.out).inside)
        have LBRI := Lib.hid ((RI.out).low (Nat.le_of_eq hB))
        have HWB := Lib.hid (show w.heap.size ≤ B by rw [← hB]; exact (HB.out).size)
        have OW : Hid (RowB _ B 76 11 ([] : List Rl).length (.slice none 0 0) (rowsL ([] : List Rl))) := RowB.nil (Nat.le_of_eq hB.symm)
        clear hB
        go_wp2
        go_loopw [10, 11] (fun t i v => ∃ (j : Nat) (F : List Rl) (x : Value), j ≤ n1 ∧ x = t ∧ i = .int .i64 j ∧ Hid (restL (r.L.take j) q k = F) ∧ Hid ((r.L.take j).any (badL q k s) = false) ∧ Hid (RowB v B 76 11 F.length x (rowsL F)) ∧ Hid (RbIn v r ⟨A, n, c⟩ ⟨A1, n1, d1⟩ s3) ∧ Hid (Holds v gK4 31 (rbA r.sent ⟨A, n, c⟩ ⟨A1, n1, d1⟩ s3)) ∧ Hid (Holds v gK5 35 (ptA q)) ∧ Hid (Holds v gK8 31 (rbA (fun _ => 0) nilS nilS nilS)) ∧ Hid (Below w.heap.size w v)) (fun _ i _ => n1 - (intOf i).toNat)
        case atStart => exact ⟨0, [], _, by omega, rfl, rfl, Lib.hid rfl, Lib.hid rfl, OW, RI, K4, K5, K8, HB⟩
        case round =>
          clear OW RI K4 K5 K8 HB
          rename_i V
          obtain ⟨j, F, x, hj, hx, rfl, HF, HBA, OW, RI, K4, K5, K8, HB⟩ := hrel
          subst hx
          by_cases hlt : j < n1
          · have hd : decide ((j : Int) < (n1 : Int)) = true := by simpa using hlt
            obtain ⟨y, hx⟩ : ∃ x, r.L[j]? = some x := ⟨_, List.getElem?_eq_getElem (show j < r.L.length by rw [HLM.out]; exact hlt)⟩
            have HXE := Lib.hid hx
            have HK := Lib.hid hlt
            obtain ⟨g, o, hA⟩ := ((RI.out).L).lies (show 0 < n1 by omega)
            change A1 = _ at hA
            subst hA
            clear hx
            have HLE : Hid (F.length ≤ j) := by
              have h1 := restL_le (r.L.take j) q k
              have h2 : (r.L.take j).length ≤ j := by rw [List.length_take]; omega
              rw [Hid, ← HF.out]
              omega
            have HST := Lib.hid (restL_step (q := q) (i := k) HXE.out)
            rw [HF.out] at HST
            have HBS := Lib.hid (bad_step (q := q) (i := k) (s := s) HXE.out)
            rw [HBA.out] at HBS
            have x17 := (K4.out).reads (i := 17) (x := .slice (some ⟨g, o, none⟩) n1 d1) rfl
            go_upto_region 7 with fail
            clear x17
            cases hq : eqP y.p q
            · have HHIT : hitL q k y = false := by unfold hitL; rw [hq]; rfl
              have HF2 : Hid (restL (r.L.take (j + 1)) q k = F ++ [y]) := by rw [Hid, HST.out, HHIT]; rfl
              have HB2 : Hid ((r.L.take (j + 1)).any (badL q k s) = false) := by rw [Hid, HBS.out]; unfold badL; rw [HHIT]; rfl
              clear HHIT
              have HQ := Lib.hid hq
              clear hq
              refine wp_region_noPanic ?_
              refine wp_region_held_drew (S := fun v => Below w.heap.size w v ∧ RbIn v r ⟨A, n, c⟩ ⟨some ⟨g, o, none⟩, n1, d1⟩ s3 ∧ Holds v gK4 31 (rbA r.sent ⟨A, n, c⟩ ⟨some ⟨g, o, none⟩, n1, d1⟩ s3) ∧ Holds v gK5 35 (ptA q) ∧ RowB v B 76 11 F.length x (rowsL F) ∧ Holds v gK8 31 (rbA (fun _ => 0) nilS nilS nilS) ∧ True) (by kernel_rfl) ?_ (fun hHeld => ?_)
              · exact ⟨bdrew HB.out, (RI.out).drew, (K4.out).drew, (K5.out).drew, (OW.out).drew, (K8.out).drew, trivial⟩
              clear HB RI K4 K5 OW K8
              refine wpAnyH_take (i := 0) (v := .pointer (some ⟨gK4, 17, none⟩)) (at_list rfl) (by kernel_rfl) (by kernel_rfl) (by kernel_rfl) (fun _ _ _ h => h) (Or.inl ⟨by rfl, ?_⟩) hHeld ?_
              · intro v hSv
                clear hHeld
                go_simp
              try simp only [Act.put, List.setIfInBounds_toArray, List.set_cons_zero, List.set_cons_succ]
              refine wpAnyH_take (i := 1) (v := .slice (some ⟨g, o, none⟩) n1 d1) (at_list rfl) (by kernel_rfl) (by kernel_rfl) (by kernel_rfl) (fun _ _ _ h => h) (Or.inl ⟨by rfl, ?_⟩) hHeld ?_
              · intro v hSv
                clear hHeld
                have q := Holds.reads (hSv.2.2.1) (i := 17) (x := .slice (some ⟨g, o, none⟩) n1 d1) rfl
                clear hSv
                go_simp
              try simp only [Act.put, List.setIfInBounds_toArray, List.set_cons_zero, List.set_cons_succ]
              refine wpAnyH_take (i := 2) (v := .int .i64 j) (at_list rfl) (by kernel_rfl) (by kernel_rfl) (by kernel_rfl) (fun _ _ _ h => h) (Or.inl ⟨by rfl, ?_⟩) hHeld ?_
              · intro v hSv
                clear hHeld
                go_simp
              try simp only [Act.put, List.setIfInBounds_toArray, List.set_cons_zero, List.set_cons_succ]
              refine wpAnyH_take (i := 3) (v := .pointer (some ⟨g, o + j * 11, none⟩)) (at_list rfl) (by kernel_rfl) (by kernel_rfl) (by kernel_rfl) (fun _ _ _ h => h) (yields_index (by rfl) 28 _ _ rfl g o n1 d1 j 11 rfl rfl HK.out Tryd.underlying28 (by kernel_rfl)) hHeld ?_
              try simp only [Act.put, List.setIfInBounds_toArray, List.set_cons_zero, List.set_cons_succ]
              refine wpAnyH_take (i := 4) (v := .pointer (some ⟨g, o + j * 11, none⟩)) (at_list rfl) (by kernel_rfl) (by kernel_rfl) (by kernel_rfl) (fun _ _ _ h => h) (Or.inl ⟨by rfl, ?_⟩) hHeld ?_
              · intro v hSv
                clear hHeld
                go_simp
              try simp only [Act.put, List.setIfInBounds_toArray, List.set_cons_zero, List.set_cons_succ]
              refine wpAnyH_take (i := 5) (v := .agg (ptA y.p)) (at_list rfl) (by kernel_rfl) (by kernel_rfl) (by kernel_rfl) (fun _ _ _ h => h) (yieldsIf_load_mid (by rfl) 35 _ rfl g (o + j * 11) rfl (ptA y.p).toList _ (fun v hv => las_port (hv.2.1).L HXE.out) Tryd.underlying35 rfl (by kernel_rfl)) hHeld ?_
              try simp only [Act.put, List.setIfInBounds_toArray, List.set_cons_zero, List.set_cons_succ]
              refine wpAnyH_take (i := 6) (v := .agg (ptA q)) (at_list rfl) (by kernel_rfl) (by kernel_rfl) (by kernel_rfl) (fun _ _ _ h => h) (yields_whole (by rfl) 35 _ rfl gK5 rfl (fun v hv => hv.2.2.2.1) Tryd.underlying35 rfl (by kernel_rfl)) hHeld ?_
              try simp only [Act.put, List.setIfInBounds_toArray, List.set_cons_zero, List.set_cons_succ]
              refine wpAnyH_take (i := 7) (v := .bool false) (at_list rfl) (by kernel_rfl) (by kernel_rfl) (by kernel_rfl) (fun _ _ _ h => h) (yields_cmp (by rfl) .eql 35 _ _ _ rfl (ptA y.p) (ptA q) rfl rfl (by kernel_rfl) false (fun v => (eql_port y.p q v).trans (by rw [HQ.out]))) hHeld ?_
              try simp only [Act.put, List.setIfInBounds_toArray, List.set_cons_zero, List.set_cons_succ]
              refine wpAnyH_take (i := 8) (v := .bool false) (at_list rfl) (by kernel_rfl) (by kernel_rfl) (by kernel_rfl) (fun _ _ _ h => h) (Or.inl ⟨by rfl, ?_⟩) hHeld ?_
              · intro v hSv
                clear hHeld
                go_simp
              try simp only [Act.put, List.setIfInBounds_toArray, List.set_cons_zero, List.set_cons_succ]
              refine wpAnyH_take (i := 9) (v := undef) (at_list rfl) (by kernel_rfl) (by kernel_rfl) (by kernel_rfl) (fun _ _ _ h => h) (Or.inr ⟨by rfl, rfl⟩) hHeld ?_
              try simp only [Act.put, List.setIfInBounds_toArray, List.set_cons_zero, List.set_cons_succ]
              refine wpAnyH_take (i := 10) (v := undef) (at_list rfl) (by kernel_rfl) (by kernel_rfl) (by kernel_rfl) (fun _ _ _ h => h) (Or.inr ⟨by rfl, rfl⟩) hHeld ?_
              try simp only [Act.put, List.setIfInBounds_toArray, List.set_cons_zero, List.set_cons_succ]
              refine wpAnyH_take (i := 11) (v := undef) (at_list rfl) (by kernel_rfl) (by kernel_rfl) (by kernel_rfl) (fun _ _ _ h => h) (Or.inr ⟨by rfl, rfl⟩) hHeld ?_
              try simp only [Act.put, List.setIfInBounds_toArray, List.set_cons_zero, List.set_cons_succ]
              refine wpAnyH_take (i := 12) (v := undef) (at_list rfl) (by kernel_rfl) (by kernel_rfl) (by kernel_rfl) (fun _ _ _ h => h) (Or.inr ⟨by rfl, rfl⟩) hHeld ?_
              try simp only [Act.put, List.setIfInBounds_toArray, List.set_cons_zero, List.set_cons_succ]
              refine wpAnyH_take (i := 13) (v := undef) (at_list rfl) (by kernel_rfl) (by kernel_rfl) (by kernel_rfl) (fun _ _ _ h => h) (Or.inr ⟨by rfl, rfl⟩) hHeld ?_
              try simp only [Act.put, List.setIfInBounds_toArray, List.set_cons_zero, List.set_cons_succ]
              refine wpAnyH_take (i := 14) (v := undef) (at_list rfl) (by kernel_rfl) (by kernel_rfl) (by kernel_rfl) (fun _ _ _ h => h) (Or.inr ⟨by rfl, rfl⟩) hHeld ?_
              try simp only [Act.put, List.setIfInBounds_toArray, List.set_cons_zero, List.set_cons_succ]
              refine wpAnyH_take (i := 15) (v := undef) (at_list rfl) (by kernel_rfl) (by kernel_rfl) (by kernel_rfl) (fun _ _ _ h => h) (Or.inr ⟨by rfl, rfl⟩) hHeld ?_
              try simp only [Act.put, List.setIfInBounds_toArray, List.set_cons_zero, List.set_cons_succ]
              refine wpAnyH_take (i := 16) (v := undef) (at_list rfl) (by kernel_rfl) (by kernel_rfl) (by kernel_rfl) (fun _ _ _ h => h) (Or.inr ⟨by rfl, rfl⟩) hHeld ?_
              try simp only [Act.put, List.setIfInBounds_toArray, List.set_cons_zero, List.set_cons_succ]
              refine wpAnyH_take (i := 17) (v := .bool false) (at_list rfl) (by kernel_rfl) (by kernel_rfl) (by kernel_rfl) (fun _ _ _ h => h) (Or.inl ⟨by rfl, ?_⟩) hHeld ?_
              · intro v hSv
                clear hHeld
                go_simp
              try simp only [Act.put, List.setIfInBounds_toArray, List.set_cons_zero, List.set_cons_succ]
              refine wpAnyH_done (by kernel_rfl) ?_ _
              refine NoPanic.normal ?_
              have HB := Lib.hid hHeld.1
              have RI := Lib.hid hHeld.2.1
              have K4 := Lib.hid hHeld.2.2.1
              have K5 := Lib.hid hHeld.2.2.2.1
              have OW := Lib.hid hHeld.2.2.2.2.1
              have K8 := Lib.hid hHeld.2.2.2.2.2.1
              clear hHeld
              have x17 := (K4.out).reads (i := 17) (x := .slice (some ⟨g, o, none⟩) n1 d1) rfl
              go_wp2_with (first | (refine big_append rfl _ _ 28 76 rfl _ 11 32 Tryd.underlying28 info_rl rfl (by omega) (by omega) B rfl OW.out gK9 1 (rlA y).toList rfl rfl ((K9.out).range (by kernel_rfl)) (by kernel_rfl) (by omega) (by have := HLE.out; omega) ?_; intro x2 w9 ow9 hg9 hn9; replace RI := Lib.hid ((RI.out).grown hg9 LBRI.out (fun b hb => (OW.out).ne hb)); replace K4 := Lib.hid ((K4.out).grown hg9 ((OW.out).ne LBK4.out)); replace K5 := Lib.hid ((K5.out).grown hg9 ((OW.out).ne LBK5.out)); replace K8 := Lib.hid ((K8.out).grown hg9 ((OW.out).ne LBK8.out)); replace HB := Lib.hid ((OW.out).hb HWB.out HB.out hg9); replace OW := Lib.hid ow9; clear ow9 hg9 hn9 K9; try simp only [Act.put, List.setIfInBounds_toArray, List.set_cons_zero, List.set_cons_succ]) | (refine big_slices rfl 28 76 1 _ rfl (rlA y) 11 Tryd.underlying28 rfl rfl rfl (of_decide_eq_true (by kernel_rfl)) (of_decide_eq_true (by kernel_rfl)) (by kernel_rfl) ?_; intro gK9 wK9 hlK9 nK9 hbK9; have K9 := Lib.hid nK9; replace OW := Lib.hid ((OW.out).keptB hbK9); replace RI := Lib.hid ((RI.out).keptB hbK9); replace K4 := Lib.hid ((K4.out).keptB hbK9); replace K5 := Lib.hid ((K5.out).keptB hbK9); replace K8 := Lib.hid ((K8.out).keptB hbK9); replace HB := Lib.hid (bstep HB.out hbK9); clear hlK9 nK9 hbK9; try simp only [Act.put, List.setIfInBounds_toArray, List.set_cons_zero, List.set_cons_succ]) | (refine big_loadAt rfl 76 _ rfl g (o + j * 11) rfl (rlA y) (las_at (RI.out).L HXE.out) Tryd.underlying76 rfl (by kernel_rfl) ?_; try simp only [Act.put, List.setIfInBounds_toArray, List.set_cons_zero, List.set_cons_succ]) | (refine big_index rfl 28 _ _ rfl g o n1 d1 j 11 rfl rfl HK.out Tryd.underlying28 (by kernel_rfl) ?_; try simp only [Act.put, List.setIfInBounds_toArray, List.set_cons_zero, List.set_cons_succ]))
              replace OW := Lib.hid (rl_snoc OW.out)
              go_roundw
              case rel => exact ⟨j + 1, (F ++ [y]), _, by omega, rfl, by go_num, HF2, HB2, OW, RI, K4, K5, K8, HB⟩
              case measure => simp [intOf]; omega
            · cases hkk : (y.k == k)
              · have HHIT : hitL q k y = false := by unfold hitL; rw [hq, hkk]; rfl
                have HF2 : Hid (restL (r.L.take (j + 1)) q k = F ++ [y]) := by rw [Hid, HST.out, HHIT]; rfl
                have HB2 : Hid ((r.L.take (j + 1)).any (badL q k s) = false) := by rw [Hid, HBS.out]; unfold badL; rw [HHIT]; rfl
                clear HHIT
                have HQ := Lib.hid hq
                clear hq
                refine wp_region_noPanic ?_
                refine wp_region_held_drew (S := fun v => Below w.heap.size w v ∧ RbIn v r ⟨A, n, c⟩ ⟨some ⟨g, o, none⟩, n1, d1⟩ s3 ∧ Holds v gK4 31 (rbA r.sent ⟨A, n, c⟩ ⟨some ⟨g, o, none⟩, n1, d1⟩ s3) ∧ Holds v gK5 35 (ptA q) ∧ RowB v B 76 11 F.length x (rowsL F) ∧ Holds v gK8 31 (rbA (fun _ => 0) nilS nilS nilS) ∧ True) (by kernel_rfl) ?_ (fun hHeld => ?_)
                · exact ⟨bdrew HB.out, (RI.out).drew, (K4.out).drew, (K5.out).drew, (OW.out).drew, (K8.out).drew, trivial⟩
                clear HB RI K4 K5 OW K8
                refine wpAnyH_take (i := 0) (v := .pointer (some ⟨gK4, 17, none⟩)) (at_list rfl) (by kernel_rfl) (by kernel_rfl) (by kernel_rfl) (fun _ _ _ h => h) (Or.inl ⟨by rfl, ?_⟩) hHeld ?_
                · intro v hSv
                  clear hHeld
                  go_simp
                try simp only [Act.put, List.setIfInBounds_toArray, List.set_cons_zero, List.set_cons_succ]
                refine wpAnyH_take (i := 1) (v := .slice (some ⟨g, o, none⟩) n1 d1) (at_list rfl) (by kernel_rfl) (by kernel_rfl) (by kernel_rfl) (fun _ _ _ h => h) (Or.inl ⟨by rfl, ?_⟩) hHeld ?_
                · intro v hSv
                  clear hHeld
                  have q := Holds.reads (hSv.2.2.1) (i := 17) (x := .slice (some ⟨g, o, none⟩) n1 d1) rfl
                  clear hSv
                  go_simp
                try simp only [Act.put, List.setIfInBounds_toArray, List.set_cons_zero, List.set_cons_succ]
                refine wpAnyH_take (i := 2) (v := .int .i64 j) (at_list rfl) (by kernel_rfl) (by kernel_rfl) (by kernel_rfl) (fun _ _ _ h => h) (Or.inl ⟨by rfl, ?_⟩) hHeld ?_
                · intro v hSv
                  clear hHeld
                  go_simp
                try simp only [Act.put, List.setIfInBounds_toArray, List.set_cons_zero, List.set_cons_succ]
                refine wpAnyH_take (i := 3) (v := .pointer (some ⟨g, o + j * 11, none⟩)) (at_list rfl) (by kernel_rfl) (by kernel_rfl) (by kernel_rfl) (fun _ _ _ h => h) (yields_index (by rfl) 28 _ _ rfl g o n1 d1 j 11 rfl rfl HK.out Tryd.underlying28 (by kernel_rfl)) hHeld ?_
                try simp only [Act.put, List.setIfInBounds_toArray, List.set_cons_zero, List.set_cons_succ]
                refine wpAnyH_take (i := 4) (v := .pointer (some ⟨g, o + j * 11, none⟩)) (at_list rfl) (by kernel_rfl) (by kernel_rfl) (by kernel_rfl) (fun _ _ _ h => h) (Or.inl ⟨by rfl, ?_⟩) hHeld ?_
                · intro v hSv
                  clear hHeld
                  go_simp
                try simp only [Act.put, List.setIfInBounds_toArray, List.set_cons_zero, List.set_cons_succ]
                refine wpAnyH_take (i := 5) (v := .agg (ptA y.p)) (at_list rfl) (by kernel_rfl) (by kernel_rfl) (by kernel_rfl) (fun _ _ _ h => h) (yieldsIf_load_mid (by rfl) 35 _ rfl g (o + j * 11) rfl (ptA y.p).toList _ (fun v hv => las_port (hv.2.1).L HXE.out) Tryd.underlying35 rfl (by kernel_rfl)) hHeld ?_
                try simp only [Act.put, List.setIfInBounds_toArray, List.set_cons_zero, List.set_cons_succ]
                refine wpAnyH_take (i := 6) (v := .agg (ptA q)) (at_list rfl) (by kernel_rfl) (by kernel_rfl) (by kernel_rfl) (fun _ _ _ h => h) (yields_whole (by rfl) 35 _ rfl gK5 rfl (fun v hv => hv.2.2.2.1) Tryd.underlying35 rfl (by kernel_rfl)) hHeld ?_
                try simp only [Act.put, List.setIfInBounds_toArray, List.set_cons_zero, List.set_cons_succ]
                refine wpAnyH_take (i := 7) (v := .bool true) (at_list rfl) (by kernel_rfl) (by kernel_rfl) (by kernel_rfl) (fun _ _ _ h => h) (yields_cmp (by rfl) .eql 35 _ _ _ rfl (ptA y.p) (ptA q) rfl rfl (by kernel_rfl) true (fun v => (eql_port y.p q v).trans (by rw [HQ.out]))) hHeld ?_
                try simp only [Act.put, List.setIfInBounds_toArray, List.set_cons_zero, List.set_cons_succ]
                refine wpAnyH_take (i := 8) (v := .bool true) (at_list rfl) (by kernel_rfl) (by kernel_rfl) (by kernel_rfl) (fun _ _ _ h => h) (Or.inl ⟨by rfl, ?_⟩) hHeld ?_
                · intro v hSv
                  clear hHeld
                  go_simp
                try simp only [Act.put, List.setIfInBounds_toArray, List.set_cons_zero, List.set_cons_succ]
                refine wpAnyH_take (i := 9) (v := .pointer (some ⟨gK4, 17, none⟩)) (at_list rfl) (by kernel_rfl) (by kernel_rfl) (by kernel_rfl) (fun _ _ _ h => h) (Or.inl ⟨by rfl, ?_⟩) hHeld ?_
                · intro v hSv
                  clear hHeld
                  go_simp
                try simp only [Act.put, List.setIfInBounds_toArray, List.set_cons_zero, List.set_cons_succ]
                refine wpAnyH_take (i := 10) (v := .slice (some ⟨g, o, none⟩) n1 d1) (at_list rfl) (by kernel_rfl) (by kernel_rfl) (by kernel_rfl) (fun _ _ _ h => h) (Or.inl ⟨by rfl, ?_⟩) hHeld ?_
                · intro v hSv
                  clear hHeld
                  have q := Holds.reads (hSv.2.2.1) (i := 17) (x := .slice (some ⟨g, o, none⟩) n1 d1) rfl
                  clear hSv
                  go_simp
                try simp only [Act.put, List.setIfInBounds_toArray, List.set_cons_zero, List.set_cons_succ]
                refine wpAnyH_take (i := 11) (v := .int .i64 j) (at_list rfl) (by kernel_rfl) (by kernel_rfl) (by kernel_rfl) (fun _ _ _ h => h) (Or.inl ⟨by rfl, ?_⟩) hHeld ?_
                · intro v hSv
                  clear hHeld
                  go_simp
                try simp only [Act.put, List.setIfInBounds_toArray, List.set_cons_zero, List.set_cons_succ]
                refine wpAnyH_take (i := 12) (v := .pointer (some ⟨g, o + j * 11, none⟩)) (at_list rfl) (by kernel_rfl) (by kernel_rfl) (by kernel_rfl) (fun _ _ _ h => h) (yields_index (by rfl) 28 _ _ rfl g o n1 d1 j 11 rfl rfl HK.out Tryd.underlying28 (by kernel_rfl)) hHeld ?_
                try simp only [Act.put, List.setIfInBounds_toArray, List.set_cons_zero, List.set_cons_succ]
                refine wpAnyH_take (i := 13) (v := .pointer (some ⟨g, o + j * 11 + 9, none⟩)) (at_list rfl) (by kernel_rfl) (by kernel_rfl) (by kernel_rfl) (fun _ _ _ h => h) (Or.inl ⟨by rfl, ?_⟩) hHeld ?_
                · intro v hSv
                  clear hHeld
                  go_simp
                try simp only [Act.put, List.setIfInBounds_toArray, List.set_cons_zero, List.set_cons_succ]
                refine wpAnyH_take (i := 14) (v := .int .i64 y.k) (at_list rfl) (by kernel_rfl) (by kernel_rfl) (by kernel_rfl) (fun _ _ _ h => h) (Or.inl ⟨by rfl, ?_⟩) hHeld ?_
                · intro v hSv
                  clear hHeld
                  have q_ := las_k (hSv.2.1).L HXE.out
                  clear hSv
                  go_simp
                try simp only [Act.put, List.setIfInBounds_toArray, List.set_cons_zero, List.set_cons_succ]
                refine wpAnyH_take (i := 15) (v := .int .i64 k) (at_list rfl) (by kernel_rfl) (by kernel_rfl) (by kernel_rfl) (fun _ _ _ h => h) (Or.inl ⟨by rfl, ?_⟩) hHeld ?_
                · intro v hSv
                  clear hHeld
                  go_simp
                try simp only [Act.put, List.setIfInBounds_toArray, List.set_cons_zero, List.set_cons_succ]
                refine wpAnyH_take (i := 16) (v := .bool false) (at_list rfl) (by kernel_rfl) (by kernel_rfl) (by kernel_rfl) (fun _ _ _ h => h) (Or.inl ⟨by rfl, ?_⟩) hHeld ?_
                · intro v hSv
                  clear hHeld
                  go_simp
                try simp only [Act.put, List.setIfInBounds_toArray, List.set_cons_zero, List.set_cons_succ]
                refine wpAnyH_take (i := 17) (v := .bool false) (at_list rfl) (by kernel_rfl) (by kernel_rfl) (by kernel_rfl) (fun _ _ _ h => h) (Or.inl ⟨by rfl, ?_⟩) hHeld ?_
                · intro v hSv
                  clear hHeld
                  go_simp
                try simp only [Act.put, List.setIfInBounds_toArray, List.set_cons_zero, List.set_cons_succ]
                refine wpAnyH_done (by kernel_rfl) ?_ _
                refine NoPanic.normal ?_
                have HB := Lib.hid hHeld.1
                have RI := Lib.hid hHeld.2.1
                have K4 := Lib.hid hHeld.2.2.1
                have K5 := Lib.hid hHeld.2.2.2.1
                have OW := Lib.hid hHeld.2.2.2.2.1
                have K8 := Lib.hid hHeld.2.2.2.2.2.1
                clear hHeld
                clear hkk
                have x17 := (K4.out).reads (i := 17) (x := .slice (some ⟨g, o, none⟩) n1 d1) rfl
                go_wp2_with (first | (refine big_append rfl _ _ 28 76 rfl _ 11 32 Tryd.underlying28 info_rl rfl (by omega) (by omega) B rfl OW.out gK9 1 (rlA y).toList rfl rfl ((K9.out).range (by kernel_rfl)) (by kernel_rfl) (by omega) (by have := HLE.out; omega) ?_; intro x2 w9 ow9 hg9 hn9; replace RI := Lib.hid ((RI.out).grown hg9 LBRI.out (fun b hb => (OW.out).ne hb)); replace K4 := Lib.hid ((K4.out).grown hg9 ((OW.out).ne LBK4.out)); replace K5 := Lib.hid ((K5.out).grown hg9 ((OW.out).ne LBK5.out)); replace K8 := Lib.hid ((K8.out).grown hg9 ((OW.out).ne LBK8.out)); replace HB := Lib.hid ((OW.out).hb HWB.out HB.out hg9); replace OW := Lib.hid ow9; clear ow9 hg9 hn9 K9; try simp only [Act.put, List.setIfInBounds_toArray, List.set_cons_zero, List.set_cons_succ]) | (refine big_slices rfl 28 76 1 _ rfl (rlA y) 11 Tryd.underlying28 rfl rfl rfl (of_decide_eq_true (by kernel_rfl)) (of_decide_eq_true (by kernel_rfl)) (by kernel_rfl) ?_; intro gK9 wK9 hlK9 nK9 hbK9; have K9 := Lib.hid nK9; replace OW := Lib.hid ((OW.out).keptB hbK9); replace RI := Lib.hid ((RI.out).keptB hbK9); replace K4 := Lib.hid ((K4.out).keptB hbK9); replace K5 := Lib.hid ((K5.out).keptB hbK9); replace K8 := Lib.hid ((K8.out).keptB hbK9); replace HB := Lib.hid (bstep HB.out hbK9); clear hlK9 nK9 hbK9; try simp only [Act.put, List.setIfInBounds_toArray, List.set_cons_zero, List.set_cons_succ]) | (refine big_loadAt rfl 76 _ rfl g (o + j * 11) rfl (rlA y) (las_at (RI.out).L HXE.out) Tryd.underlying76 rfl (by kernel_rfl) ?_; try simp only [Act.put, List.setIfInBounds_toArray, List.set_cons_zero, List.set_cons_succ]) | (refine big_index rfl 28 _ _ rfl g o n1 d1 j 11 rfl rfl HK.out Tryd.underlying28 (by kernel_rfl) ?_; try simp only [Act.put, List.setIfInBounds_toArray, List.set_cons_zero, List.set_cons_succ]))
                replace OW := Lib.hid (rl_snoc OW.out)
                go_roundw
                case rel => exact ⟨j + 1, (F ++ [y]), _, by omega, rfl, by go_num, HF2, HB2, OW, RI, K4, K5, K8, HB⟩
                case measure => simp [intOf]; omega
              · have HHIT : Hid (hitL q k y = true) := by unfold hitL; rw [Hid, hq, hkk]; rfl
                have HQ := Lib.hid hq
                clear hq
                refine wp_region_noPanic ?_
                refine wp_region_held_drew (S := fun v => Below w.heap.size w v ∧ RbIn v r ⟨A, n, c⟩ ⟨some ⟨g, o, none⟩, n1, d1⟩ s3 ∧ Holds v gK4 31 (rbA r.sent ⟨A, n, c⟩ ⟨some ⟨g, o, none⟩, n1, d1⟩ s3) ∧ Holds v gK5 35 (ptA q) ∧ RowB v B 76 11 F.length x (rowsL F) ∧ Holds v gK8 31 (rbA (fun _ => 0) nilS nilS nilS) ∧ True) (by kernel_rfl) ?_ (fun hHeld => ?_)
                · exact ⟨bdrew HB.out, (RI.out).drew, (K4.out).drew, (K5.out).drew, (OW.out).drew, (K8.out).drew, trivial⟩
                clear HB RI K4 K5 OW K8
                refine wpAnyH_take (i := 0) (v := .pointer (some ⟨gK4, 17, none⟩)) (at_list rfl) (by kernel_rfl) (by kernel_rfl) (by kernel_rfl) (fun _ _ _ h => h) (Or.inl ⟨by rfl, ?_⟩) hHeld ?_
                · intro v hSv
                  clear hHeld
                  go_simp
                try simp only [Act.put, List.setIfInBounds_toArray, List.set_cons_zero, List.set_cons_succ]
                refine wpAnyH_take (i := 1) (v := .slice (some ⟨g, o, none⟩) n1 d1) (at_list rfl) (by kernel_rfl) (by kernel_rfl) (by kernel_rfl) (fun _ _ _ h => h) (Or.inl ⟨by rfl, ?_⟩) hHeld ?_
                · intro v hSv
                  clear hHeld
                  have q := Holds.reads (hSv.2.2.1) (i := 17) (x := .slice (some ⟨g, o, none⟩) n1 d1) rfl
                  clear hSv
                  go_simp
                try simp only [Act.put, List.setIfInBounds_toArray, List.set_cons_zero, List.set_cons_succ]
                refine wpAnyH_take (i := 2) (v := .int .i64 j) (at_list rfl) (by kernel_rfl) (by kernel_rfl) (by kernel_rfl) (fun _ _ _ h => h) (Or.inl ⟨by rfl, ?_⟩) hHeld ?_
                · intro v hSv
                  clear hHeld
                  go_simp
                try simp only [Act.put, List.setIfInBounds_toArray, List.set_cons_zero, List.set_cons_succ]
                refine wpAnyH_take (i := 3) (v := .pointer (some ⟨g, o + j * 11, none⟩)) (at_list rfl) (by kernel_rfl) (by kernel_rfl) (by kernel_rfl) (fun _ _ _ h => h) (yields_index (by rfl) 28 _ _ rfl g o n1 d1 j 11 rfl rfl HK.out Tryd.underlying28 (by kernel_rfl)) hHeld ?_
                try simp only [Act.put, List.setIfInBounds_toArray, List.set_cons_zero, List.set_cons_succ]
                refine wpAnyH_take (i := 4) (v := .pointer (some ⟨g, o + j * 11, none⟩)) (at_list rfl) (by kernel_rfl) (by kernel_rfl) (by kernel_rfl) (fun _ _ _ h => h) (Or.inl ⟨by rfl, ?_⟩) hHeld ?_
                · intro v hSv
                  clear hHeld
                  go_simp
                try simp only [Act.put, List.setIfInBounds_toArray, List.set_cons_zero, List.set_cons_succ]
                refine wpAnyH_take (i := 5) (v := .agg (ptA y.p)) (at_list rfl) (by kernel_rfl) (by kernel_rfl) (by kernel_rfl) (fun _ _ _ h => h) (yieldsIf_load_mid (by rfl) 35 _ rfl g (o + j * 11) rfl (ptA y.p).toList _ (fun v hv => las_port (hv.2.1).L HXE.out) Tryd.underlying35 rfl (by kernel_rfl)) hHeld ?_
                try simp only [Act.put, List.setIfInBounds_toArray, List.set_cons_zero, List.set_cons_succ]
                refine wpAnyH_take (i := 6) (v := .agg (ptA q)) (at_list rfl) (by kernel_rfl) (by kernel_rfl) (by kernel_rfl) (fun _ _ _ h => h) (yields_whole (by rfl) 35 _ rfl gK5 rfl (fun v hv => hv.2.2.2.1) Tryd.underlying35 rfl (by kernel_rfl)) hHeld ?_
                try simp only [Act.put, List.setIfInBounds_toArray, List.set_cons_zero, List.set_cons_succ]
                refine wpAnyH_take (i := 7) (v := .bool true) (at_list rfl) (by kernel_rfl) (by kernel_rfl) (by kernel_rfl) (fun _ _ _ h => h) (yields_cmp (by rfl) .eql 35 _ _ _ rfl (ptA y.p) (ptA q) rfl rfl (by kernel_rfl) true (fun v => (eql_port y.p q v).trans (by rw [HQ.out]))) hHeld ?_
                try simp only [Act.put, List.setIfInBounds_toArray, List.set_cons_zero, List.set_cons_succ]
                refine wpAnyH_take (i := 8) (v := .bool true) (at_list rfl) (by kernel_rfl) (by kernel_rfl) (by kernel_rfl) (fun _ _ _ h => h) (Or.inl ⟨by rfl, ?_⟩) hHeld ?_
                · intro v hSv
                  clear hHeld
                  go_simp
                try simp only [Act.put, List.setIfInBounds_toArray, List.set_cons_zero, List.set_cons_succ]
                refine wpAnyH_take (i := 9) (v := .pointer (some ⟨gK4, 17, none⟩)) (at_list rfl) (by kernel_rfl) (by kernel_rfl) (by kernel_rfl) (fun _ _ _ h => h) (Or.inl ⟨by rfl, ?_⟩) hHeld ?_
                · intro v hSv
                  clear hHeld
                  go_simp
                try simp only [Act.put, List.setIfInBounds_toArray, List.set_cons_zero, List.set_cons_succ]
                refine wpAnyH_take (i := 10) (v := .slice (some ⟨g, o, none⟩) n1 d1) (at_list rfl) (by kernel_rfl) (by kernel_rfl) (by kernel_rfl) (fun _ _ _ h => h) (Or.inl ⟨by rfl, ?_⟩) hHeld ?_
                · intro v hSv
                  clear hHeld
                  have q := Holds.reads (hSv.2.2.1) (i := 17) (x := .slice (some ⟨g, o, none⟩) n1 d1) rfl
                  clear hSv
                  go_simp
                try simp only [Act.put, List.setIfInBounds_toArray, List.set_cons_zero, List.set_cons_succ]
                refine wpAnyH_take (i := 11) (v := .int .i64 j) (at_list rfl) (by kernel_rfl) (by kernel_rfl) (by kernel_rfl) (fun _ _ _ h => h) (Or.inl ⟨by rfl, ?_⟩) hHeld ?_
                · intro v hSv
                  clear hHeld
                  go_simp
                try simp only [Act.put, List.setIfInBounds_toArray, List.set_cons_zero, List.set_cons_succ]
                refine wpAnyH_take (i := 12) (v := .pointer (some ⟨g, o + j * 11, none⟩)) (at_list rfl) (by kernel_rfl) (by kernel_rfl) (by kernel_rfl) (fun _ _ _ h => h) (yields_index (by rfl) 28 _ _ rfl g o n1 d1 j 11 rfl rfl HK.out Tryd.underlying28 (by kernel_rfl)) hHeld ?_
                try simp only [Act.put, List.setIfInBounds_toArray, List.set_cons_zero, List.set_cons_succ]
                refine wpAnyH_take (i := 13) (v := .pointer (some ⟨g, o + j * 11 + 9, none⟩)) (at_list rfl) (by kernel_rfl) (by kernel_rfl) (by kernel_rfl) (fun _ _ _ h => h) (Or.inl ⟨by rfl, ?_⟩) hHeld ?_
                · intro v hSv
                  clear hHeld
                  go_simp
                try simp only [Act.put, List.setIfInBounds_toArray, List.set_cons_zero, List.set_cons_succ]
                refine wpAnyH_take (i := 14) (v := .int .i64 y.k) (at_list rfl) (by kernel_rfl) (by kernel_rfl) (by kernel_rfl) (fun _ _ _ h => h) (Or.inl ⟨by rfl, ?_⟩) hHeld ?_
                · intro v hSv
                  clear hHeld
                  have q_ := las_k (hSv.2.1).L HXE.out
                  clear hSv
                  go_simp
                try simp only [Act.put, List.setIfInBounds_toArray, List.set_cons_zero, List.set_cons_succ]
                refine wpAnyH_take (i := 15) (v := .int .i64 k) (at_list rfl) (by kernel_rfl) (by kernel_rfl) (by kernel_rfl) (fun _ _ _ h => h) (Or.inl ⟨by rfl, ?_⟩) hHeld ?_
                · intro v hSv
                  clear hHeld
                  go_simp
                try simp only [Act.put, List.setIfInBounds_toArray, List.set_cons_zero, List.set_cons_succ]
                refine wpAnyH_take (i := 16) (v := .bool true) (at_list rfl) (by kernel_rfl) (by kernel_rfl) (by kernel_rfl) (fun _ _ _ h => h) (Or.inl ⟨by rfl, ?_⟩) hHeld ?_
                · intro v hSv
                  clear hHeld
                  go_simp
                try simp only [Act.put, List.setIfInBounds_toArray, List.set_cons_zero, List.set_cons_succ]
                refine wpAnyH_take (i := 17) (v := .bool true) (at_list rfl) (by kernel_rfl) (by kernel_rfl) (by kernel_rfl) (fun _ _ _ h => h) (Or.inl ⟨by rfl, ?_⟩) hHeld ?_
                · intro v hSv
                  clear hHeld
                  go_simp
                try simp only [Act.put, List.setIfInBounds_toArray, List.set_cons_zero, List.set_cons_succ]
                refine wpAnyH_done (by kernel_rfl) ?_ _
                refine NoPanic.normal ?_
                have HB := Lib.hid hHeld.1
                have RI := Lib.hid hHeld.2.1
                have K4 := Lib.hid hHeld.2.2.1
                have K5 := Lib.hid hHeld.2.2.2.1
                have OW := Lib.hid hHeld.2.2.2.2.1
                have K8 := Lib.hid hHeld.2.2.2.2.2.1
                clear hHeld
                clear hkk
                have x17 := (K4.out).reads (i := 17) (x := .slice (some ⟨g, o, none⟩) n1 d1) rfl
                have xs := las_s (RI.out).L HXE.out
                go_wp2_with ((refine big_index rfl 28 _ _ rfl g o n1 d1 j 11 rfl rfl HK.out Tryd.underlying28 (by kernel_rfl) ?_; try simp only [Act.put, List.setIfInBounds_toArray, List.set_cons_zero, List.set_cons_succ]))
                clear x17 xs
                refine (rbehind_any s y.s _).mono ?_
                rintro e w7 ⟨rfl, rfl⟩
                cases hbh : behindB s y.s
                · have HX : Hid (rfreshOk r q k s = false) := bad_no (by rw [List.any_eq_true]; exact ⟨y, List.mem_of_getElem? HXE.out, by unfold badL; rw [HHIT.out, hbh]; rfl⟩)
                  clear hbh OW
                  have HY : Hid (rfreshR r q k s = r) := rfresh_stays HX.out
                  go_wp2_with (first | (refine big_fill rfl 31 _ _ rfl gK8 (rbA r.sent ⟨A, n, c⟩ ⟨some ⟨g, o, none⟩, n1, d1⟩ s3) rfl rfl K8.out (by kernel_rfl) (by kernel_rfl) (by kernel_rfl) ?_; intro vK85 nK8 htK8; replace K8 := Lib.hid nK8; replace RI := Lib.hid ((RI.out).touch htK8 ORIK8.out); replace K4 := Lib.hid ((K4.out).touch htK8 OK4K8.out); replace K5 := Lib.hid ((K5.out).touch htK8 OK5K8.out); replace HB := Lib.hid (btouch HB.out htK8 LK8.out); clear nK8 htK8; try simp only [Act.put, List.setIfInBounds_toArray, List.set_cons_zero, List.set_cons_succ]) | (refine big_whole rfl 31 _ rfl gK4 rfl K4.out Tryd.underlying31 rfl (by kernel_rfl) ?_; try simp only [Act.put, List.setIfInBounds_toArray, List.set_cons_zero, List.set_cons_succ]))
                  try rw [Exit.noGoto_ret]
                  refine bodyPost_ret (v := .tuple #[.agg (rbA r.sent ⟨A, n, c⟩ ⟨some ⟨g, o, none⟩, n1, d1⟩ s3), .bool false]) (results_two rfl _ _ gK8 _ _ _ _ rfl rfl (K8).out Tryd.underlying31 rfl (by kernel_rfl)) rfl ?_
                  rw [HX.out, HY.out]
                  exact ⟨_, _, _, rfl, RI.out, HB.out⟩
                · have HF2 : Hid (restL (r.L.take (j + 1)) q k = F) := by rw [Hid, HST.out, HHIT.out]; simp
                  have HB2 : Hid ((r.L.take (j + 1)).any (badL q k s) = false) := by rw [Hid, HBS.out]; unfold badL; rw [HHIT.out, hbh]; rfl
                  clear hbh
                  go_wp2
                  go_roundw
                  case rel => exact ⟨j + 1, F, _, by omega, rfl, by go_num, HF2, HB2, OW, RI, K4, K5, K8, HB⟩
                  case measure => simp [intOf]; omega
          · have hd : decide ((j : Int) < (n1 : Int)) = false := by simpa using hlt
            obtain rfl : n1 = j := by omega
            have x17 := (K4.out).reads (i := 17) (x := .slice A1 n1 d1) rfl
            rw [List.take_of_length_le (by rw [HLM.out]; omega)] at HF HBA
            obtain rfl := HF.out
            have HLE : Hid ((restL r.L q k).length ≤ 10000) := Nat.le_trans (restL_le _ _ _) HL.out
            go_upto_region 11 with fail
            clear x17 hd
            go_wp2_with (first | (refine big_whole rfl 31 _ rfl gK4 rfl K4.out Tryd.underlying31 rfl (by kernel_rfl) ?_; try simp only [Act.put, List.setIfInBounds_toArray, List.set_cons_zero, List.set_cons_succ]) | (refine big_whole rfl 35 _ rfl gK5 rfl K5.out Tryd.underlying35 rfl (by kernel_rfl) ?_; try simp only [Act.put, List.setIfInBounds_toArray, List.set_cons_zero, List.set_cons_succ]))
            refine (rknown11_any r.sent A n c ⟨A1, n1, d1⟩ s3 r.S q _ (RI.out).S (by omega)).mono ?_
            rintro e c1 ⟨rfl, hc1⟩
            replace RI := Lib.hid ((RI.out).keptB hc1)
            replace K4 := Lib.hid ((K4.out).keptB hc1)
            replace K5 := Lib.hid ((K5.out).keptB hc1)
            replace K8 := Lib.hid ((K8.out).keptB hc1)
            replace OW := Lib.hid ((OW.out).keptB hc1)
            replace HB := Lib.hid (bstep HB.out hc1)
            clear hc1
            cases hq : knownB r.S q
            · have x16 := (K4.out).reads (i := 16) (x := .slice A n c) rfl
              by_cases hl : r.S.length < 16
              · obtain ⟨hx1, hx2⟩ := fresh_more HOKN.out HBA.out hq hl
                have HX := Lib.hid hx1
                have HY := Lib.hid hx2
                have dl : decide ((16 : Int) ≤ (n : Int)) = false := decide_eq_false (by have := HLN.out; omega)
                have HN16 : Hid (n < 16) := by rw [Hid]; have := HLN.out; omega
                clear hx1 hx2 hq hl
                go_upto_region 14 with fail
                obtain ⟨B2, hB2⟩ := size_isH K4
                have LCK4 := Lib.hid (show gK4 < B2 by rw [← hB2]; exact (K4.out).inside)
                have LCK5 := Lib.hid (show gK5 < B2 by rw [← hB2]; exact (K5.out).inside)
                have LCK8 := Lib.hid (show gK8 < B2 by rw [← hB2]; exact (K8.out).inside)
                have LCRI := Lib.hid ((RI.out).low (Nat.le_of_eq hB2))
                have HWC := Lib.hid (show w.heap.size ≤ B2 by rw [← hB2]; exact (HB.out).size)
                have LCOW : Hid (∀ b, x.ownBlock = some b → b < B2) := by rw [Hid, ← hB2]; exact fun b hb => ((OW.out).blocks b hb).2
                go_upto_region 15 with (first | (refine big_appendIn (α := Pt) rfl _ _ 27 35 rfl _ 16 Tryd.underlying27 info_pt rfl (by omega) B2 rfl (l0 := []) OS.out rfl (RI.out).S (by have := HN16.out; omega) ?_; intro x2 w9 ow9 hg9; replace RI := Lib.hid ((RI.out).grown hg9 LCRI.out (fun b hb => (OS.out).ne hb)); replace K4 := Lib.hid ((K4.out).grown hg9 ((OS.out).ne LCK4.out)); replace K5 := Lib.hid ((K5.out).grown hg9 ((OS.out).ne LCK5.out)); replace K8 := Lib.hid ((K8.out).grown hg9 ((OS.out).ne LCK8.out)); replace OW := Lib.hid ((OW.out).grown hg9 (fun b hb => (OS.out).ne ((LCOW.out) b hb))); replace HB := Lib.hid ((OS.out).hb HWC.out HB.out hg9); replace OS := Lib.hid ow9; clear ow9 hg9; try simp only [Act.put, List.setIfInBounds_toArray, List.set_cons_zero, List.set_cons_succ]) | (refine big_none rfl 27 35 rfl Tryd.underlying27 rfl 9 B2 (Nat.le_of_eq hB2.symm) ?_; intro gN wN hgN nN hbN; have OS := Lib.hid nN; replace RI := Lib.hid ((RI.out).keptB hbN); replace K4 := Lib.hid ((K4.out).keptB hbN); replace K5 := Lib.hid ((K5.out).keptB hbN); replace K8 := Lib.hid ((K8.out).keptB hbN); replace OW := Lib.hid ((OW.out).keptB hbN); replace HB := Lib.hid (bstep HB.out hbN); clear hgN nN hbN hB2 x16; have x16 := (K4.out).reads (i := 16) (x := .slice A n c) rfl; try simp only [Act.put, List.setIfInBounds_toArray, List.set_cons_zero, List.set_cons_succ]))
                clear x16
                have HLS : Hid (0 + n ≤ 16) := by rw [Hid]; have := HN16.out; omega
                go_upto_region 16 with (first | (refine big_set rfl 27 _ _ rfl gK4 16 (.slice A5 n5 c5) rfl rfl K4.out (by kernel_rfl) rfl rfl (of_decide_eq_true (by kernel_rfl)) (rbA r.sent ⟨A5, n5, c5⟩ ⟨A1, n1, d1⟩ s3) (by kernel_rfl) ?_; intro vK45 nK4 htK4; replace OW := Lib.hid ((OW.out).touch htK4 ((OW.out).ne LBK4.out)); replace OS := Lib.hid ((OS.out).touch htK4 ((OS.out).ne LCK4.out)); replace RI := Lib.hid ((RI.out).touch htK4 ORIK4.out); replace K5 := Lib.hid ((K5.out).touch htK4 (Ne.symm OK4K5.out)); replace K8 := Lib.hid ((K8.out).touch htK4 (Ne.symm OK4K8.out)); replace HB := Lib.hid (btouch HB.out htK4 LK4.out); replace K4 := Lib.hid nK4; clear nK4 htK4; try simp only [Act.put, List.setIfInBounds_toArray, List.set_cons_zero, List.set_cons_succ]) | (refine big_append rfl _ _ 27 35 rfl _ 9 16 Tryd.underlying27 info_pt rfl (by omega) (by omega) B2 rfl OS.out gK9 1 (ptA q).toList rfl rfl ((K9.out).range (by kernel_rfl)) (by kernel_rfl) (by omega) (by have := HLS.out; omega) ?_; intro x2 w9 ow9 hg9 hn9; obtain ⟨A5, n5, c5, rfl⟩ := ow9.form_; replace RI := Lib.hid ((RI.out).grown hg9 LCRI.out (fun b hb => (OS.out).ne hb)); replace K4 := Lib.hid ((K4.out).grown hg9 ((OS.out).ne LCK4.out)); replace K5 := Lib.hid ((K5.out).grown hg9 ((OS.out).ne LCK5.out)); replace K8 := Lib.hid ((K8.out).grown hg9 ((OS.out).ne LCK8.out)); replace OW := Lib.hid ((OW.out).grown hg9 (fun b hb => (OS.out).ne ((LCOW.out) b hb))); replace HB := Lib.hid ((OS.out).hb HWC.out HB.out hg9); replace OS := Lib.hid ow9; clear ow9 hg9 hn9 K9; try simp only [Act.put, List.setIfInBounds_toArray, List.set_cons_zero, List.set_cons_succ]) | (refine big_slices rfl 27 35 1 _ rfl (ptA q) 9 Tryd.underlying27 rfl rfl rfl (of_decide_eq_true (by kernel_rfl)) (of_decide_eq_true (by kernel_rfl)) (by kernel_rfl) ?_; intro gK9 wK9 hlK9 nK9 hbK9; have K9 := Lib.hid nK9; replace OS := Lib.hid ((OS.out).keptB hbK9); replace RI := Lib.hid ((RI.out).keptB hbK9); replace K4 := Lib.hid ((K4.out).keptB hbK9); replace K5 := Lib.hid ((K5.out).keptB hbK9); replace K8 := Lib.hid ((K8.out).keptB hbK9); replace OW := Lib.hid ((OW.out).keptB hbK9); replace HB := Lib.hid (bstep HB.out hbK9); clear hlK9 nK9 hbK9; try simp only [Act.put, List.setIfInBounds_toArray, List.set_cons_zero, List.set_cons_succ]) | (refine big_whole rfl 35 _ rfl gK5 rfl K5.out Tryd.underlying35 rfl (by kernel_rfl) ?_; try simp only [Act.put, List.setIfInBounds_toArray, List.set_cons_zero, List.set_cons_succ]))
                have NESI4 : Hid (∀ g' o, A5 = some ⟨g', o, none⟩ → 0 < n5 → g' ≠ gK4) := row_far (OS.out) LCK4.out
                have NESI8 : Hid (∀ g' o, A5 = some ⟨g', o, none⟩ → 0 < n5 → g' ≠ gK8) := row_far (OS.out) LCK8.out
                have HFS : Hid (∀ g o, A5 = some ⟨g, o, none⟩ → 0 < n5 → x.ownBlock ≠ some g) := fun g o h1 _ h3 => by
                  subst h1
                  have e1 := (LCOW.out) g h3
                  have e2 := ((OS.out).blocks g rfl).1
                  omega
                have SI : Hid (RowsIn _ (.slice A5 n5 c5) (r.S ++ [q])) := (pt_end HLN.out OS.out).rows
                clear OS
                go_upto_region 17 with (first | (refine big_set rfl 28 _ _ rfl gK4 17 (.slice A6 n6 c6) rfl rfl K4.out (by kernel_rfl) rfl rfl (of_decide_eq_true (by kernel_rfl)) (rbA r.sent ⟨A5, n5, c5⟩ ⟨A6, n6, c6⟩ s3) (by kernel_rfl) ?_; intro vK46 nK4 htK4; replace OW := Lib.hid ((OW.out).touch htK4 ((OW.out).ne LBK4.out)); replace SI := Lib.hid ((SI.out).touch htK4 NESI4.out); replace RI := Lib.hid ((RI.out).touch htK4 ORIK4.out); replace K5 := Lib.hid ((K5.out).touch htK4 (Ne.symm OK4K5.out)); replace K8 := Lib.hid ((K8.out).touch htK4 (Ne.symm OK4K8.out)); replace HB := Lib.hid (btouch HB.out htK4 LK4.out); replace K4 := Lib.hid nK4; clear nK4 htK4; try simp only [Act.put, List.setIfInBounds_toArray, List.set_cons_zero, List.set_cons_succ]) | (refine big_append rfl _ _ 28 76 rfl _ 11 32 Tryd.underlying28 info_rl rfl (by omega) (by omega) B rfl OW.out gK9 1 (rlA ⟨q, k, s⟩).toList rfl rfl ((K9.out).range (by kernel_rfl)) (by kernel_rfl) (by omega) (by have := HLE.out; omega) ?_; intro x2 w9 ow9 hg9 hn9; obtain ⟨A6, n6, c6, rfl⟩ := ow9.form_; replace RI := Lib.hid ((RI.out).grown hg9 LBRI.out (fun b hb => (OW.out).ne hb)); replace K4 := Lib.hid ((K4.out).grown hg9 ((OW.out).ne LBK4.out)); replace K5 := Lib.hid ((K5.out).grown hg9 ((OW.out).ne LBK5.out)); replace K8 := Lib.hid ((K8.out).grown hg9 ((OW.out).ne LBK8.out)); replace SI := Lib.hid ((SI.out).grown hg9 HFS.out); replace HB := Lib.hid ((OW.out).hb HWB.out HB.out hg9); replace OW := Lib.hid ow9; clear ow9 hg9 hn9 K9; try simp only [Act.put, List.setIfInBounds_toArray, List.set_cons_zero, List.set_cons_succ]) | (refine big_slices rfl 28 76 1 _ rfl (rlA ⟨q, k, s⟩) 11 Tryd.underlying28 rfl rfl rfl (of_decide_eq_true (by kernel_rfl)) (of_decide_eq_true (by kernel_rfl)) (by kernel_rfl) ?_; intro gK9 wK9 hlK9 nK9 hbK9; have K9 := Lib.hid nK9; replace OW := Lib.hid ((OW.out).keptB hbK9); replace RI := Lib.hid ((RI.out).keptB hbK9); replace K4 := Lib.hid ((K4.out).keptB hbK9); replace K5 := Lib.hid ((K5.out).keptB hbK9); replace K8 := Lib.hid ((K8.out).keptB hbK9); replace SI := Lib.hid ((SI.out).keptB hbK9); replace HB := Lib.hid (bstep HB.out hbK9); clear hlK9 nK9 hbK9; try simp only [Act.put, List.setIfInBounds_toArray, List.set_cons_zero, List.set_cons_succ]) | (refine big_build rfl 76 _ rfl (rlA ⟨q, k, s⟩) (by kernel_rfl) ?_; try simp only [Act.put, List.setIfInBounds_toArray, List.set_cons_zero, List.set_cons_succ]) | (refine big_whole rfl 35 _ rfl gK5 rfl K5.out Tryd.underlying35 rfl (by kernel_rfl) ?_; try simp only [Act.put, List.setIfInBounds_toArray, List.set_cons_zero, List.set_cons_succ]))
                go_wp2_with (first | (refine big_fill rfl 31 _ _ rfl gK8 (rbA r.sent ⟨A5, n5, c5⟩ ⟨A6, n6, c6⟩ s3) rfl rfl K8.out (by kernel_rfl) (by kernel_rfl) (by kernel_rfl) ?_; intro vK87 nK8 htK8; replace OW := Lib.hid ((OW.out).touch htK8 ((OW.out).ne LBK8.out)); replace SI := Lib.hid ((SI.out).touch htK8 NESI8.out); replace RI := Lib.hid ((RI.out).touch htK8 ORIK8.out); replace HB := Lib.hid (btouch HB.out htK8 LK8.out); replace K8 := Lib.hid nK8; clear nK8 htK8; try simp only [Act.put, List.setIfInBounds_toArray, List.set_cons_zero, List.set_cons_succ]) | (refine big_whole rfl 31 _ rfl gK4 rfl K4.out Tryd.underlying31 rfl (by kernel_rfl) ?_; try simp only [Act.put, List.setIfInBounds_toArray, List.set_cons_zero, List.set_cons_succ]))
                try rw [Exit.noGoto_ret]
                refine bodyPost_ret (v := .tuple #[.agg (rbA r.sent ⟨A5, n5, c5⟩ ⟨A6, n6, c6⟩ s3), .bool true]) (results_two rfl _ _ gK8 _ _ _ _ rfl rfl (K8).out Tryd.underlying31 rfl (by kernel_rfl)) rfl ?_
                rw [HX.out, HY.out]
                exact ⟨⟨A5, n5, c5⟩, ⟨A6, n6, c6⟩, s3, rfl, ⟨SI.out, (rl_snoc OW.out).rows, (RI.out).H⟩, HB.out⟩
              · have HX : Hid (rfreshOk r q k s = false) := full_no hq hl
                have dl : decide ((16 : Int) ≤ (n : Int)) = true := decide_eq_true (by have := HLN.out; omega)
                clear hl hq OW
                go_upto_region 13 with fail
                clear x16
                have HY : Hid (rfreshR r q k s = r) := rfresh_stays HX.out
                go_wp2_with (first | (refine big_fill rfl 31 _ _ rfl gK8 (rbA r.sent ⟨A, n, c⟩ ⟨A1, n1, d1⟩ s3) rfl rfl K8.out (by kernel_rfl) (by kernel_rfl) (by kernel_rfl) ?_; intro vK85 nK8 htK8; replace K8 := Lib.hid nK8; replace RI := Lib.hid ((RI.out).touch htK8 ORIK8.out); replace K4 := Lib.hid ((K4.out).touch htK8 OK4K8.out); replace K5 := Lib.hid ((K5.out).touch htK8 OK5K8.out); replace HB := Lib.hid (btouch HB.out htK8 LK8.out); clear nK8 htK8; try simp only [Act.put, List.setIfInBounds_toArray, List.set_cons_zero, List.set_cons_succ]) | (refine big_whole rfl 31 _ rfl gK4 rfl K4.out Tryd.underlying31 rfl (by kernel_rfl) ?_; try simp only [Act.put, List.setIfInBounds_toArray, List.set_cons_zero, List.set_cons_succ]))
                try rw [Exit.noGoto_ret]
                refine bodyPost_ret (v := .tuple #[.agg (rbA r.sent ⟨A, n, c⟩ ⟨A1, n1, d1⟩ s3), .bool false]) (results_two rfl _ _ gK8 _ _ _ _ rfl rfl (K8).out Tryd.underlying31 rfl (by kernel_rfl)) rfl ?_
                rw [HX.out, HY.out]
                exact ⟨_, _, _, rfl, RI.out, HB.out⟩
            · obtain ⟨hx1, hx2⟩ := fresh_old HOKN.out HBA.out hq
              have HX := Lib.hid hx1
              have HY := Lib.hid hx2
              clear hx1 hx2 hq
              go_upto_region 16 with fail
              go_upto_region 17 with (first | (refine big_set rfl 28 _ _ rfl gK4 17 (.slice A6 n6 c6) rfl rfl K4.out (by kernel_rfl) rfl rfl (of_decide_eq_true (by kernel_rfl)) (rbA r.sent ⟨A, n, c⟩ ⟨A6, n6, c6⟩ s3) (by kernel_rfl) ?_; intro vK46 nK4 htK4; replace OW := Lib.hid ((OW.out).touch htK4 ((OW.out).ne LBK4.out)); replace RI := Lib.hid ((RI.out).touch htK4 ORIK4.out); replace K5 := Lib.hid ((K5.out).touch htK4 (Ne.symm OK4K5.out)); replace K8 := Lib.hid ((K8.out).touch htK4 (Ne.symm OK4K8.out)); replace HB := Lib.hid (btouch HB.out htK4 LK4.out); replace K4 := Lib.hid nK4; clear nK4 htK4; try simp only [Act.put, List.setIfInBounds_toArray, List.set_cons_zero, List.set_cons_succ]) | (refine big_append rfl _ _ 28 76 rfl _ 11 32 Tryd.underlying28 info_rl rfl (by omega) (by omega) B rfl OW.out gK9 1 (rlA ⟨q, k, s⟩).toList rfl rfl ((K9.out).range (by kernel_rfl)) (by kernel_rfl) (by omega) (by have := HLE.out; omega) ?_; intro x2 w9 ow9 hg9 hn9; obtain ⟨A6, n6, c6, rfl⟩ := ow9.form_; replace RI := Lib.hid ((RI.out).grown hg9 LBRI.out (fun b hb => (OW.out).ne hb)); replace K4 := Lib.hid ((K4.out).grown hg9 ((OW.out).ne LBK4.out)); replace K5 := Lib.hid ((K5.out).grown hg9 ((OW.out).ne LBK5.out)); replace K8 := Lib.hid ((K8.out).grown hg9 ((OW.out).ne LBK8.out)); replace HB := Lib.hid ((OW.out).hb HWB.out HB.out hg9); replace OW := Lib.hid ow9; clear ow9 hg9 hn9 K9; try simp only [Act.put, List.setIfInBounds_toArray, List.set_cons_zero, List.set_cons_succ]) | (refine big_slices rfl 28 76 1 _ rfl (rlA ⟨q, k, s⟩) 11 Tryd.underlying28 rfl rfl rfl (of_decide_eq_true (by kernel_rfl)) (of_decide_eq_true (by kernel_rfl)) (by kernel_rfl) ?_; intro gK9 wK9 hlK9 nK9 hbK9; have K9 := Lib.hid nK9; replace OW := Lib.hid ((OW.out).keptB hbK9); replace RI := Lib.hid ((RI.out).keptB hbK9); replace K4 := Lib.hid ((K4.out).keptB hbK9); replace K5 := Lib.hid ((K5.out).keptB hbK9); replace K8 := Lib.hid ((K8.out).keptB hbK9); replace HB := Lib.hid (bstep HB.out hbK9); clear hlK9 nK9 hbK9; try simp only [Act.put, List.setIfInBounds_toArray, List.set_cons_zero, List.set_cons_succ]) | (refine big_build rfl 76 _ rfl (rlA ⟨q, k, s⟩) (by kernel_rfl) ?_; try simp only [Act.put, List.setIfInBounds_toArray, List.set_cons_zero, List.set_cons_succ]) | (refine big_whole rfl 35 _ rfl gK5 rfl K5.out Tryd.underlying35 rfl (by kernel_rfl) ?_; try simp only [Act.put, List.setIfInBounds_toArray, List.set_cons_zero, List.set_cons_succ]))
              go_wp2_with (first | (refine big_fill rfl 31 _ _ rfl gK8 (rbA r.sent ⟨A, n, c⟩ ⟨A6, n6, c6⟩ s3) rfl rfl K8.out (by kernel_rfl) (by kernel_rfl) (by kernel_rfl) ?_; intro vK87 nK8 htK8; replace OW := Lib.hid ((OW.out).touch htK8 ((OW.out).ne LBK8.out)); replace RI := Lib.hid ((RI.out).touch htK8 ORIK8.out); replace HB := Lib.hid (btouch HB.out htK8 LK8.out); replace K8 := Lib.hid nK8; clear nK8 htK8; try simp only [Act.put, List.setIfInBounds_toArray, List.set_cons_zero, List.set_cons_succ]) | (refine big_whole rfl 31 _ rfl gK4 rfl K4.out Tryd.underlying31 rfl (by kernel_rfl) ?_; try simp only [Act.put, List.setIfInBounds_toArray, List.set_cons_zero, List.set_cons_succ]))
              try rw [Exit.noGoto_ret]
              refine bodyPost_ret (v := .tuple #[.agg (rbA r.sent ⟨A, n, c⟩ ⟨A6, n6, c6⟩ s3), .bool true]) (results_two rfl _ _ gK8 _ _ _ _ rfl rfl (K8).out Tryd.underlying31 rfl (by kernel_rfl)) rfl ?_
              rw [HX.out, HY.out]
              exact ⟨⟨A, n, c⟩, ⟨A6, n6, c6⟩, s3, rfl, ⟨(RI.out).S, (rl_snoc OW.out).rows, (RI.out).H⟩, HB.out⟩

end Go.Proofs.YtpbfnmokhmioaaaDoor
