/- The walks over the laws' own small and may. -/
import Derived.Test.YtdjomckfifcfdaaDelayLawMath
import Derived.Test.YtdjomckfifcfdaaDelayRef
import Derived.Test.YtdjomckfifcfdaaNumRow
import Derived.Test.YtdjomckfifcfdaaBigCore
import Derived.Deep.DeepCutAuto
import Derived.Deep.LoopGhost
namespace Go.Proofs.Ytdjomckfifcfdaa
set_option maxRecDepth 100000
open Go.RowKit
set_option linter.unusedVariables false
set_option linter.unusedSimpArgs false

set_option maxHeartbeats 4000000 in
theorem small13_any (l : List Int) (g n : Nat) (w : World) (h : NumIn w (.slice (some ⟨g, 0, none⟩) n n) l) (hn : n ≤ 1000) :
    Calls Try.prog 22 #[.slice (some ⟨g, 0, none⟩) n n] w fun e w' => e = .returned (.bool (smL l)) ∧ Below w.heap.size w w' := by
  have HB := Lib.hid (Below.refl w.heap.size w)
  have NI0 := Lib.hid h
  have HLN : Hid (l.length = n) := by
    obtain ⟨_, _, _, h1, h2, _⟩ := NI0.out
    cases h1
    exact h2
  clear h
  go_enter Try.func22, Try.ntmps22
  go_wp2
  go_loopg [7] n (fun gh i v => ∃ (j : Nat), j + gh = n ∧ i = .int .i64 j ∧ Hid (∀ (k : Nat) (z : Int), k < j → l[k]? = some z → smN z = true) ∧ Hid (Below w.heap.size w v))
  case atStart => exact ⟨0, by omega, rfl, Lib.hid (fun k z hk => absurd hk (Nat.not_lt_zero k)), HB⟩
  case round =>
    clear HB
    obtain ⟨j, hj, rfl, HA, HB⟩ := hrel
    cases gk with
    | zero =>
      have hd : decide ((j : Int) < (n : Int)) = false := decide_eq_false (by omega)
      have HX : Hid (smL l = true) := Lib.hid (smL_yes (fun k z hz => HA.out k z (by have := (List.getElem?_eq_some_iff.1 hz).1; have := HLN.out; omega) hz))
      go_wp2
      try rw [Exit.noGoto_ret]
      go_ret
      exact ⟨ret_bool HX.out.symm, HB.out⟩
    | succ g1 =>
      have hlt : j < n := by omega
      have hj5 : j < 1000 := by omega
      have NI := Lib.hid ((NI0.out).keptB HB.out)
      have hd : decide ((j : Int) < (n : Int)) = true := decide_eq_true (by omega)
      obtain ⟨z, hz⟩ : ∃ z, l[j]? = some z := ⟨_, List.getElem?_eq_getElem (show j < l.length by rw [HLN.out]; exact hlt)⟩
      have xs := num_in NI.out hz
      rw [Nat.zero_add] at xs
      have HZ := Lib.hid hz
      have HK := Lib.hid hlt
      clear hz NI
      by_cases g0 : z < -1125899906842624
      · have n0 : decide (z < -1125899906842624) = true := decide_eq_true g0
        have HX : Hid (smL l = false) := Lib.hid (smL_no HZ.out (by unfold smN; rw [show decide (-1125899906842624 ≤ z) = false from decide_eq_false (by omega)]; rfl))
        clear g0
        go_wp2
        try rw [Exit.noGoto_ret]
        go_ret
        exact ⟨ret_bool HX.out.symm, HB.out⟩
      · by_cases g1 : 1125899906842624 < z
        · have n0 : decide (z < -1125899906842624) = false := decide_eq_false g0
          have n1 : decide (1125899906842624 < z) = true := decide_eq_true g1
          have n2 : decide (z > 1125899906842624) = true := n1
          have HX : Hid (smL l = false) := Lib.hid (smL_no HZ.out (by unfold smN; rw [show decide (z ≤ 1125899906842624) = false from decide_eq_false (by omega)]; exact Bool.and_false _))
          clear g0 g1
          go_wp2
          try rw [Exit.noGoto_ret]
          go_ret
          exact ⟨ret_bool HX.out.symm, HB.out⟩
        · have n0 : decide (z < -1125899906842624) = false := decide_eq_false g0
          have n1 : decide (1125899906842624 < z) = false := decide_eq_false g1
          have n2 : decide (z > 1125899906842624) = false := n1
          have HS : Hid (smN z = true) := smN_iff.2 ⟨by omega, by omega⟩
          clear g0 g1
          go_wp2
          go_roundg g1
          case measure => omega
          case rel => exact ⟨j + 1, by omega, by go_num, Lib.hid (fun k y hk hy => by
              by_cases hkj : k = j
              · subst hkj
                rw [HZ.out] at hy
                cases hy
                exact HS.out
              · exact HA.out k y (by omega) hy), HB⟩
set_option maxHeartbeats 4000000 in
theorem may13_any (p : Pa) (t : Tr) (w : World) :
    Calls Try.prog 21 #[.agg (paA p), .agg (trA t)] w fun e w' => e = .returned (.bool (mayB13 p t)) ∧ Below w.heap.size w w' := by
  have HB := Lib.hid (Below.refl w.heap.size w)
  cases h0 : paB p
  · have HX : Hid (mayB13 p t = false) := by unfold mayB13; rw [Hid, h0]; rfl
    have H0 := Lib.hid h0
    clear h0
    go_enter Try.func21, Try.ntmps21
    go_upto_region 1 with (first | (refine big_box rfl 38 _ rfl (trA t) rfl (by kernel_rfl) ?_; intro gK3 wK3 hlK3 nK3 hbK3; have K3 := Lib.hid nK3; have LK3 := Lib.hid (Nat.le_trans (HB.out).size hlK3); have OK2K3 := Lib.hid ((K2.out).off hlK3); replace K2 := Lib.hid ((K2.out).keptB hbK3); replace HB := Lib.hid (bstep HB.out hbK3); clear hlK3 nK3 hbK3; try simp only [Act.put, List.setIfInBounds_toArray, List.set_cons_zero, List.set_cons_succ]) | (refine big_box rfl 23 _ rfl (paA p) rfl (by kernel_rfl) ?_; intro gK2 wK2 hlK2 nK2 hbK2; have K2 := Lib.hid nK2; have LK2 := Lib.hid (Nat.le_trans (HB.out).size hlK2); replace HB := Lib.hid (bstep HB.out hbK2); clear hlK2 nK2 hbK2; try simp only [Act.put, List.setIfInBounds_toArray, List.set_cons_zero, List.set_cons_succ]))
    go_wp2_with ((refine big_whole rfl 23 _ rfl gK2 rfl K2.out Try.underlying23 rfl (by kernel_rfl) ?_; try simp only [Act.put, List.setIfInBounds_toArray, List.set_cons_zero, List.set_cons_succ]))
    refine (rright13_any p _).mono ?_
    rintro e c1 ⟨rfl, hc1⟩
    replace K2 := Lib.hid ((K2.out).keptB hc1)
    replace K3 := Lib.hid ((K3.out).keptB hc1)
    replace HB := Lib.hid (bstep HB.out hc1)
    clear hc1
    rw [H0.out]
    go_wp2
    try rw [Exit.noGoto_ret]
    go_ret
    exact ⟨ret_bool HX.out.symm, HB.out⟩
  · obtain ⟨_, _, _, p3, p4⟩ := paB_iff.1 h0
    have HN : IntKind.i64.wrap (-p.gr) = -p.gr := by rw [IntKind.wrap_i64] <;> omega
    clear p3 p4
    cases h1 : smL [t.a, t.o, t.k, t.c]
    · have HX : Hid (mayB13 p t = false) := by unfold mayB13; rw [Hid, h0, h1]; rfl
      have H0 := Lib.hid h0
      have H1 := Lib.hid h1
      clear h0 h1
      go_enter Try.func21, Try.ntmps21
      go_upto_region 1 with (first | (refine big_box rfl 38 _ rfl (trA t) rfl (by kernel_rfl) ?_; intro gK3 wK3 hlK3 nK3 hbK3; have K3 := Lib.hid nK3; have LK3 := Lib.hid (Nat.le_trans (HB.out).size hlK3); have OK2K3 := Lib.hid ((K2.out).off hlK3); replace K2 := Lib.hid ((K2.out).keptB hbK3); replace HB := Lib.hid (bstep HB.out hbK3); clear hlK3 nK3 hbK3; try simp only [Act.put, List.setIfInBounds_toArray, List.set_cons_zero, List.set_cons_succ]) | (refine big_box rfl 23 _ rfl (paA p) rfl (by kernel_rfl) ?_; intro gK2 wK2 hlK2 nK2 hbK2; have K2 := Lib.hid nK2; have LK2 := Lib.hid (Nat.le_trans (HB.out).size hlK2); replace HB := Lib.hid (bstep HB.out hbK2); clear hlK2 nK2 hbK2; try simp only [Act.put, List.setIfInBounds_toArray, List.set_cons_zero, List.set_cons_succ]))
      go_wp2_with ((refine big_whole rfl 23 _ rfl gK2 rfl K2.out Try.underlying23 rfl (by kernel_rfl) ?_; try simp only [Act.put, List.setIfInBounds_toArray, List.set_cons_zero, List.set_cons_succ]))
      refine (rright13_any p _).mono ?_
      rintro e c1 ⟨rfl, hc1⟩
      replace K2 := Lib.hid ((K2.out).keptB hc1)
      replace K3 := Lib.hid ((K3.out).keptB hc1)
      replace HB := Lib.hid (bstep HB.out hc1)
      clear hc1
      rw [H0.out]
      have y0 := (K3.out).reads (i := 0) (x := .int .i64 t.a) rfl
      have y1 := (K3.out).reads (i := 1) (x := .int .i64 t.o) rfl
      have y2 := (K3.out).reads (i := 2) (x := .int .i64 t.k) rfl
      have y5 := (K3.out).reads (i := 5) (x := .int .i64 t.c) rfl
      go_wp2_with ((refine big_slice rfl 59 3 4 _ rfl (#[.int .i64 t.a, .int .i64 t.o, .int .i64 t.k, .int .i64 t.c]) Try.underlying59 rfl rfl rfl (of_decide_eq_true (by kernel_rfl)) (of_decide_eq_true (by kernel_rfl)) (by kernel_rfl) ?_; intro gK9 wK9 hlK9 nK9 hbK9; have K9 := Lib.hid nK9; have LK9 := Lib.hid (Nat.le_trans (HB.out).size hlK9); have OK2K9 := Lib.hid ((K2.out).off hlK9); have OK3K9 := Lib.hid ((K3.out).off hlK9); replace K2 := Lib.hid ((K2.out).keptB hbK9); replace K3 := Lib.hid ((K3.out).keptB hbK9); replace HB := Lib.hid (bstep HB.out hbK9); clear hlK9 nK9 hbK9; try simp only [Act.put, List.setIfInBounds_toArray, List.set_cons_zero, List.set_cons_succ]))
      try clear y0 y1 y2 y5
      refine (small13_any [t.a, t.o, t.k, t.c] gK9 4 _ (holds_nums K9.out rfl rfl) (by decide)).mono ?_
      rintro e c2 ⟨rfl, hc2⟩
      replace K2 := Lib.hid ((K2.out).keptB hc2)
      replace K3 := Lib.hid ((K3.out).keptB hc2)
      replace K9 := Lib.hid ((K9.out).keptB hc2)
      replace HB := Lib.hid (bstep HB.out hc2)
      clear hc2
      rw [H1.out]
      go_wp2
      try rw [Exit.noGoto_ret]
      go_ret
      exact ⟨ret_bool HX.out.symm, HB.out⟩
    · by_cases q2 : p.mn ≤ t.k
      · by_cases q3 : t.k ≤ p.mx
        · by_cases q4 : -p.gr ≤ t.u
          · by_cases q5 : t.u ≤ p.gr
            · by_cases q6 : -p.gr ≤ t.v
              · by_cases q7 : t.v ≤ p.gr
                · have d2 : decide (p.mn ≤ t.k) = true := decide_eq_true q2
                  have e2 : decide (t.k ≥ p.mn) = true := d2
                  have d3 : decide (t.k ≤ p.mx) = true := decide_eq_true q3
                  have d4 : decide (-p.gr ≤ t.u) = true := decide_eq_true q4
                  have e4 : decide (t.u ≥ -p.gr) = true := d4
                  have d5 : decide (t.u ≤ p.gr) = true := decide_eq_true q5
                  have d6 : decide (-p.gr ≤ t.v) = true := decide_eq_true q6
                  have e6 : decide (t.v ≥ -p.gr) = true := d6
                  have d7 : decide (t.v ≤ p.gr) = true := decide_eq_true q7
                  clear q2 q3 q4 q5 q6 q7
                  have HX : Hid (mayB13 p t = true) := by unfold mayB13; rw [Hid, h0, h1, d2, d3, d4, d5, d6, d7]; rfl
                  have H0 := Lib.hid h0
                  have H1 := Lib.hid h1
                  clear h0 h1
                  go_enter Try.func21, Try.ntmps21
                  go_upto_region 1 with (first | (refine big_box rfl 38 _ rfl (trA t) rfl (by kernel_rfl) ?_; intro gK3 wK3 hlK3 nK3 hbK3; have K3 := Lib.hid nK3; have LK3 := Lib.hid (Nat.le_trans (HB.out).size hlK3); have OK2K3 := Lib.hid ((K2.out).off hlK3); replace K2 := Lib.hid ((K2.out).keptB hbK3); replace HB := Lib.hid (bstep HB.out hbK3); clear hlK3 nK3 hbK3; try simp only [Act.put, List.setIfInBounds_toArray, List.set_cons_zero, List.set_cons_succ]) | (refine big_box rfl 23 _ rfl (paA p) rfl (by kernel_rfl) ?_; intro gK2 wK2 hlK2 nK2 hbK2; have K2 := Lib.hid nK2; have LK2 := Lib.hid (Nat.le_trans (HB.out).size hlK2); replace HB := Lib.hid (bstep HB.out hbK2); clear hlK2 nK2 hbK2; try simp only [Act.put, List.setIfInBounds_toArray, List.set_cons_zero, List.set_cons_succ]))
                  go_wp2_with ((refine big_whole rfl 23 _ rfl gK2 rfl K2.out Try.underlying23 rfl (by kernel_rfl) ?_; try simp only [Act.put, List.setIfInBounds_toArray, List.set_cons_zero, List.set_cons_succ]))
                  refine (rright13_any p _).mono ?_
                  rintro e c1 ⟨rfl, hc1⟩
                  replace K2 := Lib.hid ((K2.out).keptB hc1)
                  replace K3 := Lib.hid ((K3.out).keptB hc1)
                  replace HB := Lib.hid (bstep HB.out hc1)
                  clear hc1
                  rw [H0.out]
                  have y0 := (K3.out).reads (i := 0) (x := .int .i64 t.a) rfl
                  have y1 := (K3.out).reads (i := 1) (x := .int .i64 t.o) rfl
                  have y2 := (K3.out).reads (i := 2) (x := .int .i64 t.k) rfl
                  have y5 := (K3.out).reads (i := 5) (x := .int .i64 t.c) rfl
                  go_wp2_with ((refine big_slice rfl 59 3 4 _ rfl (#[.int .i64 t.a, .int .i64 t.o, .int .i64 t.k, .int .i64 t.c]) Try.underlying59 rfl rfl rfl (of_decide_eq_true (by kernel_rfl)) (of_decide_eq_true (by kernel_rfl)) (by kernel_rfl) ?_; intro gK9 wK9 hlK9 nK9 hbK9; have K9 := Lib.hid nK9; have LK9 := Lib.hid (Nat.le_trans (HB.out).size hlK9); have OK2K9 := Lib.hid ((K2.out).off hlK9); have OK3K9 := Lib.hid ((K3.out).off hlK9); replace K2 := Lib.hid ((K2.out).keptB hbK9); replace K3 := Lib.hid ((K3.out).keptB hbK9); replace HB := Lib.hid (bstep HB.out hbK9); clear hlK9 nK9 hbK9; try simp only [Act.put, List.setIfInBounds_toArray, List.set_cons_zero, List.set_cons_succ]))
                  try clear y0 y1 y2 y5
                  refine (small13_any [t.a, t.o, t.k, t.c] gK9 4 _ (holds_nums K9.out rfl rfl) (by decide)).mono ?_
                  rintro e c2 ⟨rfl, hc2⟩
                  replace K2 := Lib.hid ((K2.out).keptB hc2)
                  replace K3 := Lib.hid ((K3.out).keptB hc2)
                  replace K9 := Lib.hid ((K9.out).keptB hc2)
                  replace HB := Lib.hid (bstep HB.out hc2)
                  clear hc2
                  rw [H1.out]
                  have x0 := (K2.out).reads (i := 0) (x := .int .i64 p.mn) rfl
                  have x1 := (K2.out).reads (i := 1) (x := .int .i64 p.mx) rfl
                  have x2 := (K2.out).reads (i := 2) (x := .int .i64 p.gr) rfl
                  have y2 := (K3.out).reads (i := 2) (x := .int .i64 t.k) rfl
                  have y3 := (K3.out).reads (i := 3) (x := .int .i64 t.u) rfl
                  have y4 := (K3.out).reads (i := 4) (x := .int .i64 t.v) rfl
                  go_wp2
                  try rw [Exit.noGoto_ret]
                  go_ret
                  exact ⟨ret_bool HX.out.symm, HB.out⟩
                · have d2 : decide (p.mn ≤ t.k) = true := decide_eq_true q2
                  have e2 : decide (t.k ≥ p.mn) = true := d2
                  have d3 : decide (t.k ≤ p.mx) = true := decide_eq_true q3
                  have d4 : decide (-p.gr ≤ t.u) = true := decide_eq_true q4
                  have e4 : decide (t.u ≥ -p.gr) = true := d4
                  have d5 : decide (t.u ≤ p.gr) = true := decide_eq_true q5
                  have d6 : decide (-p.gr ≤ t.v) = true := decide_eq_true q6
                  have e6 : decide (t.v ≥ -p.gr) = true := d6
                  have d7 : decide (t.v ≤ p.gr) = false := decide_eq_false q7
                  clear q2 q3 q4 q5 q6 q7
                  have HX : Hid (mayB13 p t = false) := by unfold mayB13; rw [Hid, h0, h1, d2, d3, d4, d5, d6, d7]; rfl
                  have H0 := Lib.hid h0
                  have H1 := Lib.hid h1
                  clear h0 h1
                  go_enter Try.func21, Try.ntmps21
                  go_upto_region 1 with (first | (refine big_box rfl 38 _ rfl (trA t) rfl (by kernel_rfl) ?_; intro gK3 wK3 hlK3 nK3 hbK3; have K3 := Lib.hid nK3; have LK3 := Lib.hid (Nat.le_trans (HB.out).size hlK3); have OK2K3 := Lib.hid ((K2.out).off hlK3); replace K2 := Lib.hid ((K2.out).keptB hbK3); replace HB := Lib.hid (bstep HB.out hbK3); clear hlK3 nK3 hbK3; try simp only [Act.put, List.setIfInBounds_toArray, List.set_cons_zero, List.set_cons_succ]) | (refine big_box rfl 23 _ rfl (paA p) rfl (by kernel_rfl) ?_; intro gK2 wK2 hlK2 nK2 hbK2; have K2 := Lib.hid nK2; have LK2 := Lib.hid (Nat.le_trans (HB.out).size hlK2); replace HB := Lib.hid (bstep HB.out hbK2); clear hlK2 nK2 hbK2; try simp only [Act.put, List.setIfInBounds_toArray, List.set_cons_zero, List.set_cons_succ]))
                  go_wp2_with ((refine big_whole rfl 23 _ rfl gK2 rfl K2.out Try.underlying23 rfl (by kernel_rfl) ?_; try simp only [Act.put, List.setIfInBounds_toArray, List.set_cons_zero, List.set_cons_succ]))
                  refine (rright13_any p _).mono ?_
                  rintro e c1 ⟨rfl, hc1⟩
                  replace K2 := Lib.hid ((K2.out).keptB hc1)
                  replace K3 := Lib.hid ((K3.out).keptB hc1)
                  replace HB := Lib.hid (bstep HB.out hc1)
                  clear hc1
                  rw [H0.out]
                  have y0 := (K3.out).reads (i := 0) (x := .int .i64 t.a) rfl
                  have y1 := (K3.out).reads (i := 1) (x := .int .i64 t.o) rfl
                  have y2 := (K3.out).reads (i := 2) (x := .int .i64 t.k) rfl
                  have y5 := (K3.out).reads (i := 5) (x := .int .i64 t.c) rfl
                  go_wp2_with ((refine big_slice rfl 59 3 4 _ rfl (#[.int .i64 t.a, .int .i64 t.o, .int .i64 t.k, .int .i64 t.c]) Try.underlying59 rfl rfl rfl (of_decide_eq_true (by kernel_rfl)) (of_decide_eq_true (by kernel_rfl)) (by kernel_rfl) ?_; intro gK9 wK9 hlK9 nK9 hbK9; have K9 := Lib.hid nK9; have LK9 := Lib.hid (Nat.le_trans (HB.out).size hlK9); have OK2K9 := Lib.hid ((K2.out).off hlK9); have OK3K9 := Lib.hid ((K3.out).off hlK9); replace K2 := Lib.hid ((K2.out).keptB hbK9); replace K3 := Lib.hid ((K3.out).keptB hbK9); replace HB := Lib.hid (bstep HB.out hbK9); clear hlK9 nK9 hbK9; try simp only [Act.put, List.setIfInBounds_toArray, List.set_cons_zero, List.set_cons_succ]))
                  try clear y0 y1 y2 y5
                  refine (small13_any [t.a, t.o, t.k, t.c] gK9 4 _ (holds_nums K9.out rfl rfl) (by decide)).mono ?_
                  rintro e c2 ⟨rfl, hc2⟩
                  replace K2 := Lib.hid ((K2.out).keptB hc2)
                  replace K3 := Lib.hid ((K3.out).keptB hc2)
                  replace K9 := Lib.hid ((K9.out).keptB hc2)
                  replace HB := Lib.hid (bstep HB.out hc2)
                  clear hc2
                  rw [H1.out]
                  have x0 := (K2.out).reads (i := 0) (x := .int .i64 p.mn) rfl
                  have x1 := (K2.out).reads (i := 1) (x := .int .i64 p.mx) rfl
                  have x2 := (K2.out).reads (i := 2) (x := .int .i64 p.gr) rfl
                  have y2 := (K3.out).reads (i := 2) (x := .int .i64 t.k) rfl
                  have y3 := (K3.out).reads (i := 3) (x := .int .i64 t.u) rfl
                  have y4 := (K3.out).reads (i := 4) (x := .int .i64 t.v) rfl
                  go_wp2
                  try rw [Exit.noGoto_ret]
                  go_ret
                  exact ⟨ret_bool HX.out.symm, HB.out⟩
              · have d2 : decide (p.mn ≤ t.k) = true := decide_eq_true q2
                have e2 : decide (t.k ≥ p.mn) = true := d2
                have d3 : decide (t.k ≤ p.mx) = true := decide_eq_true q3
                have d4 : decide (-p.gr ≤ t.u) = true := decide_eq_true q4
                have e4 : decide (t.u ≥ -p.gr) = true := d4
                have d5 : decide (t.u ≤ p.gr) = true := decide_eq_true q5
                have d6 : decide (-p.gr ≤ t.v) = false := decide_eq_false q6
                have e6 : decide (t.v ≥ -p.gr) = false := d6
                clear q2 q3 q4 q5 q6
                have HX : Hid (mayB13 p t = false) := by unfold mayB13; rw [Hid, h0, h1, d2, d3, d4, d5, d6]; rfl
                have H0 := Lib.hid h0
                have H1 := Lib.hid h1
                clear h0 h1
                go_enter Try.func21, Try.ntmps21
                go_upto_region 1 with (first | (refine big_box rfl 38 _ rfl (trA t) rfl (by kernel_rfl) ?_; intro gK3 wK3 hlK3 nK3 hbK3; have K3 := Lib.hid nK3; have LK3 := Lib.hid (Nat.le_trans (HB.out).size hlK3); have OK2K3 := Lib.hid ((K2.out).off hlK3); replace K2 := Lib.hid ((K2.out).keptB hbK3); replace HB := Lib.hid (bstep HB.out hbK3); clear hlK3 nK3 hbK3; try simp only [Act.put, List.setIfInBounds_toArray, List.set_cons_zero, List.set_cons_succ]) | (refine big_box rfl 23 _ rfl (paA p) rfl (by kernel_rfl) ?_; intro gK2 wK2 hlK2 nK2 hbK2; have K2 := Lib.hid nK2; have LK2 := Lib.hid (Nat.le_trans (HB.out).size hlK2); replace HB := Lib.hid (bstep HB.out hbK2); clear hlK2 nK2 hbK2; try simp only [Act.put, List.setIfInBounds_toArray, List.set_cons_zero, List.set_cons_succ]))
                go_wp2_with ((refine big_whole rfl 23 _ rfl gK2 rfl K2.out Try.underlying23 rfl (by kernel_rfl) ?_; try simp only [Act.put, List.setIfInBounds_toArray, List.set_cons_zero, List.set_cons_succ]))
                refine (rright13_any p _).mono ?_
                rintro e c1 ⟨rfl, hc1⟩
                replace K2 := Lib.hid ((K2.out).keptB hc1)
                replace K3 := Lib.hid ((K3.out).keptB hc1)
                replace HB := Lib.hid (bstep HB.out hc1)
                clear hc1
                rw [H0.out]
                have y0 := (K3.out).reads (i := 0) (x := .int .i64 t.a) rfl
                have y1 := (K3.out).reads (i := 1) (x := .int .i64 t.o) rfl
                have y2 := (K3.out).reads (i := 2) (x := .int .i64 t.k) rfl
                have y5 := (K3.out).reads (i := 5) (x := .int .i64 t.c) rfl
                go_wp2_with ((refine big_slice rfl 59 3 4 _ rfl (#[.int .i64 t.a, .int .i64 t.o, .int .i64 t.k, .int .i64 t.c]) Try.underlying59 rfl rfl rfl (of_decide_eq_true (by kernel_rfl)) (of_decide_eq_true (by kernel_rfl)) (by kernel_rfl) ?_; intro gK9 wK9 hlK9 nK9 hbK9; have K9 := Lib.hid nK9; have LK9 := Lib.hid (Nat.le_trans (HB.out).size hlK9); have OK2K9 := Lib.hid ((K2.out).off hlK9); have OK3K9 := Lib.hid ((K3.out).off hlK9); replace K2 := Lib.hid ((K2.out).keptB hbK9); replace K3 := Lib.hid ((K3.out).keptB hbK9); replace HB := Lib.hid (bstep HB.out hbK9); clear hlK9 nK9 hbK9; try simp only [Act.put, List.setIfInBounds_toArray, List.set_cons_zero, List.set_cons_succ]))
                try clear y0 y1 y2 y5
                refine (small13_any [t.a, t.o, t.k, t.c] gK9 4 _ (holds_nums K9.out rfl rfl) (by decide)).mono ?_
                rintro e c2 ⟨rfl, hc2⟩
                replace K2 := Lib.hid ((K2.out).keptB hc2)
                replace K3 := Lib.hid ((K3.out).keptB hc2)
                replace K9 := Lib.hid ((K9.out).keptB hc2)
                replace HB := Lib.hid (bstep HB.out hc2)
                clear hc2
                rw [H1.out]
                have x0 := (K2.out).reads (i := 0) (x := .int .i64 p.mn) rfl
                have x1 := (K2.out).reads (i := 1) (x := .int .i64 p.mx) rfl
                have x2 := (K2.out).reads (i := 2) (x := .int .i64 p.gr) rfl
                have y2 := (K3.out).reads (i := 2) (x := .int .i64 t.k) rfl
                have y3 := (K3.out).reads (i := 3) (x := .int .i64 t.u) rfl
                have y4 := (K3.out).reads (i := 4) (x := .int .i64 t.v) rfl
                go_wp2
                try rw [Exit.noGoto_ret]
                go_ret
                exact ⟨ret_bool HX.out.symm, HB.out⟩
            · have d2 : decide (p.mn ≤ t.k) = true := decide_eq_true q2
              have e2 : decide (t.k ≥ p.mn) = true := d2
              have d3 : decide (t.k ≤ p.mx) = true := decide_eq_true q3
              have d4 : decide (-p.gr ≤ t.u) = true := decide_eq_true q4
              have e4 : decide (t.u ≥ -p.gr) = true := d4
              have d5 : decide (t.u ≤ p.gr) = false := decide_eq_false q5
              clear q2 q3 q4 q5
              have HX : Hid (mayB13 p t = false) := by unfold mayB13; rw [Hid, h0, h1, d2, d3, d4, d5]; rfl
              have H0 := Lib.hid h0
              have H1 := Lib.hid h1
              clear h0 h1
              go_enter Try.func21, Try.ntmps21
              go_upto_region 1 with (first | (refine big_box rfl 38 _ rfl (trA t) rfl (by kernel_rfl) ?_; intro gK3 wK3 hlK3 nK3 hbK3; have K3 := Lib.hid nK3; have LK3 := Lib.hid (Nat.le_trans (HB.out).size hlK3); have OK2K3 := Lib.hid ((K2.out).off hlK3); replace K2 := Lib.hid ((K2.out).keptB hbK3); replace HB := Lib.hid (bstep HB.out hbK3); clear hlK3 nK3 hbK3; try simp only [Act.put, List.setIfInBounds_toArray, List.set_cons_zero, List.set_cons_succ]) | (refine big_box rfl 23 _ rfl (paA p) rfl (by kernel_rfl) ?_; intro gK2 wK2 hlK2 nK2 hbK2; have K2 := Lib.hid nK2; have LK2 := Lib.hid (Nat.le_trans (HB.out).size hlK2); replace HB := Lib.hid (bstep HB.out hbK2); clear hlK2 nK2 hbK2; try simp only [Act.put, List.setIfInBounds_toArray, List.set_cons_zero, List.set_cons_succ]))
              go_wp2_with ((refine big_whole rfl 23 _ rfl gK2 rfl K2.out Try.underlying23 rfl (by kernel_rfl) ?_; try simp only [Act.put, List.setIfInBounds_toArray, List.set_cons_zero, List.set_cons_succ]))
              refine (rright13_any p _).mono ?_
              rintro e c1 ⟨rfl, hc1⟩
              replace K2 := Lib.hid ((K2.out).keptB hc1)
              replace K3 := Lib.hid ((K3.out).keptB hc1)
              replace HB := Lib.hid (bstep HB.out hc1)
              clear hc1
              rw [H0.out]
              have y0 := (K3.out).reads (i := 0) (x := .int .i64 t.a) rfl
              have y1 := (K3.out).reads (i := 1) (x := .int .i64 t.o) rfl
              have y2 := (K3.out).reads (i := 2) (x := .int .i64 t.k) rfl
              have y5 := (K3.out).reads (i := 5) (x := .int .i64 t.c) rfl
              go_wp2_with ((refine big_slice rfl 59 3 4 _ rfl (#[.int .i64 t.a, .int .i64 t.o, .int .i64 t.k, .int .i64 t.c]) Try.underlying59 rfl rfl rfl (of_decide_eq_true (by kernel_rfl)) (of_decide_eq_true (by kernel_rfl)) (by kernel_rfl) ?_; intro gK9 wK9 hlK9 nK9 hbK9; have K9 := Lib.hid nK9; have LK9 := Lib.hid (Nat.le_trans (HB.out).size hlK9); have OK2K9 := Lib.hid ((K2.out).off hlK9); have OK3K9 := Lib.hid ((K3.out).off hlK9); replace K2 := Lib.hid ((K2.out).keptB hbK9); replace K3 := Lib.hid ((K3.out).keptB hbK9); replace HB := Lib.hid (bstep HB.out hbK9); clear hlK9 nK9 hbK9; try simp only [Act.put, List.setIfInBounds_toArray, List.set_cons_zero, List.set_cons_succ]))
              try clear y0 y1 y2 y5
              refine (small13_any [t.a, t.o, t.k, t.c] gK9 4 _ (holds_nums K9.out rfl rfl) (by decide)).mono ?_
              rintro e c2 ⟨rfl, hc2⟩
              replace K2 := Lib.hid ((K2.out).keptB hc2)
              replace K3 := Lib.hid ((K3.out).keptB hc2)
              replace K9 := Lib.hid ((K9.out).keptB hc2)
              replace HB := Lib.hid (bstep HB.out hc2)
              clear hc2
              rw [H1.out]
              have x0 := (K2.out).reads (i := 0) (x := .int .i64 p.mn) rfl
              have x1 := (K2.out).reads (i := 1) (x := .int .i64 p.mx) rfl
              have x2 := (K2.out).reads (i := 2) (x := .int .i64 p.gr) rfl
              have y2 := (K3.out).reads (i := 2) (x := .int .i64 t.k) rfl
              have y3 := (K3.out).reads (i := 3) (x := .int .i64 t.u) rfl
              have y4 := (K3.out).reads (i := 4) (x := .int .i64 t.v) rfl
              go_wp2
              try rw [Exit.noGoto_ret]
              go_ret
              exact ⟨ret_bool HX.out.symm, HB.out⟩
          · have d2 : decide (p.mn ≤ t.k) = true := decide_eq_true q2
            have e2 : decide (t.k ≥ p.mn) = true := d2
            have d3 : decide (t.k ≤ p.mx) = true := decide_eq_true q3
            have d4 : decide (-p.gr ≤ t.u) = false := decide_eq_false q4
            have e4 : decide (t.u ≥ -p.gr) = false := d4
            clear q2 q3 q4
            have HX : Hid (mayB13 p t = false) := by unfold mayB13; rw [Hid, h0, h1, d2, d3, d4]; rfl
            have H0 := Lib.hid h0
            have H1 := Lib.hid h1
            clear h0 h1
            go_enter Try.func21, Try.ntmps21
            go_upto_region 1 with (first | (refine big_box rfl 38 _ rfl (trA t) rfl (by kernel_rfl) ?_; intro gK3 wK3 hlK3 nK3 hbK3; have K3 := Lib.hid nK3; have LK3 := Lib.hid (Nat.le_trans (HB.out).size hlK3); have OK2K3 := Lib.hid ((K2.out).off hlK3); replace K2 := Lib.hid ((K2.out).keptB hbK3); replace HB := Lib.hid (bstep HB.out hbK3); clear hlK3 nK3 hbK3; try simp only [Act.put, List.setIfInBounds_toArray, List.set_cons_zero, List.set_cons_succ]) | (refine big_box rfl 23 _ rfl (paA p) rfl (by kernel_rfl) ?_; intro gK2 wK2 hlK2 nK2 hbK2; have K2 := Lib.hid nK2; have LK2 := Lib.hid (Nat.le_trans (HB.out).size hlK2); replace HB := Lib.hid (bstep HB.out hbK2); clear hlK2 nK2 hbK2; try simp only [Act.put, List.setIfInBounds_toArray, List.set_cons_zero, List.set_cons_succ]))
            go_wp2_with ((refine big_whole rfl 23 _ rfl gK2 rfl K2.out Try.underlying23 rfl (by kernel_rfl) ?_; try simp only [Act.put, List.setIfInBounds_toArray, List.set_cons_zero, List.set_cons_succ]))
            refine (rright13_any p _).mono ?_
            rintro e c1 ⟨rfl, hc1⟩
            replace K2 := Lib.hid ((K2.out).keptB hc1)
            replace K3 := Lib.hid ((K3.out).keptB hc1)
            replace HB := Lib.hid (bstep HB.out hc1)
            clear hc1
            rw [H0.out]
            have y0 := (K3.out).reads (i := 0) (x := .int .i64 t.a) rfl
            have y1 := (K3.out).reads (i := 1) (x := .int .i64 t.o) rfl
            have y2 := (K3.out).reads (i := 2) (x := .int .i64 t.k) rfl
            have y5 := (K3.out).reads (i := 5) (x := .int .i64 t.c) rfl
            go_wp2_with ((refine big_slice rfl 59 3 4 _ rfl (#[.int .i64 t.a, .int .i64 t.o, .int .i64 t.k, .int .i64 t.c]) Try.underlying59 rfl rfl rfl (of_decide_eq_true (by kernel_rfl)) (of_decide_eq_true (by kernel_rfl)) (by kernel_rfl) ?_; intro gK9 wK9 hlK9 nK9 hbK9; have K9 := Lib.hid nK9; have LK9 := Lib.hid (Nat.le_trans (HB.out).size hlK9); have OK2K9 := Lib.hid ((K2.out).off hlK9); have OK3K9 := Lib.hid ((K3.out).off hlK9); replace K2 := Lib.hid ((K2.out).keptB hbK9); replace K3 := Lib.hid ((K3.out).keptB hbK9); replace HB := Lib.hid (bstep HB.out hbK9); clear hlK9 nK9 hbK9; try simp only [Act.put, List.setIfInBounds_toArray, List.set_cons_zero, List.set_cons_succ]))
            try clear y0 y1 y2 y5
            refine (small13_any [t.a, t.o, t.k, t.c] gK9 4 _ (holds_nums K9.out rfl rfl) (by decide)).mono ?_
            rintro e c2 ⟨rfl, hc2⟩
            replace K2 := Lib.hid ((K2.out).keptB hc2)
            replace K3 := Lib.hid ((K3.out).keptB hc2)
            replace K9 := Lib.hid ((K9.out).keptB hc2)
            replace HB := Lib.hid (bstep HB.out hc2)
            clear hc2
            rw [H1.out]
            have x0 := (K2.out).reads (i := 0) (x := .int .i64 p.mn) rfl
            have x1 := (K2.out).reads (i := 1) (x := .int .i64 p.mx) rfl
            have x2 := (K2.out).reads (i := 2) (x := .int .i64 p.gr) rfl
            have y2 := (K3.out).reads (i := 2) (x := .int .i64 t.k) rfl
            have y3 := (K3.out).reads (i := 3) (x := .int .i64 t.u) rfl
            have y4 := (K3.out).reads (i := 4) (x := .int .i64 t.v) rfl
            go_wp2
            try rw [Exit.noGoto_ret]
            go_ret
            exact ⟨ret_bool HX.out.symm, HB.out⟩
        · have d2 : decide (p.mn ≤ t.k) = true := decide_eq_true q2
          have e2 : decide (t.k ≥ p.mn) = true := d2
          have d3 : decide (t.k ≤ p.mx) = false := decide_eq_false q3
          clear q2 q3
          have HX : Hid (mayB13 p t = false) := by unfold mayB13; rw [Hid, h0, h1, d2, d3]; rfl
          have H0 := Lib.hid h0
          have H1 := Lib.hid h1
          clear h0 h1
          go_enter Try.func21, Try.ntmps21
          go_upto_region 1 with (first | (refine big_box rfl 38 _ rfl (trA t) rfl (by kernel_rfl) ?_; intro gK3 wK3 hlK3 nK3 hbK3; have K3 := Lib.hid nK3; have LK3 := Lib.hid (Nat.le_trans (HB.out).size hlK3); have OK2K3 := Lib.hid ((K2.out).off hlK3); replace K2 := Lib.hid ((K2.out).keptB hbK3); replace HB := Lib.hid (bstep HB.out hbK3); clear hlK3 nK3 hbK3; try simp only [Act.put, List.setIfInBounds_toArray, List.set_cons_zero, List.set_cons_succ]) | (refine big_box rfl 23 _ rfl (paA p) rfl (by kernel_rfl) ?_; intro gK2 wK2 hlK2 nK2 hbK2; have K2 := Lib.hid nK2; have LK2 := Lib.hid (Nat.le_trans (HB.out).size hlK2); replace HB := Lib.hid (bstep HB.out hbK2); clear hlK2 nK2 hbK2; try simp only [Act.put, List.setIfInBounds_toArray, List.set_cons_zero, List.set_cons_succ]))
          go_wp2_with ((refine big_whole rfl 23 _ rfl gK2 rfl K2.out Try.underlying23 rfl (by kernel_rfl) ?_; try simp only [Act.put, List.setIfInBounds_toArray, List.set_cons_zero, List.set_cons_succ]))
          refine (rright13_any p _).mono ?_
          rintro e c1 ⟨rfl, hc1⟩
          replace K2 := Lib.hid ((K2.out).keptB hc1)
          replace K3 := Lib.hid ((K3.out).keptB hc1)
          replace HB := Lib.hid (bstep HB.out hc1)
          clear hc1
          rw [H0.out]
          have y0 := (K3.out).reads (i := 0) (x := .int .i64 t.a) rfl
          have y1 := (K3.out).reads (i := 1) (x := .int .i64 t.o) rfl
          have y2 := (K3.out).reads (i := 2) (x := .int .i64 t.k) rfl
          have y5 := (K3.out).reads (i := 5) (x := .int .i64 t.c) rfl
          go_wp2_with ((refine big_slice rfl 59 3 4 _ rfl (#[.int .i64 t.a, .int .i64 t.o, .int .i64 t.k, .int .i64 t.c]) Try.underlying59 rfl rfl rfl (of_decide_eq_true (by kernel_rfl)) (of_decide_eq_true (by kernel_rfl)) (by kernel_rfl) ?_; intro gK9 wK9 hlK9 nK9 hbK9; have K9 := Lib.hid nK9; have LK9 := Lib.hid (Nat.le_trans (HB.out).size hlK9); have OK2K9 := Lib.hid ((K2.out).off hlK9); have OK3K9 := Lib.hid ((K3.out).off hlK9); replace K2 := Lib.hid ((K2.out).keptB hbK9); replace K3 := Lib.hid ((K3.out).keptB hbK9); replace HB := Lib.hid (bstep HB.out hbK9); clear hlK9 nK9 hbK9; try simp only [Act.put, List.setIfInBounds_toArray, List.set_cons_zero, List.set_cons_succ]))
          try clear y0 y1 y2 y5
          refine (small13_any [t.a, t.o, t.k, t.c] gK9 4 _ (holds_nums K9.out rfl rfl) (by decide)).mono ?_
          rintro e c2 ⟨rfl, hc2⟩
          replace K2 := Lib.hid ((K2.out).keptB hc2)
          replace K3 := Lib.hid ((K3.out).keptB hc2)
          replace K9 := Lib.hid ((K9.out).keptB hc2)
          replace HB := Lib.hid (bstep HB.out hc2)
          clear hc2
          rw [H1.out]
          have x0 := (K2.out).reads (i := 0) (x := .int .i64 p.mn) rfl
          have x1 := (K2.out).reads (i := 1) (x := .int .i64 p.mx) rfl
          have x2 := (K2.out).reads (i := 2) (x := .int .i64 p.gr) rfl
          have y2 := (K3.out).reads (i := 2) (x := .int .i64 t.k) rfl
          have y3 := (K3.out).reads (i := 3) (x := .int .i64 t.u) rfl
          have y4 := (K3.out).reads (i := 4) (x := .int .i64 t.v) rfl
          go_wp2
          try rw [Exit.noGoto_ret]
          go_ret
          exact ⟨ret_bool HX.out.symm, HB.out⟩
      · have d2 : decide (p.mn ≤ t.k) = false := decide_eq_false q2
        have e2 : decide (t.k ≥ p.mn) = false := d2
        clear q2
        have HX : Hid (mayB13 p t = false) := by unfold mayB13; rw [Hid, h0, h1, d2]; rfl
        have H0 := Lib.hid h0
        have H1 := Lib.hid h1
        clear h0 h1
        go_enter Try.func21, Try.ntmps21
        go_upto_region 1 with (first | (refine big_box rfl 38 _ rfl (trA t) rfl (by kernel_rfl) ?_; intro gK3 wK3 hlK3 nK3 hbK3; have K3 := Lib.hid nK3; have LK3 := Lib.hid (Nat.le_trans (HB.out).size hlK3); have OK2K3 := Lib.hid ((K2.out).off hlK3); replace K2 := Lib.hid ((K2.out).keptB hbK3); replace HB := Lib.hid (bstep HB.out hbK3); clear hlK3 nK3 hbK3; try simp only [Act.put, List.setIfInBounds_toArray, List.set_cons_zero, List.set_cons_succ]) | (refine big_box rfl 23 _ rfl (paA p) rfl (by kernel_rfl) ?_; intro gK2 wK2 hlK2 nK2 hbK2; have K2 := Lib.hid nK2; have LK2 := Lib.hid (Nat.le_trans (HB.out).size hlK2); replace HB := Lib.hid (bstep HB.out hbK2); clear hlK2 nK2 hbK2; try simp only [Act.put, List.setIfInBounds_toArray, List.set_cons_zero, List.set_cons_succ]))
        go_wp2_with ((refine big_whole rfl 23 _ rfl gK2 rfl K2.out Try.underlying23 rfl (by kernel_rfl) ?_; try simp only [Act.put, List.setIfInBounds_toArray, List.set_cons_zero, List.set_cons_succ]))
        refine (rright13_any p _).mono ?_
        rintro e c1 ⟨rfl, hc1⟩
        replace K2 := Lib.hid ((K2.out).keptB hc1)
        replace K3 := Lib.hid ((K3.out).keptB hc1)
        replace HB := Lib.hid (bstep HB.out hc1)
        clear hc1
        rw [H0.out]
        have y0 := (K3.out).reads (i := 0) (x := .int .i64 t.a) rfl
        have y1 := (K3.out).reads (i := 1) (x := .int .i64 t.o) rfl
        have y2 := (K3.out).reads (i := 2) (x := .int .i64 t.k) rfl
        have y5 := (K3.out).reads (i := 5) (x := .int .i64 t.c) rfl
        go_wp2_with ((refine big_slice rfl 59 3 4 _ rfl (#[.int .i64 t.a, .int .i64 t.o, .int .i64 t.k, .int .i64 t.c]) Try.underlying59 rfl rfl rfl (of_decide_eq_true (by kernel_rfl)) (of_decide_eq_true (by kernel_rfl)) (by kernel_rfl) ?_; intro gK9 wK9 hlK9 nK9 hbK9; have K9 := Lib.hid nK9; have LK9 := Lib.hid (Nat.le_trans (HB.out).size hlK9); have OK2K9 := Lib.hid ((K2.out).off hlK9); have OK3K9 := Lib.hid ((K3.out).off hlK9); replace K2 := Lib.hid ((K2.out).keptB hbK9); replace K3 := Lib.hid ((K3.out).keptB hbK9); replace HB := Lib.hid (bstep HB.out hbK9); clear hlK9 nK9 hbK9; try simp only [Act.put, List.setIfInBounds_toArray, List.set_cons_zero, List.set_cons_succ]))
        try clear y0 y1 y2 y5
        refine (small13_any [t.a, t.o, t.k, t.c] gK9 4 _ (holds_nums K9.out rfl rfl) (by decide)).mono ?_
        rintro e c2 ⟨rfl, hc2⟩
        replace K2 := Lib.hid ((K2.out).keptB hc2)
        replace K3 := Lib.hid ((K3.out).keptB hc2)
        replace K9 := Lib.hid ((K9.out).keptB hc2)
        replace HB := Lib.hid (bstep HB.out hc2)
        clear hc2
        rw [H1.out]
        have x0 := (K2.out).reads (i := 0) (x := .int .i64 p.mn) rfl
        have x1 := (K2.out).reads (i := 1) (x := .int .i64 p.mx) rfl
        have x2 := (K2.out).reads (i := 2) (x := .int .i64 p.gr) rfl
        have y2 := (K3.out).reads (i := 2) (x := .int .i64 t.k) rfl
        have y3 := (K3.out).reads (i := 3) (x := .int .i64 t.u) rfl
        have y4 := (K3.out).reads (i := 4) (x := .int .i64 t.v) rfl
        go_wp2
        try rw [Exit.noGoto_ret]
        go_ret
        exact ⟨ret_bool HX.out.symm, HB.out⟩

end Go.Proofs.Ytdjomckfifcfdaa
