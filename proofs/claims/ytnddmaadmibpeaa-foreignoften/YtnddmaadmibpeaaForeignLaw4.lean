/- The walk over ForeignOften. -/
import Derived.Test.YtnddmaadmibpeaaForeignOneB
import Derived.Test.YtnddmaadmibpeaaForeignAlive
import Derived.Test.YtnddmaadmibpeaaRankEq
import Derived.Deep.DeepCutAuto
import Derived.Deep.LoopGhost
namespace Go.Proofs.Ytnddmaadmibpeaa
set_option maxRecDepth 100000
open Go.RowKit
set_option linter.unusedVariables false
set_option linter.unusedSimpArgs false

set_option maxHeartbeats 4000000 in
theorem often8 (own : Ck) (every many : Int) (s : Rs) (w : World) (hs : s.full) :
    Calls Try.prog 6 #[.agg #[.int .u8 own.b0, .int .u8 own.b1, .int .u8 own.b2, .int .u8 own.b3, .int .u8 own.b4, .int .u8 own.b5, .int .u8 own.b6, .int .u8 own.b7, .int .i64 every], .int .i64 many, .agg (rsA s)] w fun e w' => e = .returned (.bool true) ∧ Below w.heap.size w w' := by
  have HSF := Lib.hid hs
  clear hs
  have HB := Lib.hid (Below.refl w.heap.size w)
  go_enter Try.func6, Try.ntmps6
  go_upto_region 1 with (first | (refine big_box rfl 37 _ rfl (rsA s) rfl (by kernel_rfl) ?_; intro gK5 wK5 hlK5 nK5 hbK5; have K5 := Lib.hid nK5; have LK5 := Lib.hid (Nat.le_trans (HB.out).size hlK5); have OK1K5 := Lib.hid ((K1.out).off hlK5); replace K1 := Lib.hid ((K1.out).keptB hbK5); replace HB := Lib.hid (bstep HB.out hbK5); clear hlK5 nK5 hbK5) | (refine big_box rfl 25 _ rfl (#[.int .u8 own.b0, .int .u8 own.b1, .int .u8 own.b2, .int .u8 own.b3, .int .u8 own.b4, .int .u8 own.b5, .int .u8 own.b6, .int .u8 own.b7, .int .i64 every]) rfl (by kernel_rfl) ?_; intro gK1 wK1 hlK1 nK1 hbK1; have K1 := Lib.hid nK1; have LK1 := Lib.hid (Nat.le_trans (HB.out).size hlK1); replace HB := Lib.hid (bstep HB.out hbK1); clear hlK1 nK1 hbK1))
  have x8 := (K1.out).reads (i := 8) (x := .int .i64 every) rfl
  by_cases hev : every < 1 ∨ 1099511627776 < every
  · go_wp2_with ((refine big_load rfl 23 _ rfl gK1 0 rfl K1.out [.int .u8 own.b0, .int .u8 own.b1, .int .u8 own.b2, .int .u8 own.b3, .int .u8 own.b4, .int .u8 own.b5, .int .u8 own.b6, .int .u8 own.b7] rfl Try.underlying23 rfl (by kernel_rfl) ?_))
    refine (new8_no own every _ (by omega)).mono ?_
    rintro e w1 ⟨rfl, h1⟩
    replace HB := Lib.hid (bstep HB.out h1)
    clear h1 hev
    go_wp2_with fail
    refine (alive8_any _).mono ?_
    rintro e ca ⟨rfl, hca⟩
    replace HB := Lib.hid (bstep HB.out hca)
    clear hca
    go_wp2
    try rw [Exit.noGoto_ret]
    go_ret
    exact ⟨rfl, HB.out⟩
  · have HEV : Hid (1 ≤ every ∧ every ≤ 1099511627776) := by rw [Hid]; omega
    clear hev
    go_wp2_with ((refine big_load rfl 23 _ rfl gK1 0 rfl K1.out [.int .u8 own.b0, .int .u8 own.b1, .int .u8 own.b2, .int .u8 own.b3, .int .u8 own.b4, .int .u8 own.b5, .int .u8 own.b6, .int .u8 own.b7] rfl Try.underlying23 rfl (by kernel_rfl) ?_))
    refine (new8_yes own every _ (HEV.out).1 (HEV.out).2).mono ?_
    rintro e w1 ⟨p, m, rfl, ht, hp, hm, h1⟩
    obtain ⟨win, hwin⟩ : ∃ x, 4 * every = x := ⟨_, rfl⟩
    rw [hwin] at ht
    have HW : Hid (4 * every = win) := hwin
    have h2 : 0 ≤ win := by have := HEV.out; omega
    have h3 : win ≤ 4398046511104 := by have := HEV.out; omega
    have LM : Hid (w.heap.size ≤ m) := by rw [Hid]; have := (HB.out).size; omega
    have NK1 : Hid (gK1 ≠ m) := by rw [Hid]; have := (K1.out).inside; omega
    have NK5 : Hid (gK5 ≠ m) := by rw [Hid]; have := (K5.out).inside; omega
    replace K1 := Lib.hid ((K1.out).keptB h1)
    replace K5 := Lib.hid ((K5.out).keptB h1)
    replace HB := Lib.hid (bstep HB.out h1)
    have TB := Lib.hid ht
    clear ht hp hm h1 hwin
    clear x8
    have x8 := (K1.out).reads (i := 8) (x := .int .i64 every) rfl
    have x4 := (K5.out).reads (i := 13) (x := .int .i64 s.st) rfl
    by_cases hc1 : many < 2
    · have d1 : decide (many < 2) = true := decide_eq_true hc1
      clear hc1
      go_wp2_with fail
      refine (alive8_any _).mono ?_
      rintro e ca ⟨rfl, hca⟩
      replace HB := Lib.hid (bstep HB.out hca)
      clear hca
      go_wp2
      try rw [Exit.noGoto_ret]
      go_ret
      exact ⟨rfl, HB.out⟩
    · have d1 : decide (many < 2) = false := decide_eq_false hc1
      by_cases hc2 : 50 < many
      · have d2 : decide (50 < many) = true := decide_eq_true hc2
        clear hc2
        go_wp2_with fail
        refine (alive8_any _).mono ?_
        rintro e ca ⟨rfl, hca⟩
        replace HB := Lib.hid (bstep HB.out hca)
        clear hca
        go_wp2
        try rw [Exit.noGoto_ret]
        go_ret
        exact ⟨rfl, HB.out⟩
      · have d2 : decide (50 < many) = false := decide_eq_false hc2
        by_cases hc3 : 1073741824 < every
        · have d3 : decide (1073741824 < every) = true := decide_eq_true hc3
          clear hc3
          go_wp2_with fail
          refine (alive8_any _).mono ?_
          rintro e ca ⟨rfl, hca⟩
          replace HB := Lib.hid (bstep HB.out hca)
          clear hca
          go_wp2
          try rw [Exit.noGoto_ret]
          go_ret
          exact ⟨rfl, HB.out⟩
        · have d3 : decide (1073741824 < every) = false := decide_eq_false hc3
          have HE : Hid (every ≤ 1073741824) := by rw [Hid]; omega
          clear hc3
          cases hcc : eqC s.sn.c own
          · have HC := Lib.hid hcc
            clear hcc
            by_cases hc5 : s.st < 0
            · have d5 : decide (s.st < 0) = true := decide_eq_true hc5
              clear hc5
              go_wp2_with (first | (refine big_cmp rfl .eql 23 _ _ _ rfl (#[.int .u8 s.sn.c.b0, .int .u8 s.sn.c.b1, .int .u8 s.sn.c.b2, .int .u8 s.sn.c.b3, .int .u8 s.sn.c.b4, .int .u8 s.sn.c.b5, .int .u8 s.sn.c.b6, .int .u8 s.sn.c.b7]) (#[.int .u8 own.b0, .int .u8 own.b1, .int .u8 own.b2, .int .u8 own.b3, .int .u8 own.b4, .int .u8 own.b5, .int .u8 own.b6, .int .u8 own.b7]) rfl rfl (by kernel_rfl) false (fun v => (eql_clock s.sn.c own v).trans (by rw [HC.out])) ?_) | (refine big_load rfl 23 _ rfl gK5 14 rfl K5.out [.int .u8 s.sn.c.b0, .int .u8 s.sn.c.b1, .int .u8 s.sn.c.b2, .int .u8 s.sn.c.b3, .int .u8 s.sn.c.b4, .int .u8 s.sn.c.b5, .int .u8 s.sn.c.b6, .int .u8 s.sn.c.b7] rfl Try.underlying23 rfl (by kernel_rfl) ?_) | (refine big_load rfl 23 _ rfl gK1 0 rfl K1.out [.int .u8 own.b0, .int .u8 own.b1, .int .u8 own.b2, .int .u8 own.b3, .int .u8 own.b4, .int .u8 own.b5, .int .u8 own.b6, .int .u8 own.b7] rfl Try.underlying23 rfl (by kernel_rfl) ?_))
              refine (alive8_any _).mono ?_
              rintro e ca ⟨rfl, hca⟩
              replace HB := Lib.hid (bstep HB.out hca)
              clear hca
              go_wp2
              try rw [Exit.noGoto_ret]
              go_ret
              exact ⟨rfl, HB.out⟩
            · have d5 : decide (s.st < 0) = false := decide_eq_false hc5
              by_cases hc6 : 255 ≤ s.st
              · have d6 : decide (255 ≤ s.st) = true := decide_eq_true hc6
                clear hc6
                go_wp2_with (first | (refine big_cmp rfl .eql 23 _ _ _ rfl (#[.int .u8 s.sn.c.b0, .int .u8 s.sn.c.b1, .int .u8 s.sn.c.b2, .int .u8 s.sn.c.b3, .int .u8 s.sn.c.b4, .int .u8 s.sn.c.b5, .int .u8 s.sn.c.b6, .int .u8 s.sn.c.b7]) (#[.int .u8 own.b0, .int .u8 own.b1, .int .u8 own.b2, .int .u8 own.b3, .int .u8 own.b4, .int .u8 own.b5, .int .u8 own.b6, .int .u8 own.b7]) rfl rfl (by kernel_rfl) false (fun v => (eql_clock s.sn.c own v).trans (by rw [HC.out])) ?_) | (refine big_load rfl 23 _ rfl gK5 14 rfl K5.out [.int .u8 s.sn.c.b0, .int .u8 s.sn.c.b1, .int .u8 s.sn.c.b2, .int .u8 s.sn.c.b3, .int .u8 s.sn.c.b4, .int .u8 s.sn.c.b5, .int .u8 s.sn.c.b6, .int .u8 s.sn.c.b7] rfl Try.underlying23 rfl (by kernel_rfl) ?_) | (refine big_load rfl 23 _ rfl gK1 0 rfl K1.out [.int .u8 own.b0, .int .u8 own.b1, .int .u8 own.b2, .int .u8 own.b3, .int .u8 own.b4, .int .u8 own.b5, .int .u8 own.b6, .int .u8 own.b7] rfl Try.underlying23 rfl (by kernel_rfl) ?_))
                refine (alive8_any _).mono ?_
                rintro e ca ⟨rfl, hca⟩
                replace HB := Lib.hid (bstep HB.out hca)
                clear hca
                go_wp2
                try rw [Exit.noGoto_ret]
                go_ret
                exact ⟨rfl, HB.out⟩
              · have d6 : decide (255 ≤ s.st) = false := decide_eq_false hc6
                have HST : Hid (0 ≤ s.st ∧ s.st < 255) := by rw [Hid]; omega
                clear hc5 hc6
                obtain ⟨n, hn⟩ : ∃ n : Nat, many = (n : Int) := ⟨many.toNat, by omega⟩
                subst hn
                have HR : Hid (TabOk ([] : List Fe) ∧ OneB [] s every 0) := ⟨tab_nil, .inl ⟨rfl, rfl⟩⟩
                go_wp2_with (first | (refine big_cmp rfl .eql 23 _ _ _ rfl (#[.int .u8 s.sn.c.b0, .int .u8 s.sn.c.b1, .int .u8 s.sn.c.b2, .int .u8 s.sn.c.b3, .int .u8 s.sn.c.b4, .int .u8 s.sn.c.b5, .int .u8 s.sn.c.b6, .int .u8 s.sn.c.b7]) (#[.int .u8 own.b0, .int .u8 own.b1, .int .u8 own.b2, .int .u8 own.b3, .int .u8 own.b4, .int .u8 own.b5, .int .u8 own.b6, .int .u8 own.b7]) rfl rfl (by kernel_rfl) false (fun v => (eql_clock s.sn.c own v).trans (by rw [HC.out])) ?_) | (refine big_load rfl 23 _ rfl gK5 14 rfl K5.out [.int .u8 s.sn.c.b0, .int .u8 s.sn.c.b1, .int .u8 s.sn.c.b2, .int .u8 s.sn.c.b3, .int .u8 s.sn.c.b4, .int .u8 s.sn.c.b5, .int .u8 s.sn.c.b6, .int .u8 s.sn.c.b7] rfl Try.underlying23 rfl (by kernel_rfl) ?_) | (refine big_load rfl 23 _ rfl gK1 0 rfl K1.out [.int .u8 own.b0, .int .u8 own.b1, .int .u8 own.b2, .int .u8 own.b3, .int .u8 own.b4, .int .u8 own.b5, .int .u8 own.b6, .int .u8 own.b7] rfl Try.underlying23 rfl (by kernel_rfl) ?_))
                clear x4 x8 d1 d2 d3 d5 d6
                go_loopg [59] n (fun gh i v => ∃ (j : Nat) (R : List Fe), j + gh = n ∧ i = .int .i64 j ∧ Hid (TabAt v p m own win R) ∧ Hid (TabOk R ∧ OneB R s every j) ∧ Hid (Holds v gK5 37 (rsA s)) ∧ Hid (Holds v gK1 25 (#[.int .u8 own.b0, .int .u8 own.b1, .int .u8 own.b2, .int .u8 own.b3, .int .u8 own.b4, .int .u8 own.b5, .int .u8 own.b6, .int .u8 own.b7, .int .i64 every])) ∧ Hid (Below w.heap.size w v))
                case atStart => exact ⟨0, [], by omega, rfl, TB, HR, K5, K1, HB⟩
                case round =>
                  clear TB HR K5 K1 HB
                  obtain ⟨j, R, hj, rfl, TB, HR, K5, K1, HB⟩ := hrel
                  cases gk with
                  | zero =>
                    have hd : decide ((j : Int) < (n : Int)) = false := decide_eq_false (by omega)
                    have HL1 : Hid (((R.length : Nat) : Int) = 1) := by rw [Hid, one_len (HR.out).2 (by omega)]; rfl
                    go_wp2_with fail
                    refine (alive8_any _).mono ?_
                    rintro e ca ⟨rfl, hca⟩
                    replace TB := Lib.hid ((TB.out).keptB hca)
                    replace HB := Lib.hid (bstep HB.out hca)
                    clear hca
                    go_wp2_with fail
                    refine (len8_any p m own win R _ TB.out).mono ?_
                    rintro e c2 ⟨rfl, rfl⟩
                    rw [HL1.out]
                    go_wp2
                    try rw [Exit.noGoto_ret]
                    go_ret
                    exact ⟨rfl, HB.out⟩
                  | succ g1 =>
                    have hlt : j < n := by omega
                    have hd : decide ((j : Int) < (n : Int)) = true := decide_eq_true (by omega)
                    have b0 : 0 ≤ (j : Int) * every := Int.mul_nonneg (by omega) (by have := HEV.out; omega)
                    have b1 : (j : Int) * every ≤ 53687091200 := Int.le_trans (Int.mul_le_mul (show (j : Int) ≤ 50 by omega) (HE.out) (by have := HEV.out; omega) (by omega)) (by decide)
                    obtain ⟨now, hm⟩ : ∃ x, (j : Int) * every = x := ⟨_, rfl⟩
                    rw [hm] at b0 b1
                    have HM := Lib.hid hm
                    obtain ⟨R2, hh, ho2, ht2⟩ := one_round (HR.out).2 HW.out HM.out (says_yes b0 (by omega) HC.out HST.out.1 HST.out.2) b0 (by have := HEV.out; omega)
                    have HH := Lib.hid hh
                    have HT2 := Lib.hid ht2
                    have HR2 : Hid (TabOk R2 ∧ OneB R2 s every (j + 1)) := ⟨by have h := hearE_ok (own := own) (win := win) (HR.out).1 (HSF.out).ok (HSF.out).n0 (HSF.out).n1 now; rw [HH.out] at h; exact h, ho2⟩
                    clear hh ho2 ht2
                    by_cases hj0 : j = 0
                    · have HJ : Hid ((j : Int) = 0) := by rw [Hid]; omega
                      rw [if_pos hj0] at HH HT2
                      clear hj0
                      have x8 := (K1.out).reads (i := 8) (x := .int .i64 every) rfl
                      go_wp2_with (refine big_whole rfl 37 _ rfl gK5 rfl K5.out Try.underlying37 rfl (by kernel_rfl) ?_)
                      have LZ := Lib.hid (HB.out).size
                      refine (hear8_any p m own win R s now _ (HR.out).1 TB.out (HSF.out).key h2 h3).mono ?_
                      rintro e c1 ⟨rfl, ht, hoo⟩
                      rw [HH.out] at ht ⊢
                      replace TB := Lib.hid ht
                      replace K5 := Lib.hid ((K5.out).only hoo (by have := NK5.out; simp; omega))
                      replace K1 := Lib.hid ((K1.out).only hoo (by have := NK1.out; simp; omega))
                      replace HB := Lib.hid (bonly8 HB.out hoo LZ.out (by have := LM.out; simpa using this))
                      clear hoo LZ ht HR HH
                      have x8 := (K1.out).reads (i := 8) (x := .int .i64 every) rfl
                      go_wp2_with fail
                      refine (qual8_any p m own win R2 now _ (HR2.out).1 TB.out (by omega) h2 h3).mono ?_
                      rintro e c5 ⟨q, rfl, hq, h5⟩
                      rw [HT2.out] at hq
                      replace TB := Lib.hid ((TB.out).keptB h5)
                      replace K5 := Lib.hid ((K5.out).keptB h5)
                      replace K1 := Lib.hid ((K1.out).keptB h5)
                      replace HB := Lib.hid (bstep HB.out h5)
                      clear h5 HT2
                      obtain ⟨A2, n2, c2, rfl, hn2, _⟩ := hq
                      obtain rfl : 0 = n2 := by simpa using hn2
                      clear hn2
                      go_upto_region 9 with fail
                      refine wp_region_held_drew (S := fun v => Below w.heap.size w v ∧ TabAt v p m own win R2 ∧ Holds v gK5 37 (rsA s) ∧ Holds v gK1 25 (#[.int .u8 own.b0, .int .u8 own.b1, .int .u8 own.b2, .int .u8 own.b3, .int .u8 own.b4, .int .u8 own.b5, .int .u8 own.b6, .int .u8 own.b7, .int .i64 every]) ∧ True) (by kernel_rfl) ?_ (fun hHeld => ?_)
                      · exact ⟨bdrew HB.out, (TB.out).drew, (K5.out).drew, (K1.out).drew, trivial⟩
                      clear HB TB K5 K1
                      refine wpAnyH_take (i := 0) (v := .int .i64 2) (at_list rfl) (by kernel_rfl) (by kernel_rfl) (by kernel_rfl) (fun _ _ _ h => h) (Or.inl ⟨by rfl, ?_⟩) hHeld ?_
                      · intro v hSv
                        clear hHeld
                        go_simp
                      try simp only [Act.put, List.setIfInBounds_toArray, List.set_cons_zero, List.set_cons_succ]
                      refine wpAnyH_take (i := 1) (v := .int .i64 (j : Int)) (at_list rfl) (by kernel_rfl) (by kernel_rfl) (by kernel_rfl) (fun _ _ _ h => h) (Or.inl ⟨by rfl, ?_⟩) hHeld ?_
                      · intro v hSv
                        clear hHeld
                        go_simp
                      try simp only [Act.put, List.setIfInBounds_toArray, List.set_cons_zero, List.set_cons_succ]
                      refine wpAnyH_take (i := 2) (v := .int .i64 0) (at_list rfl) (by kernel_rfl) (by kernel_rfl) (by kernel_rfl) (fun _ _ _ h => h) (Or.inl ⟨by rfl, ?_⟩) hHeld ?_
                      · intro v hSv
                        clear hHeld
                        go_simp
                        all_goals (have e := HJ.out; first | rfl | omega | (simp; omega))
                      try simp only [Act.put, List.setIfInBounds_toArray, List.set_cons_zero, List.set_cons_succ]
                      refine wpAnyH_take (i := 3) (v := .int .i64 2) (at_list rfl) (by kernel_rfl) (by kernel_rfl) (by kernel_rfl) (fun _ _ _ h => h) (Or.inl ⟨by rfl, ?_⟩) hHeld ?_
                      · intro v hSv
                        clear hHeld
                        go_simp
                        all_goals (have e := HJ.out; first | rfl | omega | (simp; omega))
                      try simp only [Act.put, List.setIfInBounds_toArray, List.set_cons_zero, List.set_cons_succ]
                      refine wpAnyH_take (i := 4) (v := .bool false) (at_list rfl) (by kernel_rfl) (by kernel_rfl) (by kernel_rfl) (fun _ _ _ h => h) (Or.inl ⟨by rfl, ?_⟩) hHeld ?_
                      · intro v hSv
                        clear hHeld
                        go_simp
                      try simp only [Act.put, List.setIfInBounds_toArray, List.set_cons_zero, List.set_cons_succ]
                      refine wpAnyH_take (i := 5) (v := .bool false) (at_list rfl) (by kernel_rfl) (by kernel_rfl) (by kernel_rfl) (fun _ _ _ h => h) (Or.inl ⟨by rfl, ?_⟩) hHeld ?_
                      · intro v hSv
                        clear hHeld
                        go_simp
                      try simp only [Act.put, List.setIfInBounds_toArray, List.set_cons_zero, List.set_cons_succ]
                      refine wpAnyH_take (i := 6) (v := .slice A2 0 c2) (at_list rfl) (by kernel_rfl) (by kernel_rfl) (by kernel_rfl) (fun _ _ _ h => h) (Or.inl ⟨by rfl, ?_⟩) hHeld ?_
                      · intro v hSv
                        clear hHeld
                        go_simp
                      try simp only [Act.put, List.setIfInBounds_toArray, List.set_cons_zero, List.set_cons_succ]
                      refine wpAnyH_take (i := 7) (v := .int .i64 0) (at_list rfl) (by kernel_rfl) (by kernel_rfl) (by kernel_rfl) (fun _ _ _ h => h) (Or.inl ⟨by rfl, ?_⟩) hHeld ?_
                      · intro v hSv
                        clear hHeld
                        go_simp
                      try simp only [Act.put, List.setIfInBounds_toArray, List.set_cons_zero, List.set_cons_succ]
                      refine wpAnyH_take (i := 8) (v := .int .i64 (j : Int)) (at_list rfl) (by kernel_rfl) (by kernel_rfl) (by kernel_rfl) (fun _ _ _ h => h) (Or.inl ⟨by rfl, ?_⟩) hHeld ?_
                      · intro v hSv
                        clear hHeld
                        go_simp
                      try simp only [Act.put, List.setIfInBounds_toArray, List.set_cons_zero, List.set_cons_succ]
                      refine wpAnyH_take (i := 9) (v := .int .i64 0) (at_list rfl) (by kernel_rfl) (by kernel_rfl) (by kernel_rfl) (fun _ _ _ h => h) (Or.inl ⟨by rfl, ?_⟩) hHeld ?_
                      · intro v hSv
                        clear hHeld
                        go_simp
                        all_goals (have e := HJ.out; first | rfl | omega | (simp; omega))
                      try simp only [Act.put, List.setIfInBounds_toArray, List.set_cons_zero, List.set_cons_succ]
                      refine wpAnyH_take (i := 10) (v := .bool false) (at_list rfl) (by kernel_rfl) (by kernel_rfl) (by kernel_rfl) (fun _ _ _ h => h) (Or.inl ⟨by rfl, ?_⟩) hHeld ?_
                      · intro v hSv
                        clear hHeld
                        go_simp
                      try simp only [Act.put, List.setIfInBounds_toArray, List.set_cons_zero, List.set_cons_succ]
                      refine wpAnyH_take (i := 11) (v := .bool false) (at_list rfl) (by kernel_rfl) (by kernel_rfl) (by kernel_rfl) (fun _ _ _ h => h) (Or.inl ⟨by rfl, ?_⟩) hHeld ?_
                      · intro v hSv
                        clear hHeld
                        go_simp
                      try simp only [Act.put, List.setIfInBounds_toArray, List.set_cons_zero, List.set_cons_succ]
                      refine wpAnyH_take (i := 12) (v := .bool false) (at_list rfl) (by kernel_rfl) (by kernel_rfl) (by kernel_rfl) (fun _ _ _ h => h) (Or.inl ⟨by rfl, ?_⟩) hHeld ?_
                      · intro v hSv
                        clear hHeld
                        go_simp
                      try simp only [Act.put, List.setIfInBounds_toArray, List.set_cons_zero, List.set_cons_succ]
                      refine wpAnyH_take (i := 13) (v := .int .i64 (j : Int)) (at_list rfl) (by kernel_rfl) (by kernel_rfl) (by kernel_rfl) (fun _ _ _ h => h) (Or.inl ⟨by rfl, ?_⟩) hHeld ?_
                      · intro v hSv
                        clear hHeld
                        go_simp
                      try simp only [Act.put, List.setIfInBounds_toArray, List.set_cons_zero, List.set_cons_succ]
                      refine wpAnyH_take (i := 14) (v := .bool false) (at_list rfl) (by kernel_rfl) (by kernel_rfl) (by kernel_rfl) (fun _ _ _ h => h) (Or.inl ⟨by rfl, ?_⟩) hHeld ?_
                      · intro v hSv
                        clear hHeld
                        go_simp
                        all_goals (have e := HJ.out; first | rfl | omega | (simp; omega))
                      try simp only [Act.put, List.setIfInBounds_toArray, List.set_cons_zero, List.set_cons_succ]
                      refine wpAnyH_take (i := 15) (v := .bool false) (at_list rfl) (by kernel_rfl) (by kernel_rfl) (by kernel_rfl) (fun _ _ _ h => h) (Or.inl ⟨by rfl, ?_⟩) hHeld ?_
                      · intro v hSv
                        clear hHeld
                        go_simp
                      try simp only [Act.put, List.setIfInBounds_toArray, List.set_cons_zero, List.set_cons_succ]
                      refine wpAnyH_take (i := 16) (v := undef) (at_list rfl) (by kernel_rfl) (by kernel_rfl) (by kernel_rfl) (fun _ _ _ h => h) (Or.inr ⟨by rfl, rfl⟩) hHeld ?_
                      try simp only [Act.put, List.setIfInBounds_toArray, List.set_cons_zero, List.set_cons_succ]
                      refine wpAnyH_take (i := 17) (v := undef) (at_list rfl) (by kernel_rfl) (by kernel_rfl) (by kernel_rfl) (fun _ _ _ h => h) (Or.inr ⟨by rfl, rfl⟩) hHeld ?_
                      try simp only [Act.put, List.setIfInBounds_toArray, List.set_cons_zero, List.set_cons_succ]
                      refine wpAnyH_take (i := 18) (v := undef) (at_list rfl) (by kernel_rfl) (by kernel_rfl) (by kernel_rfl) (fun _ _ _ h => h) (Or.inr ⟨by rfl, rfl⟩) hHeld ?_
                      try simp only [Act.put, List.setIfInBounds_toArray, List.set_cons_zero, List.set_cons_succ]
                      refine wpAnyH_take (i := 19) (v := undef) (at_list rfl) (by kernel_rfl) (by kernel_rfl) (by kernel_rfl) (fun _ _ _ h => h) (Or.inr ⟨by rfl, rfl⟩) hHeld ?_
                      try simp only [Act.put, List.setIfInBounds_toArray, List.set_cons_zero, List.set_cons_succ]
                      refine wpAnyH_take (i := 20) (v := undef) (at_list rfl) (by kernel_rfl) (by kernel_rfl) (by kernel_rfl) (fun _ _ _ h => h) (Or.inr ⟨by rfl, rfl⟩) hHeld ?_
                      try simp only [Act.put, List.setIfInBounds_toArray, List.set_cons_zero, List.set_cons_succ]
                      refine wpAnyH_take (i := 21) (v := .bool false) (at_list rfl) (by kernel_rfl) (by kernel_rfl) (by kernel_rfl) (fun _ _ _ h => h) (Or.inl ⟨by rfl, ?_⟩) hHeld ?_
                      · intro v hSv
                        clear hHeld
                        go_simp
                      try simp only [Act.put, List.setIfInBounds_toArray, List.set_cons_zero, List.set_cons_succ]
                      refine wpAnyH_take (i := 22) (v := .bool false) (at_list rfl) (by kernel_rfl) (by kernel_rfl) (by kernel_rfl) (fun _ _ _ h => h) (Or.inl ⟨by rfl, ?_⟩) hHeld ?_
                      · intro v hSv
                        clear hHeld
                        go_simp
                      try simp only [Act.put, List.setIfInBounds_toArray, List.set_cons_zero, List.set_cons_succ]
                      refine wpAnyH_done (by kernel_rfl) ?_ _
                      have HB := Lib.hid hHeld.1
                      have TB := Lib.hid hHeld.2.1
                      have K5 := Lib.hid hHeld.2.2.1
                      have K1 := Lib.hid hHeld.2.2.2.1
                      clear hHeld
                      go_wp2
                      go_roundg g1
                      case measure => omega
                      case rel => exact ⟨j + 1, R2, by omega, by go_num, TB, HR2, K5, K1, HB⟩
                    · have HJ : Hid ((1 : Int) ≤ (j : Int)) := by rw [Hid]; omega
                      rw [if_neg hj0] at HH HT2
                      clear hj0
                      have x8 := (K1.out).reads (i := 8) (x := .int .i64 every) rfl
                      go_wp2_with (refine big_whole rfl 37 _ rfl gK5 rfl K5.out Try.underlying37 rfl (by kernel_rfl) ?_)
                      have LZ := Lib.hid (HB.out).size
                      refine (hear8_any p m own win R s now _ (HR.out).1 TB.out (HSF.out).key h2 h3).mono ?_
                      rintro e c1 ⟨rfl, ht, hoo⟩
                      rw [HH.out] at ht ⊢
                      replace TB := Lib.hid ht
                      replace K5 := Lib.hid ((K5.out).only hoo (by have := NK5.out; simp; omega))
                      replace K1 := Lib.hid ((K1.out).only hoo (by have := NK1.out; simp; omega))
                      replace HB := Lib.hid (bonly8 HB.out hoo LZ.out (by have := LM.out; simpa using this))
                      clear hoo LZ ht HR HH
                      have x8 := (K1.out).reads (i := 8) (x := .int .i64 every) rfl
                      go_wp2_with fail
                      refine (qual8_any p m own win R2 now _ (HR2.out).1 TB.out (by omega) h2 h3).mono ?_
                      rintro e c5 ⟨q, rfl, hq, h5⟩
                      rw [HT2.out] at hq
                      replace TB := Lib.hid ((TB.out).keptB h5)
                      replace K5 := Lib.hid ((K5.out).keptB h5)
                      replace K1 := Lib.hid ((K1.out).keptB h5)
                      replace HB := Lib.hid (bstep HB.out h5)
                      clear h5 HT2
                      have QS0 := hq
                      obtain ⟨A2, n2, c2, rfl, hn2, hg⟩ := hq
                      obtain rfl : 1 = n2 := by simpa using hn2
                      obtain ⟨g2, o2, rfl, _⟩ := hg (by omega)
                      have QS := Lib.hid QS0
                      clear QS0 hn2 hg
                      go_upto_region 9 with fail
                      refine wp_region_held_drew (S := fun v => Below w.heap.size w v ∧ TabAt v p m own win R2 ∧ Holds v gK5 37 (rsA s) ∧ Holds v gK1 25 (#[.int .u8 own.b0, .int .u8 own.b1, .int .u8 own.b2, .int .u8 own.b3, .int .u8 own.b4, .int .u8 own.b5, .int .u8 own.b6, .int .u8 own.b7, .int .i64 every]) ∧ SetsIn v (.slice (some ⟨g2, o2, none⟩) 1 c2) [s] ∧ True) (by kernel_rfl) ?_ (fun hHeld => ?_)
                      · exact ⟨bdrew HB.out, (TB.out).drew, (K5.out).drew, (K1.out).drew, (QS.out).drew, trivial⟩
                      clear HB TB K5 K1 QS
                      refine wpAnyH_take (i := 0) (v := .int .i64 1) (at_list rfl) (by kernel_rfl) (by kernel_rfl) (by kernel_rfl) (fun _ _ _ h => h) (Or.inl ⟨by rfl, ?_⟩) hHeld ?_
                      · intro v hSv
                        clear hHeld
                        go_simp
                      try simp only [Act.put, List.setIfInBounds_toArray, List.set_cons_zero, List.set_cons_succ]
                      refine wpAnyH_take (i := 1) (v := .int .i64 (j : Int)) (at_list rfl) (by kernel_rfl) (by kernel_rfl) (by kernel_rfl) (fun _ _ _ h => h) (Or.inl ⟨by rfl, ?_⟩) hHeld ?_
                      · intro v hSv
                        clear hHeld
                        go_simp
                      try simp only [Act.put, List.setIfInBounds_toArray, List.set_cons_zero, List.set_cons_succ]
                      refine wpAnyH_take (i := 2) (v := .int .i64 1) (at_list rfl) (by kernel_rfl) (by kernel_rfl) (by kernel_rfl) (fun _ _ _ h => h) (Or.inl ⟨by rfl, ?_⟩) hHeld ?_
                      · intro v hSv
                        clear hHeld
                        go_simp
                        all_goals (have e := HJ.out; first | rfl | omega | (simp; omega))
                      try simp only [Act.put, List.setIfInBounds_toArray, List.set_cons_zero, List.set_cons_succ]
                      refine wpAnyH_take (i := 3) (v := .int .i64 1) (at_list rfl) (by kernel_rfl) (by kernel_rfl) (by kernel_rfl) (fun _ _ _ h => h) (Or.inl ⟨by rfl, ?_⟩) hHeld ?_
                      · intro v hSv
                        clear hHeld
                        go_simp
                        all_goals (have e := HJ.out; first | rfl | omega | (simp; omega))
                      try simp only [Act.put, List.setIfInBounds_toArray, List.set_cons_zero, List.set_cons_succ]
                      refine wpAnyH_take (i := 4) (v := .bool false) (at_list rfl) (by kernel_rfl) (by kernel_rfl) (by kernel_rfl) (fun _ _ _ h => h) (Or.inl ⟨by rfl, ?_⟩) hHeld ?_
                      · intro v hSv
                        clear hHeld
                        go_simp
                      try simp only [Act.put, List.setIfInBounds_toArray, List.set_cons_zero, List.set_cons_succ]
                      refine wpAnyH_take (i := 5) (v := .bool false) (at_list rfl) (by kernel_rfl) (by kernel_rfl) (by kernel_rfl) (fun _ _ _ h => h) (Or.inl ⟨by rfl, ?_⟩) hHeld ?_
                      · intro v hSv
                        clear hHeld
                        go_simp
                      try simp only [Act.put, List.setIfInBounds_toArray, List.set_cons_zero, List.set_cons_succ]
                      refine wpAnyH_take (i := 6) (v := .slice (some ⟨g2, o2, none⟩) 1 c2) (at_list rfl) (by kernel_rfl) (by kernel_rfl) (by kernel_rfl) (fun _ _ _ h => h) (Or.inl ⟨by rfl, ?_⟩) hHeld ?_
                      · intro v hSv
                        clear hHeld
                        go_simp
                      try simp only [Act.put, List.setIfInBounds_toArray, List.set_cons_zero, List.set_cons_succ]
                      refine wpAnyH_take (i := 7) (v := .int .i64 1) (at_list rfl) (by kernel_rfl) (by kernel_rfl) (by kernel_rfl) (fun _ _ _ h => h) (Or.inl ⟨by rfl, ?_⟩) hHeld ?_
                      · intro v hSv
                        clear hHeld
                        go_simp
                      try simp only [Act.put, List.setIfInBounds_toArray, List.set_cons_zero, List.set_cons_succ]
                      refine wpAnyH_take (i := 8) (v := .int .i64 (j : Int)) (at_list rfl) (by kernel_rfl) (by kernel_rfl) (by kernel_rfl) (fun _ _ _ h => h) (Or.inl ⟨by rfl, ?_⟩) hHeld ?_
                      · intro v hSv
                        clear hHeld
                        go_simp
                      try simp only [Act.put, List.setIfInBounds_toArray, List.set_cons_zero, List.set_cons_succ]
                      refine wpAnyH_take (i := 9) (v := .int .i64 1) (at_list rfl) (by kernel_rfl) (by kernel_rfl) (by kernel_rfl) (fun _ _ _ h => h) (Or.inl ⟨by rfl, ?_⟩) hHeld ?_
                      · intro v hSv
                        clear hHeld
                        go_simp
                        all_goals (have e := HJ.out; first | rfl | omega | (simp; omega))
                      try simp only [Act.put, List.setIfInBounds_toArray, List.set_cons_zero, List.set_cons_succ]
                      refine wpAnyH_take (i := 10) (v := .bool false) (at_list rfl) (by kernel_rfl) (by kernel_rfl) (by kernel_rfl) (fun _ _ _ h => h) (Or.inl ⟨by rfl, ?_⟩) hHeld ?_
                      · intro v hSv
                        clear hHeld
                        go_simp
                      try simp only [Act.put, List.setIfInBounds_toArray, List.set_cons_zero, List.set_cons_succ]
                      refine wpAnyH_take (i := 11) (v := .bool false) (at_list rfl) (by kernel_rfl) (by kernel_rfl) (by kernel_rfl) (fun _ _ _ h => h) (Or.inl ⟨by rfl, ?_⟩) hHeld ?_
                      · intro v hSv
                        clear hHeld
                        go_simp
                      try simp only [Act.put, List.setIfInBounds_toArray, List.set_cons_zero, List.set_cons_succ]
                      refine wpAnyH_take (i := 12) (v := .bool false) (at_list rfl) (by kernel_rfl) (by kernel_rfl) (by kernel_rfl) (fun _ _ _ h => h) (Or.inl ⟨by rfl, ?_⟩) hHeld ?_
                      · intro v hSv
                        clear hHeld
                        go_simp
                      try simp only [Act.put, List.setIfInBounds_toArray, List.set_cons_zero, List.set_cons_succ]
                      refine wpAnyH_take (i := 13) (v := .int .i64 (j : Int)) (at_list rfl) (by kernel_rfl) (by kernel_rfl) (by kernel_rfl) (fun _ _ _ h => h) (Or.inl ⟨by rfl, ?_⟩) hHeld ?_
                      · intro v hSv
                        clear hHeld
                        go_simp
                      try simp only [Act.put, List.setIfInBounds_toArray, List.set_cons_zero, List.set_cons_succ]
                      refine wpAnyH_take (i := 14) (v := .bool true) (at_list rfl) (by kernel_rfl) (by kernel_rfl) (by kernel_rfl) (fun _ _ _ h => h) (Or.inl ⟨by rfl, ?_⟩) hHeld ?_
                      · intro v hSv
                        clear hHeld
                        go_simp
                        all_goals (have e := HJ.out; first | rfl | omega | (simp; omega))
                      try simp only [Act.put, List.setIfInBounds_toArray, List.set_cons_zero, List.set_cons_succ]
                      refine wpAnyH_take (i := 15) (v := .bool true) (at_list rfl) (by kernel_rfl) (by kernel_rfl) (by kernel_rfl) (fun _ _ _ h => h) (Or.inl ⟨by rfl, ?_⟩) hHeld ?_
                      · intro v hSv
                        clear hHeld
                        go_simp
                      try simp only [Act.put, List.setIfInBounds_toArray, List.set_cons_zero, List.set_cons_succ]
                      refine wpAnyH_take (i := 16) (v := .slice (some ⟨g2, o2, none⟩) 1 c2) (at_list rfl) (by kernel_rfl) (by kernel_rfl) (by kernel_rfl) (fun _ _ _ h => h) (Or.inl ⟨by rfl, ?_⟩) hHeld ?_
                      · intro v hSv
                        clear hHeld
                        go_simp
                      try simp only [Act.put, List.setIfInBounds_toArray, List.set_cons_zero, List.set_cons_succ]
                      refine wpAnyH_take (i := 17) (v := .pointer (some ⟨g2, o2, none⟩)) (at_list rfl) (by kernel_rfl) (by kernel_rfl) (by kernel_rfl) (fun _ _ _ h => h) (Or.inl ⟨by rfl, ?_⟩) hHeld ?_
                      · intro v hSv
                        clear hHeld
                        go_simp
                      try simp only [Act.put, List.setIfInBounds_toArray, List.set_cons_zero, List.set_cons_succ]
                      refine wpAnyH_take (i := 18) (v := .agg (rsA s)) (at_list rfl) (by kernel_rfl) (by kernel_rfl) (by kernel_rfl) (fun _ _ _ h => h) (yieldsIf_load_mid (by rfl) 37 _ rfl g2 o2 rfl (rsA s).toList _ (fun v hv => sets_at0 (hv.2.2.2.2.1)) Try.underlying37 rfl (by kernel_rfl)) hHeld ?_
                      try simp only [Act.put, List.setIfInBounds_toArray, List.set_cons_zero, List.set_cons_succ]
                      refine wpAnyH_take (i := 19) (v := .agg (rsA s)) (at_list rfl) (by kernel_rfl) (by kernel_rfl) (by kernel_rfl) (fun _ _ _ h => h) (yields_whole (by rfl) 37 _ rfl gK5 rfl (fun v hv => hv.2.2.1) Try.underlying37 rfl (by kernel_rfl)) hHeld ?_
                      try simp only [Act.put, List.setIfInBounds_toArray, List.set_cons_zero, List.set_cons_succ]
                      refine wpAnyH_take (i := 20) (v := .bool false) (at_list rfl) (by kernel_rfl) (by kernel_rfl) (by kernel_rfl) (fun _ _ _ h => h) (yields_cmp (by rfl) .neq 37 _ _ _ rfl (rsA s) (rsA s) rfl rfl (by kernel_rfl) false (fun v => (neq_setR s s v).trans (by rw [eqR_self]; rfl))) hHeld ?_
                      try simp only [Act.put, List.setIfInBounds_toArray, List.set_cons_zero, List.set_cons_succ]
                      refine wpAnyH_take (i := 21) (v := .bool false) (at_list rfl) (by kernel_rfl) (by kernel_rfl) (by kernel_rfl) (fun _ _ _ h => h) (Or.inl ⟨by rfl, ?_⟩) hHeld ?_
                      · intro v hSv
                        clear hHeld
                        go_simp
                      try simp only [Act.put, List.setIfInBounds_toArray, List.set_cons_zero, List.set_cons_succ]
                      refine wpAnyH_take (i := 22) (v := .bool false) (at_list rfl) (by kernel_rfl) (by kernel_rfl) (by kernel_rfl) (fun _ _ _ h => h) (Or.inl ⟨by rfl, ?_⟩) hHeld ?_
                      · intro v hSv
                        clear hHeld
                        go_simp
                      try simp only [Act.put, List.setIfInBounds_toArray, List.set_cons_zero, List.set_cons_succ]
                      refine wpAnyH_done (by kernel_rfl) ?_ _
                      have HB := Lib.hid hHeld.1
                      have TB := Lib.hid hHeld.2.1
                      have K5 := Lib.hid hHeld.2.2.1
                      have K1 := Lib.hid hHeld.2.2.2.1
                      have QS := Lib.hid hHeld.2.2.2.2.1
                      clear hHeld
                      clear QS
                      go_wp2
                      go_roundg g1
                      case measure => omega
                      case rel => exact ⟨j + 1, R2, by omega, by go_num, TB, HR2, K5, K1, HB⟩
          · have HC := Lib.hid hcc
            clear hcc
            go_wp2_with (first | (refine big_cmp rfl .eql 23 _ _ _ rfl (#[.int .u8 s.sn.c.b0, .int .u8 s.sn.c.b1, .int .u8 s.sn.c.b2, .int .u8 s.sn.c.b3, .int .u8 s.sn.c.b4, .int .u8 s.sn.c.b5, .int .u8 s.sn.c.b6, .int .u8 s.sn.c.b7]) (#[.int .u8 own.b0, .int .u8 own.b1, .int .u8 own.b2, .int .u8 own.b3, .int .u8 own.b4, .int .u8 own.b5, .int .u8 own.b6, .int .u8 own.b7]) rfl rfl (by kernel_rfl) true (fun v => (eql_clock s.sn.c own v).trans (by rw [HC.out])) ?_) | (refine big_load rfl 23 _ rfl gK5 14 rfl K5.out [.int .u8 s.sn.c.b0, .int .u8 s.sn.c.b1, .int .u8 s.sn.c.b2, .int .u8 s.sn.c.b3, .int .u8 s.sn.c.b4, .int .u8 s.sn.c.b5, .int .u8 s.sn.c.b6, .int .u8 s.sn.c.b7] rfl Try.underlying23 rfl (by kernel_rfl) ?_) | (refine big_load rfl 23 _ rfl gK1 0 rfl K1.out [.int .u8 own.b0, .int .u8 own.b1, .int .u8 own.b2, .int .u8 own.b3, .int .u8 own.b4, .int .u8 own.b5, .int .u8 own.b6, .int .u8 own.b7] rfl Try.underlying23 rfl (by kernel_rfl) ?_))
            refine (alive8_any _).mono ?_
            rintro e ca ⟨rfl, hca⟩
            replace HB := Lib.hid (bstep HB.out hca)
            clear hca
            go_wp2
            try rw [Exit.noGoto_ret]
            go_ret
            exact ⟨rfl, HB.out⟩

end Go.Proofs.Ytnddmaadmibpeaa
