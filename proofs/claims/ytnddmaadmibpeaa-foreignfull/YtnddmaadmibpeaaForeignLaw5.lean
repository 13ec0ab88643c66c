/- The walk over ForeignFull. -/
import Derived.Test.YtnddmaadmibpeaaForeignFullB
import Derived.Test.YtnddmaadmibpeaaForeignAlive
import Derived.Test.YtnddmaadmibpeaaRankEq
import Derived.Deep.DeepCutAuto
import Derived.Deep.LoopGhost
namespace Go.Proofs.Ytnddmaadmibpeaa
set_option maxRecDepth 100000
open Go.RowKit
set_option linter.unusedVariables false
set_option linter.unusedSimpArgs false

set_option maxHeartbeats 4000000 in
theorem full8 (own : Ck) (every : Int) (q : Pt) (rounds : Int) (w : World) (hq : ptOk q) :
    Calls Try.prog 7 #[.agg #[.int .u8 own.b0, .int .u8 own.b1, .int .u8 own.b2, .int .u8 own.b3, .int .u8 own.b4, .int .u8 own.b5, .int .u8 own.b6, .int .u8 own.b7, .int .i64 every], .agg (ptA q), .int .i64 rounds] w fun e w' => e = .returned (.bool true) ∧ Below w.heap.size w w' := by
  have PQ := Lib.hid hq
  clear hq
  have HB := Lib.hid (Below.refl w.heap.size w)
  go_enter Try.func7, Try.ntmps7
  go_upto_region 1 with (first | (refine big_box rfl 35 _ rfl (ptA q) rfl (by kernel_rfl) ?_; intro gK4 wK4 hlK4 nK4 hbK4; have K4 := Lib.hid nK4; have LK4 := Lib.hid (Nat.le_trans (HB.out).size hlK4); have OK1K4 := Lib.hid ((K1.out).off hlK4); replace K1 := Lib.hid ((K1.out).keptB hbK4); replace HB := Lib.hid (bstep HB.out hbK4); clear hlK4 nK4 hbK4) | (refine big_box rfl 25 _ rfl (#[.int .u8 own.b0, .int .u8 own.b1, .int .u8 own.b2, .int .u8 own.b3, .int .u8 own.b4, .int .u8 own.b5, .int .u8 own.b6, .int .u8 own.b7, .int .i64 every]) rfl (by kernel_rfl) ?_; intro gK1 wK1 hlK1 nK1 hbK1; have K1 := Lib.hid nK1; have LK1 := Lib.hid (Nat.le_trans (HB.out).size hlK1); replace HB := Lib.hid (bstep HB.out hbK1); clear hlK1 nK1 hbK1))
  have x8 := (K1.out).reads (i := 8) (x := .int .i64 every) rfl
  by_cases hev : every < 1 ∨ 1099511627776 < every
  · go_wp2_with ((refine big_load rfl 23 _ rfl gK1 0 rfl K1.out [.int .u8 own.b0, .int .u8 own.b1, .int .u8 own.b2, .int .u8 own.b3, .int .u8 own.b4, .int .u8 own.b5, .int .u8 own.b6, .int .u8 own.b7] rfl Try.underlying23 rfl (by kernel_rfl) ?_))
    refine (new8_no own every _ (by omega)).mono ?_
    rintro e w1 ⟨rfl, h1⟩
    replace HB := Lib.hid (bstep HB.out h1)
    clear h1 hev
    go_wp2_with fail
    refine (alive8_any _).mono ?_
    rintro e ca ⟨rfl, hca⟩
    replace HB := Lib.hid (bstep HB.out hca)
    clear hca
    go_wp2
    try rw [Exit.noGoto_ret]
    go_ret
    exact ⟨rfl, HB.out⟩
  · have HEV : Hid (1 ≤ every ∧ every ≤ 1099511627776) := by rw [Hid]; omega
    clear hev
    go_wp2_with ((refine big_load rfl 23 _ rfl gK1 0 rfl K1.out [.int .u8 own.b0, .int .u8 own.b1, .int .u8 own.b2, .int .u8 own.b3, .int .u8 own.b4, .int .u8 own.b5, .int .u8 own.b6, .int .u8 own.b7] rfl Try.underlying23 rfl (by kernel_rfl) ?_))
    refine (new8_yes own every _ (HEV.out).1 (HEV.out).2).mono ?_
    rintro e w1 ⟨p, m, rfl, ht, hp, hm, h1⟩
    obtain ⟨win, hwin⟩ : ∃ x, 4 * every = x := ⟨_, rfl⟩
    rw [hwin] at ht
    have HW : Hid (4 * every = win) := hwin
    have h2 : 0 ≤ win := by have := HEV.out; omega
    have h3 : win ≤ 4398046511104 := by have := HEV.out; omega
    have LM : Hid (w.heap.size ≤ m) := by rw [Hid]; have := (HB.out).size; omega
    have NK1 : Hid (gK1 ≠ m) := by rw [Hid]; have := (K1.out).inside; omega
    have NK4 : Hid (gK4 ≠ m) := by rw [Hid]; have := (K4.out).inside; omega
    replace K1 := Lib.hid ((K1.out).keptB h1)
    replace K4 := Lib.hid ((K4.out).keptB h1)
    replace HB := Lib.hid (bstep HB.out h1)
    have TB := Lib.hid ht
    clear ht hp hm h1 hwin
    clear x8
    have x8 := (K1.out).reads (i := 8) (x := .int .i64 every) rfl
    by_cases hc1 : rounds < 1
    · have d1 : decide (rounds < 1) = true := decide_eq_true hc1
      clear hc1
      go_wp2_with fail
      refine (alive8_any _).mono ?_
      rintro e ca ⟨rfl, hca⟩
      replace HB := Lib.hid (bstep HB.out hca)
      clear hca
      go_wp2
      try rw [Exit.noGoto_ret]
      go_ret
      exact ⟨rfl, HB.out⟩
    · have d1 : decide (rounds < 1) = false := decide_eq_false hc1
      by_cases hc2 : 30 < rounds
      · have d2 : decide (30 < rounds) = true := decide_eq_true hc2
        clear hc2
        go_wp2_with fail
        refine (alive8_any _).mono ?_
        rintro e ca ⟨rfl, hca⟩
        replace HB := Lib.hid (bstep HB.out hca)
        clear hca
        go_wp2
        try rw [Exit.noGoto_ret]
        go_ret
        exact ⟨rfl, HB.out⟩
      · have d2 : decide (30 < rounds) = false := decide_eq_false hc2
        by_cases hc3 : 1073741824 < every
        · have d3 : decide (1073741824 < every) = true := decide_eq_true hc3
          clear hc3
          go_wp2_with fail
          refine (alive8_any _).mono ?_
          rintro e ca ⟨rfl, hca⟩
          replace HB := Lib.hid (bstep HB.out hca)
          clear hca
          go_wp2
          try rw [Exit.noGoto_ret]
          go_ret
          exact ⟨rfl, HB.out⟩
        · have d3 : decide (1073741824 < every) = false := decide_eq_false hc3
          have HE : Hid (every ≤ 1073741824) := by rw [Hid]; omega
          clear hc3
          obtain ⟨n, hn⟩ : ∃ n : Nat, rounds = (n : Int) := ⟨rounds.toNat, by omega⟩
          subst hn
          have HR : Hid (FullB ([] : List Fe) every 0 0) := full_nil every
          go_wp2
          clear x8 d1 d2 d3
          go_loopg [41] n (fun gh i v => ∃ (r : Nat) (R : List Fe), r + gh = n ∧ i = .int .i64 r ∧ Hid (TabAt v p m own win R) ∧ Hid (FullB R every r 0) ∧ Hid (Holds v gK4 35 (ptA q)) ∧ Hid (Holds v gK1 25 (#[.int .u8 own.b0, .int .u8 own.b1, .int .u8 own.b2, .int .u8 own.b3, .int .u8 own.b4, .int .u8 own.b5, .int .u8 own.b6, .int .u8 own.b7, .int .i64 every])) ∧ Hid (Below w.heap.size w v))
          case atStart => exact ⟨0, [], by omega, rfl, TB, HR, K4, K1, HB⟩
          case round =>
            clear TB HR K4 K1 HB
            obtain ⟨r, R, hr, rfl, TB, HR, K4, K1, HB⟩ := hrel
            cases gk with
            | zero =>
              have hd : decide ((r : Int) < (n : Int)) = false := decide_eq_false (by omega)
              go_wp2_with fail
              refine (alive8_any _).mono ?_
              rintro e ca ⟨rfl, hca⟩
              replace HB := Lib.hid (bstep HB.out hca)
              clear hca
              go_wp2
              try rw [Exit.noGoto_ret]
              go_ret
              exact ⟨rfl, HB.out⟩
            | succ g1 =>
              have hlt : r < n := by omega
              have hd : decide ((r : Int) < (n : Int)) = true := decide_eq_true (by omega)
              have b0 : 0 ≤ (r : Int) * every := Int.mul_nonneg (by omega) (by have := HEV.out; omega)
              have b1 : (r : Int) * every ≤ 32212254720 := Int.le_trans (Int.mul_le_mul (show (r : Int) ≤ 30 by omega) (HE.out) (by have := HEV.out; omega) (by omega)) (by decide)
              obtain ⟨now, hm⟩ : ∃ x, (r : Int) * every = x := ⟨_, rfl⟩
              rw [hm] at b0 b1
              have HM := Lib.hid hm
              go_wp2
              go_loopg [44] 5 (fun gh i v => ∃ (k : Nat) (R : List Fe), k + gh = 5 ∧ i = .int .i64 k ∧ Hid (TabAt v p m own win R) ∧ Hid (FullB R every r k) ∧ Hid ((∀ i : Nat, i < k → q ≠ portF i) ∧ (0 < k → eqC q.c own = false)) ∧ Hid (Holds v gK4 35 (ptA q)) ∧ Hid (Holds v gK1 25 (#[.int .u8 own.b0, .int .u8 own.b1, .int .u8 own.b2, .int .u8 own.b3, .int .u8 own.b4, .int .u8 own.b5, .int .u8 own.b6, .int .u8 own.b7, .int .i64 every])) ∧ Hid (Below w.heap.size w v))
              case atStart => exact ⟨0, R, by omega, rfl, TB, HR, ⟨fun i hi => by omega, fun hk => by omega⟩, K4, K1, HB⟩
              case round =>
                clear TB HR K4 K1 HB R
                obtain ⟨k, R, hk, rfl, TB, HR, HQ, K4, K1, HB⟩ := hrel
                cases gk with
                | zero =>
                  obtain rfl : k = 5 := by omega
                  have hd2 : decide (((5 : Nat) : Int) < 5) = false := by decide
                  have x8 := (K1.out).reads (i := 8) (x := .int .i64 every) rfl
                  go_wp2_with (first | (refine big_build rfl 37 _ rfl (rsA (setF q)) (by kernel_rfl) ?_) | (refine big_whole rfl 35 _ rfl gK4 rfl K4.out Try.underlying35 rfl (by kernel_rfl) ?_))
                  have LZ := Lib.hid (HB.out).size
                  refine (hear8_any p m own win R (setF q) now _ (HR.out).tab TB.out (PQ.out) h2 h3).mono ?_
                  rintro e c1 ⟨rfl, ht, hoo⟩
                  rw [(HR.out).out_ HM.out h2 (says_F b0 (by omega) ((HQ.out).2 (by omega))) (HQ.out).1] at ht ⊢
                  replace TB := Lib.hid ht
                  clear ht
                  replace K4 := Lib.hid ((K4.out).only hoo (by have := NK4.out; simp; omega))
                  replace K1 := Lib.hid ((K1.out).only hoo (by have := NK1.out; simp; omega))
                  replace HB := Lib.hid (bonly8 HB.out hoo LZ.out (by have := LM.out; simpa using this))
                  clear hoo LZ
                  go_wp2_with fail
                  refine (len8_any p m own win R _ TB.out).mono ?_
                  rintro e c2 ⟨rfl, rfl⟩
                  rw [(HR.out).five]
                  go_wp2
                  go_roundg g1
                  case measure => omega
                  case rel => exact ⟨r + 1, R, by omega, by go_num, TB, (HR.out).wrap, K4, K1, HB⟩
                | succ g3 =>
                  have hk5 : k < 5 := by omega
                  have hd2 : decide ((k : Int) < 5) = true := decide_eq_true (by omega)
                  have HKL := Lib.hid hk5
                  go_upto_region 11 with (first | (refine big_fill rfl 35 _ _ rfl gK11 (ptA (portF k)) rfl rfl K11.out (by kernel_rfl) (by kernel_rfl) (by kernel_rfl) ?_; intro vK110 nK11 htK11; replace K11 := Lib.hid nK11; replace TB := Lib.hid ((TB.out).touch htK11 OTBK11.out); replace K4 := Lib.hid ((K4.out).touch htK11 OK4K11.out); replace K1 := Lib.hid ((K1.out).touch htK11 OK1K11.out); replace HB := Lib.hid (btouch HB.out htK11 LK11.out); clear nK11 htK11) | (refine big_alloc rfl 35 rfl (ptA zeroR.sn) (by kernel_rfl) ?_; intro gK11 wK11 hlK11 nK11 hbK11; have K11 := Lib.hid nK11; have LK11 := Lib.hid (Nat.le_trans (HB.out).size hlK11); have OTBK11 := Lib.hid ((TB.out).off hlK11); have OK4K11 := Lib.hid ((K4.out).off hlK11); have OK1K11 := Lib.hid ((K1.out).off hlK11); replace TB := Lib.hid ((TB.out).keptB hbK11); replace K4 := Lib.hid ((K4.out).keptB hbK11); replace K1 := Lib.hid ((K1.out).keptB hbK11); replace HB := Lib.hid (bstep HB.out hbK11); clear hlK11 nK11 hbK11) | (refine big_build rfl 35 _ rfl (ptA (portF k)) (by kernel_rfl) ?_) | (refine big_build rfl 23 _ rfl (#[.int .u8 ((portF k).c).b0, .int .u8 ((portF k).c).b1, .int .u8 ((portF k).c).b2, .int .u8 ((portF k).c).b3, .int .u8 ((portF k).c).b4, .int .u8 ((portF k).c).b5, .int .u8 ((portF k).c).b6, .int .u8 ((portF k).c).b7]) (by kernel_rfl) ?_))
                  have N11 : Hid (gK11 ≠ m) := Ne.symm (OTBK11.out).2
                  cases ha : eqC (portF k).c own
                  · have HA := Lib.hid ha
                    clear ha
                    cases hpq : eqP (portF k) q
                    · have HPQ := Lib.hid hpq
                      clear hpq
                      cases hqc : eqC q.c own
                      · have HQC := Lib.hid hqc
                        clear hqc
                        have x8 := (K1.out).reads (i := 8) (x := .int .i64 every) rfl
                        go_wp2_with (first | (refine big_cmp rfl .eql 23 _ _ _ rfl (#[.int .u8 ((portF k).c).b0, .int .u8 ((portF k).c).b1, .int .u8 ((portF k).c).b2, .int .u8 ((portF k).c).b3, .int .u8 ((portF k).c).b4, .int .u8 ((portF k).c).b5, .int .u8 ((portF k).c).b6, .int .u8 ((portF k).c).b7]) (#[.int .u8 own.b0, .int .u8 own.b1, .int .u8 own.b2, .int .u8 own.b3, .int .u8 own.b4, .int .u8 own.b5, .int .u8 own.b6, .int .u8 own.b7]) rfl rfl (by kernel_rfl) false (fun v => (eql_clock (portF k).c own v).trans (by rw [HA.out])) ?_) | (refine big_cmp rfl .eql 35 _ _ _ rfl (#[.int .u8 ((portF k).c).b0, .int .u8 ((portF k).c).b1, .int .u8 ((portF k).c).b2, .int .u8 ((portF k).c).b3, .int .u8 ((portF k).c).b4, .int .u8 ((portF k).c).b5, .int .u8 ((portF k).c).b6, .int .u8 ((portF k).c).b7, .int .i64 (portF k).n]) (#[.int .u8 q.c.b0, .int .u8 q.c.b1, .int .u8 q.c.b2, .int .u8 q.c.b3, .int .u8 q.c.b4, .int .u8 q.c.b5, .int .u8 q.c.b6, .int .u8 q.c.b7, .int .i64 q.n]) rfl rfl (by kernel_rfl) false (fun v => (eql_port (portF k) q v).trans (by rw [HPQ.out])) ?_) | (refine big_cmp rfl .eql 23 _ _ _ rfl (#[.int .u8 q.c.b0, .int .u8 q.c.b1, .int .u8 q.c.b2, .int .u8 q.c.b3, .int .u8 q.c.b4, .int .u8 q.c.b5, .int .u8 q.c.b6, .int .u8 q.c.b7]) (#[.int .u8 own.b0, .int .u8 own.b1, .int .u8 own.b2, .int .u8 own.b3, .int .u8 own.b4, .int .u8 own.b5, .int .u8 own.b6, .int .u8 own.b7]) rfl rfl (by kernel_rfl) false (fun v => (eql_clock q.c own v).trans (by rw [HQC.out])) ?_) | (refine big_build rfl 37 _ rfl (rsA (setF (portF k))) (by kernel_rfl) ?_) | (refine big_load rfl 23 _ rfl gK11 0 rfl K11.out [.int .u8 ((portF k).c).b0, .int .u8 ((portF k).c).b1, .int .u8 ((portF k).c).b2, .int .u8 ((portF k).c).b3, .int .u8 ((portF k).c).b4, .int .u8 ((portF k).c).b5, .int .u8 ((portF k).c).b6, .int .u8 ((portF k).c).b7] rfl Try.underlying23 rfl (by kernel_rfl) ?_) | (refine big_load rfl 23 _ rfl gK1 0 rfl K1.out [.int .u8 own.b0, .int .u8 own.b1, .int .u8 own.b2, .int .u8 own.b3, .int .u8 own.b4, .int .u8 own.b5, .int .u8 own.b6, .int .u8 own.b7] rfl Try.underlying23 rfl (by kernel_rfl) ?_) | (refine big_load rfl 23 _ rfl gK4 0 rfl K4.out [.int .u8 q.c.b0, .int .u8 q.c.b1, .int .u8 q.c.b2, .int .u8 q.c.b3, .int .u8 q.c.b4, .int .u8 q.c.b5, .int .u8 q.c.b6, .int .u8 q.c.b7] rfl Try.underlying23 rfl (by kernel_rfl) ?_) | (refine big_whole rfl 35 _ rfl gK4 rfl K4.out Try.underlying35 rfl (by kernel_rfl) ?_) | (refine big_whole rfl 35 _ rfl gK11 rfl K11.out Try.underlying35 rfl (by kernel_rfl) ?_))
                        have LZ := Lib.hid (HB.out).size
                        refine (hear8_any p m own win R (setF (portF k)) now _ (HR.out).tab TB.out (portF_ok HKL.out) h2 h3).mono ?_
                        rintro e c1 ⟨rfl, ht, hoo⟩
                        have HR2 := Lib.hid ((HR.out).step (own := own) (win := win) HKL.out HM.out (by have := HEV.out; omega) (says_F b0 (by omega) HA.out))
                        replace TB := Lib.hid ht
                        clear ht
                        replace K4 := Lib.hid ((K4.out).only hoo (by have := NK4.out; simp; omega))
                        replace K1 := Lib.hid ((K1.out).only hoo (by have := NK1.out; simp; omega))
                        replace HB := Lib.hid (bonly8 HB.out hoo LZ.out (by have := LM.out; simpa using this))
                        clear hoo LZ
                        have HQ2 : Hid ((∀ i : Nat, i < k + 1 → q ≠ portF i) ∧ (0 < k + 1 → eqC q.c own = false)) := by
                          refine ⟨fun i hi => ?_, fun _ => HQC.out⟩
                          by_cases hik : i = k
                          · subst hik
                            rintro rfl
                            have := HPQ.out
                            rw [eqP_self] at this
                            cases this
                          · exact (HQ.out).1 i (by omega)
                        clear HQ HR K11 LK11 OTBK11 OK4K11 OK1K11
                        go_wp2
                        go_roundg g3
                        case measure => omega
                        case rel => exact ⟨k + 1, _, by omega, by go_num, TB, HR2, HQ2, K4, K1, HB⟩
                      · have HQC := Lib.hid hqc
                        clear hqc
                        go_wp2_with (first | (refine big_cmp rfl .eql 23 _ _ _ rfl (#[.int .u8 ((portF k).c).b0, .int .u8 ((portF k).c).b1, .int .u8 ((portF k).c).b2, .int .u8 ((portF k).c).b3, .int .u8 ((portF k).c).b4, .int .u8 ((portF k).c).b5, .int .u8 ((portF k).c).b6, .int .u8 ((portF k).c).b7]) (#[.int .u8 own.b0, .int .u8 own.b1, .int .u8 own.b2, .int .u8 own.b3, .int .u8 own.b4, .int .u8 own.b5, .int .u8 own.b6, .int .u8 own.b7]) rfl rfl (by kernel_rfl) false (fun v => (eql_clock (portF k).c own v).trans (by rw [HA.out])) ?_) | (refine big_cmp rfl .eql 35 _ _ _ rfl (#[.int .u8 ((portF k).c).b0, .int .u8 ((portF k).c).b1, .int .u8 ((portF k).c).b2, .int .u8 ((portF k).c).b3, .int .u8 ((portF k).c).b4, .int .u8 ((portF k).c).b5, .int .u8 ((portF k).c).b6, .int .u8 ((portF k).c).b7, .int .i64 (portF k).n]) (#[.int .u8 q.c.b0, .int .u8 q.c.b1, .int .u8 q.c.b2, .int .u8 q.c.b3, .int .u8 q.c.b4, .int .u8 q.c.b5, .int .u8 q.c.b6, .int .u8 q.c.b7, .int .i64 q.n]) rfl rfl (by kernel_rfl) false (fun v => (eql_port (portF k) q v).trans (by rw [HPQ.out])) ?_) | (refine big_cmp rfl .eql 23 _ _ _ rfl (#[.int .u8 q.c.b0, .int .u8 q.c.b1, .int .u8 q.c.b2, .int .u8 q.c.b3, .int .u8 q.c.b4, .int .u8 q.c.b5, .int .u8 q.c.b6, .int .u8 q.c.b7]) (#[.int .u8 own.b0, .int .u8 own.b1, .int .u8 own.b2, .int .u8 own.b3, .int .u8 own.b4, .int .u8 own.b5, .int .u8 own.b6, .int .u8 own.b7]) rfl rfl (by kernel_rfl) true (fun v => (eql_clock q.c own v).trans (by rw [HQC.out])) ?_) | (refine big_load rfl 23 _ rfl gK11 0 rfl K11.out [.int .u8 ((portF k).c).b0, .int .u8 ((portF k).c).b1, .int .u8 ((portF k).c).b2, .int .u8 ((portF k).c).b3, .int .u8 ((portF k).c).b4, .int .u8 ((portF k).c).b5, .int .u8 ((portF k).c).b6, .int .u8 ((portF k).c).b7] rfl Try.underlying23 rfl (by kernel_rfl) ?_) | (refine big_load rfl 23 _ rfl gK1 0 rfl K1.out [.int .u8 own.b0, .int .u8 own.b1, .int .u8 own.b2, .int .u8 own.b3, .int .u8 own.b4, .int .u8 own.b5, .int .u8 own.b6, .int .u8 own.b7] rfl Try.underlying23 rfl (by kernel_rfl) ?_) | (refine big_load rfl 23 _ rfl gK4 0 rfl K4.out [.int .u8 q.c.b0, .int .u8 q.c.b1, .int .u8 q.c.b2, .int .u8 q.c.b3, .int .u8 q.c.b4, .int .u8 q.c.b5, .int .u8 q.c.b6, .int .u8 q.c.b7] rfl Try.underlying23 rfl (by kernel_rfl) ?_) | (refine big_whole rfl 35 _ rfl gK4 rfl K4.out Try.underlying35 rfl (by kernel_rfl) ?_) | (refine big_whole rfl 35 _ rfl gK11 rfl K11.out Try.underlying35 rfl (by kernel_rfl) ?_))
                        refine (alive8_any _).mono ?_
                        rintro e ca ⟨rfl, hca⟩
                        replace HB := Lib.hid (bstep HB.out hca)
                        clear hca
                        go_wp2
                        try rw [Exit.noGoto_ret]
                        go_ret
                        exact ⟨rfl, HB.out⟩
                    · have HPQ := Lib.hid hpq
                      clear hpq
                      go_wp2_with (first | (refine big_cmp rfl .eql 23 _ _ _ rfl (#[.int .u8 ((portF k).c).b0, .int .u8 ((portF k).c).b1, .int .u8 ((portF k).c).b2, .int .u8 ((portF k).c).b3, .int .u8 ((portF k).c).b4, .int .u8 ((portF k).c).b5, .int .u8 ((portF k).c).b6, .int .u8 ((portF k).c).b7]) (#[.int .u8 own.b0, .int .u8 own.b1, .int .u8 own.b2, .int .u8 own.b3, .int .u8 own.b4, .int .u8 own.b5, .int .u8 own.b6, .int .u8 own.b7]) rfl rfl (by kernel_rfl) false (fun v => (eql_clock (portF k).c own v).trans (by rw [HA.out])) ?_) | (refine big_cmp rfl .eql 35 _ _ _ rfl (#[.int .u8 ((portF k).c).b0, .int .u8 ((portF k).c).b1, .int .u8 ((portF k).c).b2, .int .u8 ((portF k).c).b3, .int .u8 ((portF k).c).b4, .int .u8 ((portF k).c).b5, .int .u8 ((portF k).c).b6, .int .u8 ((portF k).c).b7, .int .i64 (portF k).n]) (#[.int .u8 q.c.b0, .int .u8 q.c.b1, .int .u8 q.c.b2, .int .u8 q.c.b3, .int .u8 q.c.b4, .int .u8 q.c.b5, .int .u8 q.c.b6, .int .u8 q.c.b7, .int .i64 q.n]) rfl rfl (by kernel_rfl) true (fun v => (eql_port (portF k) q v).trans (by rw [HPQ.out])) ?_) | (refine big_load rfl 23 _ rfl gK11 0 rfl K11.out [.int .u8 ((portF k).c).b0, .int .u8 ((portF k).c).b1, .int .u8 ((portF k).c).b2, .int .u8 ((portF k).c).b3, .int .u8 ((portF k).c).b4, .int .u8 ((portF k).c).b5, .int .u8 ((portF k).c).b6, .int .u8 ((portF k).c).b7] rfl Try.underlying23 rfl (by kernel_rfl) ?_) | (refine big_load rfl 23 _ rfl gK1 0 rfl K1.out [.int .u8 own.b0, .int .u8 own.b1, .int .u8 own.b2, .int .u8 own.b3, .int .u8 own.b4, .int .u8 own.b5, .int .u8 own.b6, .int .u8 own.b7] rfl Try.underlying23 rfl (by kernel_rfl) ?_) | (refine big_whole rfl 35 _ rfl gK4 rfl K4.out Try.underlying35 rfl (by kernel_rfl) ?_) | (refine big_whole rfl 35 _ rfl gK11 rfl K11.out Try.underlying35 rfl (by kernel_rfl) ?_))
                      refine (alive8_any _).mono ?_
                      rintro e ca ⟨rfl, hca⟩
                      replace HB := Lib.hid (bstep HB.out hca)
                      clear hca
                      go_wp2
                      try rw [Exit.noGoto_ret]
                      go_ret
                      exact ⟨rfl, HB.out⟩
                  · have HA := Lib.hid ha
                    clear ha
                    go_wp2_with (first | (refine big_cmp rfl .eql 23 _ _ _ rfl (#[.int .u8 ((portF k).c).b0, .int .u8 ((portF k).c).b1, .int .u8 ((portF k).c).b2, .int .u8 ((portF k).c).b3, .int .u8 ((portF k).c).b4, .int .u8 ((portF k).c).b5, .int .u8 ((portF k).c).b6, .int .u8 ((portF k).c).b7]) (#[.int .u8 own.b0, .int .u8 own.b1, .int .u8 own.b2, .int .u8 own.b3, .int .u8 own.b4, .int .u8 own.b5, .int .u8 own.b6, .int .u8 own.b7]) rfl rfl (by kernel_rfl) true (fun v => (eql_clock (portF k).c own v).trans (by rw [HA.out])) ?_) | (refine big_load rfl 23 _ rfl gK11 0 rfl K11.out [.int .u8 ((portF k).c).b0, .int .u8 ((portF k).c).b1, .int .u8 ((portF k).c).b2, .int .u8 ((portF k).c).b3, .int .u8 ((portF k).c).b4, .int .u8 ((portF k).c).b5, .int .u8 ((portF k).c).b6, .int .u8 ((portF k).c).b7] rfl Try.underlying23 rfl (by kernel_rfl) ?_) | (refine big_load rfl 23 _ rfl gK1 0 rfl K1.out [.int .u8 own.b0, .int .u8 own.b1, .int .u8 own.b2, .int .u8 own.b3, .int .u8 own.b4, .int .u8 own.b5, .int .u8 own.b6, .int .u8 own.b7] rfl Try.underlying23 rfl (by kernel_rfl) ?_))
                    refine (alive8_any _).mono ?_
                    rintro e ca ⟨rfl, hca⟩
                    replace HB := Lib.hid (bstep HB.out hca)
                    clear hca
                    go_wp2
                    try rw [Exit.noGoto_ret]
                    go_ret
                    exact ⟨rfl, HB.out⟩

end Go.Proofs.Ytnddmaadmibpeaa
