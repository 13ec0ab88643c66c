/- The walk over PortHears. -/
import Derived.Test.YtibhhhadjpmjiaaPortDo
import Derived.Test.YtibhhhadjpmjiaaPortAlive
import Derived.Test.YtibhhhadjpmjiaaPortOpen
import Derived.Test.YtibhhhadjpmjiaaPortInv
import Derived.Test.YtibhhhadjpmjiaaIntRow
import Derived.Deep.DeepCutAuto
import Derived.Deep.LoopGhost
namespace Go.Proofs.Ytibhhhadjpmjiaa
set_option maxRecDepth 100000
open Go.RowKit
set_option linter.unusedVariables false
set_option linter.unusedSimpArgs false

set_option maxHeartbeats 4000000 in
theorem hears12 (ev of : Int) (sl : Bool) (sv : Bool) (A : Option Addr) (n c : Nat) (zs : List Int) (w : World) (hs : sliceOk .i64 w A n c zs) :
    Calls Try.prog 5 #[.agg (kdA ev of sl), .bool sv, .slice A n c] w fun e w' => e = .returned (.bool true) ∧ Below w.heap.size w w' := by
  cases hmy : mayB ev of
  · have HMY := Lib.hid hmy
    clear hmy
    have HB := Lib.hid (Below.refl w.heap.size w)
    have NI0 := Lib.hid (slice_nums hs)
    have HLN : Hid ((zs.take n).length = n) := by
      obtain ⟨_, _, _, h1, h2, _⟩ := NI0.out
      cases h1
      exact h2
    clear hs
    obtain ⟨l, hl⟩ : ∃ l, zs.take n = l := ⟨_, rfl⟩
    rw [hl] at NI0 HLN
    clear hl
    go_enter Try.func5, Try.ntmps5
    go_upto_region 1 with ((refine big_box rfl 23 _ rfl (kdA ev of sl) rfl (by kernel_rfl) ?_; intro gK3 wK3 hlK3 nK3 hbK3; have K3 := Lib.hid nK3; have LK3 := Lib.hid (Nat.le_trans (HB.out).size hlK3); replace HB := Lib.hid (bstep HB.out hbK3); clear hlK3 nK3 hbK3; try simp only [Act.put, List.setIfInBounds_toArray, List.set_cons_zero, List.set_cons_succ]))
    have k0 := (K3.out).reads (i := 0) (x := .int .i64 ev) rfl
    have k1 := (K3.out).reads (i := 1) (x := .int .i64 of) rfl
    have k2 := (K3.out).reads (i := 2) (x := .bool sl) rfl
    go_wp2_with fail
    clear k0 k1 k2
    refine (pnew12_any ev of sl _).mono ?_
    intro e w1 hh
    obtain ⟨rfl, rfl⟩ := hh.1 HMY.out
    clear hh
    go_wp2_with fail
    refine (alive12_any _).mono ?_
    rintro e ca ⟨rfl, hca⟩
    replace HB := Lib.hid (bstep HB.out hca)
    clear hca
    go_wp2
    try rw [Exit.noGoto_ret]
    go_ret
    exact ⟨rfl, HB.out⟩
  · have HMY := Lib.hid hmy
    have HB := Lib.hid (Below.refl w.heap.size w)
    have NI0 := Lib.hid (slice_nums hs)
    have HLN : Hid ((zs.take n).length = n) := by
      obtain ⟨_, _, _, h1, h2, _⟩ := NI0.out
      cases h1
      exact h2
    clear hs
    obtain ⟨l, hl⟩ : ∃ l, zs.take n = l := ⟨_, rfl⟩
    rw [hl] at NI0 HLN
    clear hl
    go_enter Try.func5, Try.ntmps5
    go_upto_region 1 with ((refine big_box rfl 23 _ rfl (kdA ev of sl) rfl (by kernel_rfl) ?_; intro gK3 wK3 hlK3 nK3 hbK3; have K3 := Lib.hid nK3; have LK3 := Lib.hid (Nat.le_trans (HB.out).size hlK3); replace HB := Lib.hid (bstep HB.out hbK3); clear hlK3 nK3 hbK3; try simp only [Act.put, List.setIfInBounds_toArray, List.set_cons_zero, List.set_cons_succ]))
    have k0 := (K3.out).reads (i := 0) (x := .int .i64 ev) rfl
    have k1 := (K3.out).reads (i := 1) (x := .int .i64 of) rfl
    have k2 := (K3.out).reads (i := 2) (x := .bool sl) rfl
    go_wp2_with fail
    clear k0 k1 k2
    refine (pnew12_any ev of sl _).mono ?_
    intro e w1 hh
    obtain ⟨gM, rfl, hm, hl, hb⟩ := hh.2 HMY.out
    have OMK3 : Hid (gM ≠ gK3) := by rw [Hid]; have := (K3.out).inside; omega
    replace K3 := Lib.hid ((K3.out).keptB hb)
    have LM := Lib.hid (Nat.le_trans (HB.out).size hl)
    have M := Lib.hid hm
    replace HB := Lib.hid (bstep HB.out hb)
    clear hh hm hl hb
    by_cases q0 : (500 : Int) < (n : Int)
    · have e0 : decide ((500 : Int) < (n : Int)) = true := decide_eq_true q0
      clear q0
      have k0 := (K3.out).reads (i := 0) (x := .int .i64 ev) rfl
      go_wp2_with fail
      clear k0
      refine (alive12_any _).mono ?_
      rintro e ca ⟨rfl, hca⟩
      replace HB := Lib.hid (bstep HB.out hca)
      clear hca
      go_wp2
      try rw [Exit.noGoto_ret]
      go_ret
      exact ⟨rfl, HB.out⟩
    · by_cases q1 : 1073741824 < ev
      · have e0 : decide ((500 : Int) < (n : Int)) = false := decide_eq_false q0
        have e1 : decide (1073741824 < ev) = true := decide_eq_true q1
        clear q0 q1
        have k0 := (K3.out).reads (i := 0) (x := .int .i64 ev) rfl
        go_wp2_with fail
        clear k0
        refine (alive12_any _).mono ?_
        rintro e ca ⟨rfl, hca⟩
        replace HB := Lib.hid (bstep HB.out hca)
        clear hca
        go_wp2
        try rw [Exit.noGoto_ret]
        go_ret
        exact ⟨rfl, HB.out⟩
      · have e0 : decide ((500 : Int) < (n : Int)) = false := decide_eq_false q0
        have e1 : decide (1073741824 < ev) = false := decide_eq_false q1
        obtain ⟨⟨v0, v1⟩, v2, v3⟩ := mayB_iff.1 hmy
        have p1 := Int.mul_le_mul (show of ≤ 10 by omega) (show ev ≤ 1073741824 by omega) (by omega) (by omega)
        have p0 := Int.mul_le_mul (show 2 ≤ of by omega) (show 1 ≤ ev by omega) (by omega) (by omega)
        obtain ⟨d, hd⟩ : ∃ d, of * ev = d := ⟨_, rfl⟩
        rw [hd] at p0 p1
        have hn4 : n ≤ 500 := by omega
        have HD := Lib.hid hd
        clear q0 q1 hmy v0 v1 v2 v3 hd
        have HN := Lib.hid (new_eq (sl := sl) HMY.out)
        have HF0 : Hid ((newP ev of sl).fit) := new_fit HMY.out
        obtain ⟨m1, hm1⟩ : ∃ x, startP (newP ev of sl) 0 = x := ⟨_, rfl⟩
        have HF1 : Hid m1.fit := by rw [Hid, ← hm1]; exact do_fit HF0.out ⟨0, 0, 0, 0, false⟩
        have HS1 : Hid (m1 = ⟨ev, of, sl, 4, d⟩) := by
          rw [Hid, ← hm1, HN.out]
          unfold startP anewP
          rw [if_pos rfl]
          simp only []
          rw [HD.out, timeN_id (n := 0) (by decide) (by decide), timeN_id (by omega) (by omega), Int.zero_add]
        have k0 := (K3.out).reads (i := 0) (x := .int .i64 ev) rfl
        go_upto_region 4 with fail
        clear k0
        go_wp2_with fail
        have LZ := Lib.hid (HB.out).size
        refine (pstart12_any gM (newP ev of sl) 0 _ M.out (HF0.out).ok).mono ?_
        rintro e c1 ⟨rfl, hm, ho⟩
        replace K3 := Lib.hid ((K3.out).only ho (by have := OMK3.out; simp; omega))
        replace M := Lib.hid hm
        replace HB := Lib.hid (bonly8 HB.out ho LZ.out (by have := LM.out; simp; omega))
        clear hm ho LZ
        rw [hm1] at M
        clear hm1 HN HF0
        cases sv
        · obtain ⟨m, hm⟩ : ∃ x, m1 = x := ⟨_, rfl⟩
          rw [hm] at M HF1 HS1
          clear hm
          have HF := HF1
          have HS := HS1
          clear HF1 HS1
          go_wp2_with fail
          refine (pstate12_any gM m _ M.out).mono ?_
          rintro e w1 ⟨rfl, rfl⟩
          have hst : m.st = 4 := by rw [HS.out]
          rw [hst]
          clear hst
          rw [HS.out] at M HF
          clear HS
          go_wp2
          rw [← Int.zero_add d] at M HF
          go_loopg [10, 51] n (fun gh s i v => ∃ (j : Nat) (x : Int), j + gh = n ∧ i = .int .i64 j ∧ s = .int .i64 x ∧ 0 ≤ x ∧ x ≤ j * d ∧ Hid (Holds v gM 51 (mcA ⟨ev, of, sl, 4, x + d⟩)) ∧ Hid (Pm.fit ⟨ev, of, sl, 4, x + d⟩) ∧ Hid (Holds v gK3 23 (kdA ev of sl)) ∧ Hid (Below w.heap.size w v))
          case atStart => exact ⟨0, 0, by omega, rfl, rfl, Int.le_refl _, by simp, M, HF, K3, HB⟩
          case round =>
            clear M HF K3 HB
            obtain ⟨j, x, hj, rfl, rfl, x0, x1, M, HF, K3, HB⟩ := hrel
            cases gk with
            | zero =>
              have hd : decide ((j : Int) < (n : Int)) = false := decide_eq_false (by omega)
              go_wp2_with fail
              refine (alive12_any _).mono ?_
              rintro e ca ⟨rfl, hca⟩
              replace HB := Lib.hid (bstep HB.out hca)
              clear hca
              go_wp2
              try rw [Exit.noGoto_ret]
              go_ret
              exact ⟨rfl, HB.out⟩
            | succ g1 =>
              have hlt : j < n := by omega
              have NI := Lib.hid ((NI0.out).keptB HB.out)
              have hd : decide ((j : Int) < (n : Int)) = true := decide_eq_true (by omega)
              obtain ⟨z, hz⟩ : ∃ z, l[j]? = some z := ⟨_, List.getElem?_eq_getElem (show j < l.length by rw [HLN.out]; exact hlt)⟩
              obtain ⟨g, o, hA⟩ : ∃ g o, A = some ⟨g, o, none⟩ := by
                obtain ⟨_, _, _, h1, _, h3⟩ := NI.out
                cases h1
                obtain ⟨g, o, h4, _⟩ := h3 (by omega)
                exact ⟨g, o, h4⟩
              subst hA
              have xs := num_in NI.out hz
              have HK := Lib.hid hlt
              clear hz NI NI0
              go_upto_region 12 with fail
              clear xs
              by_cases g0 : z < 0
              · have n0 : decide (z < 0) = true := decide_eq_true g0
                clear g0
                go_wp2_with fail
                refine (alive12_any _).mono ?_
                rintro e ca ⟨rfl, hca⟩
                replace HB := Lib.hid (bstep HB.out hca)
                clear hca
                go_wp2
                try rw [Exit.noGoto_ret]
                go_ret
                exact ⟨rfl, HB.out⟩
              · by_cases g2 : d ≤ z
                · have n0 : decide (z < 0) = false := decide_eq_false g0
                  have n1 : decide (d ≤ z) = true := decide_eq_true g2
                  have n2 : decide (z ≥ d) = true := n1
                  clear g0 g2
                  have k0 := (K3.out).reads (i := 0) (x := .int .i64 ev) rfl
                  have k1 := (K3.out).reads (i := 1) (x := .int .i64 of) rfl
                  have HPW : IntKind.i64.wrap (of * ev) = d := by rw [HD.out, IntKind.wrap_i64] <;> omega
                  go_wp2_with fail
                  clear k0 k1
                  refine (alive12_any _).mono ?_
                  rintro e ca ⟨rfl, hca⟩
                  replace HB := Lib.hid (bstep HB.out hca)
                  clear hca
                  go_wp2
                  try rw [Exit.noGoto_ret]
                  go_ret
                  exact ⟨rfl, HB.out⟩
                · have n0 : decide (z < 0) = false := decide_eq_false g0
                  have n1 : decide (d ≤ z) = false := decide_eq_false g2
                  have n2 : decide (z ≥ d) = false := n1
                  have k0 := (K3.out).reads (i := 0) (x := .int .i64 ev) rfl
                  have k1 := (K3.out).reads (i := 1) (x := .int .i64 of) rfl
                  have HPW : IntKind.i64.wrap (of * ev) = d := by rw [HD.out, IntKind.wrap_i64] <;> omega
                  go_upto_region 14 with fail
                  clear k0 k1 HPW
                  have hjd : ((j : Int) + 1) * d = j * d + d := by rw [Int.add_mul, Int.one_mul]
                  have hjb : (j : Int) * d ≤ 500 * 10737418240 := Int.mul_le_mul (by omega) (by omega) (by omega) (by omega)
                  have HT := Lib.hid (tick_before HF.out (now := x + z) (by omega) (show x + z < x + d by omega))
                  go_wp2_with fail
                  have LZ := Lib.hid (HB.out).size
                  refine (ptick12_any gM ⟨ev, of, sl, 4, x + d⟩ (x + z) _ M.out (HF.out).ok).mono ?_
                  rintro e c1 ⟨rfl, hm, ho⟩
                  replace K3 := Lib.hid ((K3.out).only ho (by have := OMK3.out; simp; omega))
                  replace M := Lib.hid hm
                  replace HB := Lib.hid (bonly8 HB.out ho LZ.out (by have := LM.out; simp; omega))
                  clear hm ho LZ
                  rw [(HT.out).2]
                  rw [(HT.out).1] at M
                  clear HT
                  go_wp2_with fail
                  refine (pstate12_any gM ⟨ev, of, sl, 4, x + d⟩ _ M.out).mono ?_
                  rintro e w1 ⟨rfl, rfl⟩
                  have HH : Hid (heardP ⟨ev, of, sl, 4, x + d⟩ (x + z) = ⟨ev, of, sl, 4, (x + z) + d⟩) := by
                    unfold heardP anewP
                    rw [Hid, if_pos (show hearsB ⟨ev, of, sl, 4, x + d⟩ = true by rfl)]
                    simp only []
                    rw [HD.out, timeN_id (n := x + z) (by omega) (by omega), timeN_id (by omega) (by omega)]
                  have HF2 : Hid (Pm.fit ⟨ev, of, sl, 4, (x + z) + d⟩) := by rw [Hid, ← HH.out]; exact anew_fit HF.out (by simp) _
                  go_wp2_with fail
                  have LZ := Lib.hid (HB.out).size
                  refine (pheard12_any gM ⟨ev, of, sl, 4, x + d⟩ (x + z) _ M.out (HF.out).ok).mono ?_
                  rintro e c1 ⟨rfl, hm, ho⟩
                  replace K3 := Lib.hid ((K3.out).only ho (by have := OMK3.out; simp; omega))
                  replace M := Lib.hid hm
                  replace HB := Lib.hid (bonly8 HB.out ho LZ.out (by have := LM.out; simp; omega))
                  clear hm ho LZ
                  rw [HH.out] at M
                  clear HH HF
                  go_wp2
                  go_roundg g1
                  case measure => omega
                  case rel => exact ⟨j + 1, x + z, by omega, by go_num, rfl, by omega, by rw [Int.natCast_succ, hjd]; omega, M, HF2, K3, HB⟩
        · obtain ⟨m2, hm2⟩ : ∃ x, decideP m1 4 0 0 false = x := ⟨_, rfl⟩
          have HF2 : Hid m2.fit := by rw [Hid, ← hm2]; exact decide_fit HF1.out _ _ _ _
          have HS2 : Hid (m2 = ⟨ev, of, sl, 8, d⟩) := by
            rw [Hid, ← hm2, HS1.out, decide_follow (by show (4 : Int) ≤ 4; decide)]
            unfold followP anewP
            rw [if_neg (by simp)]
            simp only []
            rw [HD.out, timeN_id (n := 0) (by decide) (by decide), timeN_id (by omega) (by omega), Int.zero_add]
          go_wp2_with fail
          have LZ := Lib.hid (HB.out).size
          refine (pdecide12_any gM m1 4 0 0 false _ M.out (HF1.out).ok (HF1.out).st (by decide)).mono ?_
          rintro e c1 ⟨rfl, hm, ho⟩
          replace K3 := Lib.hid ((K3.out).only ho (by have := OMK3.out; simp; omega))
          replace M := Lib.hid hm
          replace HB := Lib.hid (bonly8 HB.out ho LZ.out (by have := LM.out; simp; omega))
          clear hm ho LZ
          rw [hm2] at M
          clear hm2 HF1 HS1
          obtain ⟨m, hm⟩ : ∃ x, turnP m2 8 9 = x := ⟨_, rfl⟩
          have HF : Hid m.fit := by rw [Hid, ← hm]; exact do_fit HF2.out ⟨5, 0, 0, 0, false⟩
          have HS : Hid (m = ⟨ev, of, sl, 9, d⟩) := by rw [Hid, ← hm, HS2.out]; rfl
          go_wp2_with fail
          have LZ := Lib.hid (HB.out).size
          refine (plock12_any gM m2 _ M.out).mono ?_
          rintro e c1 ⟨rfl, hm, ho⟩
          replace K3 := Lib.hid ((K3.out).only ho (by have := OMK3.out; simp; omega))
          replace M := Lib.hid hm
          replace HB := Lib.hid (bonly8 HB.out ho LZ.out (by have := LM.out; simp; omega))
          clear hm ho LZ
          rw [hm] at M
          clear hm HF2 HS2
          go_wp2_with fail
          refine (pstate12_any gM m _ M.out).mono ?_
          rintro e w1 ⟨rfl, rfl⟩
          have hst : m.st = 9 := by rw [HS.out]
          rw [hst]
          clear hst
          rw [HS.out] at M HF
          clear HS
          go_wp2
          rw [← Int.zero_add d] at M HF
          go_loopg [10, 51] n (fun gh s i v => ∃ (j : Nat) (x : Int), j + gh = n ∧ i = .int .i64 j ∧ s = .int .i64 x ∧ 0 ≤ x ∧ x ≤ j * d ∧ Hid (Holds v gM 51 (mcA ⟨ev, of, sl, 9, x + d⟩)) ∧ Hid (Pm.fit ⟨ev, of, sl, 9, x + d⟩) ∧ Hid (Holds v gK3 23 (kdA ev of sl)) ∧ Hid (Below w.heap.size w v))
          case atStart => exact ⟨0, 0, by omega, rfl, rfl, Int.le_refl _, by simp, M, HF, K3, HB⟩
          case round =>
            clear M HF K3 HB
            obtain ⟨j, x, hj, rfl, rfl, x0, x1, M, HF, K3, HB⟩ := hrel
            cases gk with
            | zero =>
              have hd : decide ((j : Int) < (n : Int)) = false := decide_eq_false (by omega)
              go_wp2_with fail
              refine (alive12_any _).mono ?_
              rintro e ca ⟨rfl, hca⟩
              replace HB := Lib.hid (bstep HB.out hca)
              clear hca
              go_wp2
              try rw [Exit.noGoto_ret]
              go_ret
              exact ⟨rfl, HB.out⟩
            | succ g1 =>
              have hlt : j < n := by omega
              have NI := Lib.hid ((NI0.out).keptB HB.out)
              have hd : decide ((j : Int) < (n : Int)) = true := decide_eq_true (by omega)
              obtain ⟨z, hz⟩ : ∃ z, l[j]? = some z := ⟨_, List.getElem?_eq_getElem (show j < l.length by rw [HLN.out]; exact hlt)⟩
              obtain ⟨g, o, hA⟩ : ∃ g o, A = some ⟨g, o, none⟩ := by
                obtain ⟨_, _, _, h1, _, h3⟩ := NI.out
                cases h1
                obtain ⟨g, o, h4, _⟩ := h3 (by omega)
                exact ⟨g, o, h4⟩
              subst hA
              have xs := num_in NI.out hz
              have HK := Lib.hid hlt
              clear hz NI NI0
              go_upto_region 12 with fail
              clear xs
              by_cases g0 : z < 0
              · have n0 : decide (z < 0) = true := decide_eq_true g0
                clear g0
                go_wp2_with fail
                refine (alive12_any _).mono ?_
                rintro e ca ⟨rfl, hca⟩
                replace HB := Lib.hid (bstep HB.out hca)
                clear hca
                go_wp2
                try rw [Exit.noGoto_ret]
                go_ret
                exact ⟨rfl, HB.out⟩
              · by_cases g2 : d ≤ z
                · have n0 : decide (z < 0) = false := decide_eq_false g0
                  have n1 : decide (d ≤ z) = true := decide_eq_true g2
                  have n2 : decide (z ≥ d) = true := n1
                  clear g0 g2
                  have k0 := (K3.out).reads (i := 0) (x := .int .i64 ev) rfl
                  have k1 := (K3.out).reads (i := 1) (x := .int .i64 of) rfl
                  have HPW : IntKind.i64.wrap (of * ev) = d := by rw [HD.out, IntKind.wrap_i64] <;> omega
                  go_wp2_with fail
                  clear k0 k1
                  refine (alive12_any _).mono ?_
                  rintro e ca ⟨rfl, hca⟩
                  replace HB := Lib.hid (bstep HB.out hca)
                  clear hca
                  go_wp2
                  try rw [Exit.noGoto_ret]
                  go_ret
                  exact ⟨rfl, HB.out⟩
                · have n0 : decide (z < 0) = false := decide_eq_false g0
                  have n1 : decide (d ≤ z) = false := decide_eq_false g2
                  have n2 : decide (z ≥ d) = false := n1
                  have k0 := (K3.out).reads (i := 0) (x := .int .i64 ev) rfl
                  have k1 := (K3.out).reads (i := 1) (x := .int .i64 of) rfl
                  have HPW : IntKind.i64.wrap (of * ev) = d := by rw [HD.out, IntKind.wrap_i64] <;> omega
                  go_upto_region 14 with fail
                  clear k0 k1 HPW
                  have hjd : ((j : Int) + 1) * d = j * d + d := by rw [Int.add_mul, Int.one_mul]
                  have hjb : (j : Int) * d ≤ 500 * 10737418240 := Int.mul_le_mul (by omega) (by omega) (by omega) (by omega)
                  have HT := Lib.hid (tick_before HF.out (now := x + z) (by omega) (show x + z < x + d by omega))
                  go_wp2_with fail
                  have LZ := Lib.hid (HB.out).size
                  refine (ptick12_any gM ⟨ev, of, sl, 9, x + d⟩ (x + z) _ M.out (HF.out).ok).mono ?_
                  rintro e c1 ⟨rfl, hm, ho⟩
                  replace K3 := Lib.hid ((K3.out).only ho (by have := OMK3.out; simp; omega))
                  replace M := Lib.hid hm
                  replace HB := Lib.hid (bonly8 HB.out ho LZ.out (by have := LM.out; simp; omega))
                  clear hm ho LZ
                  rw [(HT.out).2]
                  rw [(HT.out).1] at M
                  clear HT
                  go_wp2_with fail
                  refine (pstate12_any gM ⟨ev, of, sl, 9, x + d⟩ _ M.out).mono ?_
                  rintro e w1 ⟨rfl, rfl⟩
                  have HH : Hid (heardP ⟨ev, of, sl, 9, x + d⟩ (x + z) = ⟨ev, of, sl, 9, (x + z) + d⟩) := by
                    unfold heardP anewP
                    rw [Hid, if_pos (show hearsB ⟨ev, of, sl, 9, x + d⟩ = true by rfl)]
                    simp only []
                    rw [HD.out, timeN_id (n := x + z) (by omega) (by omega), timeN_id (by omega) (by omega)]
                  have HF2 : Hid (Pm.fit ⟨ev, of, sl, 9, (x + z) + d⟩) := by rw [Hid, ← HH.out]; exact anew_fit HF.out (by simp) _
                  go_wp2_with fail
                  have LZ := Lib.hid (HB.out).size
                  refine (pheard12_any gM ⟨ev, of, sl, 9, x + d⟩ (x + z) _ M.out (HF.out).ok).mono ?_
                  rintro e c1 ⟨rfl, hm, ho⟩
                  replace K3 := Lib.hid ((K3.out).only ho (by have := OMK3.out; simp; omega))
                  replace M := Lib.hid hm
                  replace HB := Lib.hid (bonly8 HB.out ho LZ.out (by have := LM.out; simp; omega))
                  clear hm ho LZ
                  rw [HH.out] at M
                  clear HH HF
                  go_wp2
                  go_roundg g1
                  case measure => omega
                  case rel => exact ⟨j + 1, x + z, by omega, by go_num, rfl, by omega, by rw [Int.natCast_succ, hjd]; omega, M, HF2, K3, HB⟩

end Go.Proofs.Ytibhhhadjpmjiaa
