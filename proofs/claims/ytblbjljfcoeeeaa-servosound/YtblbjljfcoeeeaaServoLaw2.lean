/- The walk over ServoSound. -/
import Derived.Test.YtblbjljfcoeeeaaServoDo
import Derived.Test.YtblbjljfcoeeeaaServoAlive
import Derived.Test.YtblbjljfcoeeeaaServoOpen
import Derived.Test.YtblbjljfcoeeeaaServoInv
import Derived.Test.YtblbjljfcoeeeaaRefFloor
import Derived.Deep.DeepCutAuto
import Derived.Deep.LoopGhost
namespace Go.Proofs.Ytblbjljfcoeeeaa
set_option maxRecDepth 100000
open Go.RowKit
set_option linter.unusedVariables false
set_option linter.unusedSimpArgs false

set_option maxHeartbeats 4000000 in
theorem sound14 (ppb off0 : Int) (A : Option Addr) (n c : Nat) (l : List Tn) (w : World) (hs : TnsOk w A n c l) :
    Calls Try.prog 4 #[.int .i64 ppb, .int .i64 off0, .slice A n c] w fun e w' => e = .returned (.bool true) ∧ Below w.heap.size w w' := by
  cases hr : rateB ppb
  · have HR := Lib.hid hr
    clear hr
    have HB := Lib.hid (Below.refl w.heap.size w)
    have HLS := Lib.hid hs
    clear hs
    go_enter Try.func4, Try.ntmps4
    go_wp2_with fail
    refine (pnew14_any ppb _).mono ?_
    intro e w1 hh
    obtain ⟨rfl, rfl⟩ := hh.1 HR.out
    clear hh
    go_wp2_with fail
    refine (alive14_any _).mono ?_
    rintro e c1 ⟨rfl, hca⟩
    replace HB := Lib.hid (bstep HB.out hca)
    clear hca
    go_wp2
    try rw [Exit.noGoto_ret]
    go_ret
    exact ⟨rfl, HB.out⟩
  · have HR := Lib.hid hr
    clear hr
    have HB := Lib.hid (Below.refl w.heap.size w)
    have HLS := Lib.hid hs
    clear hs
    go_enter Try.func4, Try.ntmps4
    go_wp2_with fail
    refine (pnew14_any ppb _).mono ?_
    intro e w1 hh
    obtain ⟨gM, rfl, hm, hl, hb⟩ := hh.2 HR.out
    have LM := Lib.hid (Nat.le_trans (HB.out).size hl)
    have M := Lib.hid hm
    replace HB := Lib.hid (bstep HB.out hb)
    clear hh hm hl hb
    by_cases q0 : (200 : Int) < (n : Int)
    · have e0 : decide ((200 : Int) < (n : Int)) = true := decide_eq_true q0
      clear q0
      go_wp2_with fail
      refine (alive14_any _).mono ?_
      rintro e c1 ⟨rfl, hca⟩
      replace HB := Lib.hid (bstep HB.out hca)
      clear hca
      go_wp2
      try rw [Exit.noGoto_ret]
      go_ret
      exact ⟨rfl, HB.out⟩
    · by_cases q1 : off0 < -1125899906842624
      · have e0 : decide ((200 : Int) < (n : Int)) = false := decide_eq_false q0
        have e1 : decide (off0 < -1125899906842624) = true := decide_eq_true q1
        clear q0 q1
        go_wp2_with fail
        refine (alive14_any _).mono ?_
        rintro e c1 ⟨rfl, hca⟩
        replace HB := Lib.hid (bstep HB.out hca)
        clear hca
        go_wp2
        try rw [Exit.noGoto_ret]
        go_ret
        exact ⟨rfl, HB.out⟩
      · by_cases q2 : 1125899906842624 < off0
        · have e0 : decide ((200 : Int) < (n : Int)) = false := decide_eq_false q0
          have e1 : decide (off0 < -1125899906842624) = false := decide_eq_false q1
          have e2 : decide (1125899906842624 < off0) = true := decide_eq_true q2
          have f2 : decide (off0 > 1125899906842624) = true := e2
          clear q0 q1 q2
          go_wp2_with fail
          refine (alive14_any _).mono ?_
          rintro e c1 ⟨rfl, hca⟩
          replace HB := Lib.hid (bstep HB.out hca)
          clear hca
          go_wp2
          try rw [Exit.noGoto_ret]
          go_ret
          exact ⟨rfl, HB.out⟩
        · have e0 : decide ((200 : Int) < (n : Int)) = false := decide_eq_false q0
          have e1 : decide (off0 < -1125899906842624) = false := decide_eq_false q1
          have e2 : decide (1125899906842624 < off0) = false := decide_eq_false q2
          have f2 : decide (off0 > 1125899906842624) = false := e2
          have HSN : Hid (Snd (newSv ppb) off0 0 0) := Lib.hid (snd_new HR.out (by omega) (by omega))
          have hn4 : n ≤ 200 := by omega
          clear q0 q1 q2
          go_wp2
          go_loopg [1, 9, 10, 52] n (fun gh x y z i v => ∃ (j : Nat) (s : Sv) (off at_ : Int), j + gh = n ∧ x = .int .i64 off ∧ y = .int .i64 at_ ∧ z = .bool s.o.k ∧ i = .int .i64 j ∧ Hid (Holds v gM 63 (scA s)) ∧ Hid (Snd s off at_ j) ∧ Hid (s.n ≤ j ∧ 0 ≤ s.n ∧ s.ppb = ppb) ∧ Hid (Below w.heap.size w v))
          case atStart => exact ⟨0, newSv ppb, off0, 0, by omega, rfl, rfl, rfl, rfl, M, HSN, Lib.hid ⟨Int.le_refl _, Int.le_refl _, rfl⟩, HB⟩
          case round =>
            clear M HB HSN
            obtain ⟨j, s, off, at_, hj, rfl, rfl, rfl, rfl, M, HS, HR, HB⟩ := hrel
            cases gk with
            | zero =>
              have hd : decide ((j : Int) < (n : Int)) = false := decide_eq_false (by omega)
              go_wp2_with fail
              refine (alive14_any _).mono ?_
              rintro e c1 ⟨rfl, hca⟩
              replace HB := Lib.hid (bstep HB.out hca)
              clear hca
              go_wp2
              try rw [Exit.noGoto_ret]
              go_ret
              exact ⟨rfl, HB.out⟩
            | succ g1 =>
              have HJ : Hid (j + 1 ≤ 200) := Lib.hid (by omega)
              have hlt : j < n := by omega
              have hd : decide ((j : Int) < (n : Int)) = true := decide_eq_true (by omega)
              obtain ⟨o, ho⟩ : ∃ o, l[j]? = some o := ⟨_, List.getElem?_eq_getElem (show j < l.length by have := (HLS.out).len; omega)⟩
              have HK := Lib.hid hlt
              obtain ⟨g, f, hA, hcl⟩ := (HLS.out).at_ (by omega)
              subst hA
              have HP : Hid (∀ v, Below w.heap.size w v → v.rangeAt g (f + j * 5) (tnA o).toList) := fun v hv => hcl.now tnA_five (by decide) hv ho
              clear hcl ho hlt
              go_upto_region 8 with (first | (refine big_fill rfl 47 _ _ rfl gK11 (tnA o) rfl rfl K11.out (by kernel_rfl) (by kernel_rfl) (by kernel_rfl) ?_; intro vK110 nK11 htK11; replace K11 := Lib.hid nK11; replace M := Lib.hid ((M.out).touch htK11 OMK11.out); replace HB := Lib.hid (btouch HB.out htK11 LK11.out); clear nK11 htK11; try simp only [Act.put, List.setIfInBounds_toArray, List.set_cons_zero, List.set_cons_succ]) | (refine big_alloc rfl 47 rfl (tnA ⟨0, 0, false, 0, 0⟩) (by kernel_rfl) ?_; intro gK11 wK11 hlK11 nK11 hbK11; have K11 := Lib.hid nK11; have LK11 := Lib.hid (Nat.le_trans (HB.out).size hlK11); have OMK11 := Lib.hid ((M.out).off hlK11); replace M := Lib.hid ((M.out).keptB hbK11); replace HB := Lib.hid (bstep HB.out hbK11); clear hlK11 nK11 hbK11; try simp only [Act.put, List.setIfInBounds_toArray, List.set_cons_zero, List.set_cons_succ]) | (refine big_loadAt rfl 47 _ rfl g (f + j * 5) rfl (tnA o) (HP.out _ HB.out) Try.underlying47 rfl (by kernel_rfl) ?_; try simp only [Act.put, List.setIfInBounds_toArray, List.set_cons_zero, List.set_cons_succ]) | (refine big_index rfl 44 _ _ rfl g f n c j 5 rfl rfl HK.out Try.underlying44 (by kernel_rfl) ?_; try simp only [Act.put, List.setIfInBounds_toArray, List.set_cons_zero, List.set_cons_succ]))
              have y0 := (K11.out).reads (i := 0) (x := .int .i64 o.p) rfl
              have y1 := (K11.out).reads (i := 1) (x := .int .i64 o.c) rfl
              have y2 := (K11.out).reads (i := 2) (x := .bool o.t) rfl
              have y3 := (K11.out).reads (i := 3) (x := .int .i64 o.a) rfl
              have y4 := (K11.out).reads (i := 4) (x := .int .i64 o.b) rfl
              by_cases p0 : o.p < 0
              · have d0 : decide (o.p < 0) = true := decide_eq_true p0
                clear p0
                go_wp2_with fail
                try clear y0 y1 y2 y3 y4
                refine (alive14_any _).mono ?_
                rintro e c1 ⟨rfl, hca⟩
                replace M := Lib.hid ((M.out).keptB hca)
                replace HB := Lib.hid (bstep HB.out hca)
                clear hca
                go_wp2
                try rw [Exit.noGoto_ret]
                go_ret
                exact ⟨rfl, HB.out⟩
              · by_cases p1 : 1099511627776 < o.p
                · have d0 : decide (o.p < 0) = false := decide_eq_false p0
                  have d1 : decide (1099511627776 < o.p) = true := decide_eq_true p1
                  have gt1 : decide (o.p > 1099511627776) = true := d1
                  clear p0 p1
                  go_wp2_with fail
                  try clear y0 y1 y2 y3 y4
                  refine (alive14_any _).mono ?_
                  rintro e c1 ⟨rfl, hca⟩
                  replace M := Lib.hid ((M.out).keptB hca)
                  replace HB := Lib.hid (bstep HB.out hca)
                  clear hca
                  go_wp2
                  try rw [Exit.noGoto_ret]
                  go_ret
                  exact ⟨rfl, HB.out⟩
                · by_cases p2 : o.a < 0
                  · have d0 : decide (o.p < 0) = false := decide_eq_false p0
                    have d1 : decide (1099511627776 < o.p) = false := decide_eq_false p1
                    have gt1 : decide (o.p > 1099511627776) = false := d1
                    have d2 : decide (o.a < 0) = true := decide_eq_true p2
                    clear p0 p1 p2
                    go_wp2_with fail
                    try clear y0 y1 y2 y3 y4
                    refine (alive14_any _).mono ?_
                    rintro e c1 ⟨rfl, hca⟩
                    replace M := Lib.hid ((M.out).keptB hca)
                    replace HB := Lib.hid (bstep HB.out hca)
                    clear hca
                    go_wp2
                    try rw [Exit.noGoto_ret]
                    go_ret
                    exact ⟨rfl, HB.out⟩
                  · by_cases p3 : 1099511627776 < o.a
                    · have d0 : decide (o.p < 0) = false := decide_eq_false p0
                      have d1 : decide (1099511627776 < o.p) = false := decide_eq_false p1
                      have gt1 : decide (o.p > 1099511627776) = false := d1
                      have d2 : decide (o.a < 0) = false := decide_eq_false p2
                      have d3 : decide (1099511627776 < o.a) = true := decide_eq_true p3
                      have gt3 : decide (o.a > 1099511627776) = true := d3
                      clear p0 p1 p2 p3
                      go_wp2_with fail
                      try clear y0 y1 y2 y3 y4
                      refine (alive14_any _).mono ?_
                      rintro e c1 ⟨rfl, hca⟩
                      replace M := Lib.hid ((M.out).keptB hca)
                      replace HB := Lib.hid (bstep HB.out hca)
                      clear hca
                      go_wp2
                      try rw [Exit.noGoto_ret]
                      go_ret
                      exact ⟨rfl, HB.out⟩
                    · by_cases p4 : o.b < 0
                      · have d0 : decide (o.p < 0) = false := decide_eq_false p0
                        have d1 : decide (1099511627776 < o.p) = false := decide_eq_false p1
                        have gt1 : decide (o.p > 1099511627776) = false := d1
                        have d2 : decide (o.a < 0) = false := decide_eq_false p2
                        have d3 : decide (1099511627776 < o.a) = false := decide_eq_false p3
                        have gt3 : decide (o.a > 1099511627776) = false := d3
                        have d4 : decide (o.b < 0) = true := decide_eq_true p4
                        clear p0 p1 p2 p3 p4
                        go_wp2_with fail
                        try clear y0 y1 y2 y3 y4
                        refine (alive14_any _).mono ?_
                        rintro e c1 ⟨rfl, hca⟩
                        replace M := Lib.hid ((M.out).keptB hca)
                        replace HB := Lib.hid (bstep HB.out hca)
                        clear hca
                        go_wp2
                        try rw [Exit.noGoto_ret]
                        go_ret
                        exact ⟨rfl, HB.out⟩
                      · by_cases p5 : 1099511627776 < o.b
                        · have d0 : decide (o.p < 0) = false := decide_eq_false p0
                          have d1 : decide (1099511627776 < o.p) = false := decide_eq_false p1
                          have gt1 : decide (o.p > 1099511627776) = false := d1
                          have d2 : decide (o.a < 0) = false := decide_eq_false p2
                          have d3 : decide (1099511627776 < o.a) = false := decide_eq_false p3
                          have gt3 : decide (o.a > 1099511627776) = false := d3
                          have d4 : decide (o.b < 0) = false := decide_eq_false p4
                          have d5 : decide (1099511627776 < o.b) = true := decide_eq_true p5
                          have gt5 : decide (o.b > 1099511627776) = true := d5
                          clear p0 p1 p2 p3 p4 p5
                          go_wp2_with fail
                          try clear y0 y1 y2 y3 y4
                          refine (alive14_any _).mono ?_
                          rintro e c1 ⟨rfl, hca⟩
                          replace M := Lib.hid ((M.out).keptB hca)
                          replace HB := Lib.hid (bstep HB.out hca)
                          clear hca
                          go_wp2
                          try rw [Exit.noGoto_ret]
                          go_ret
                          exact ⟨rfl, HB.out⟩
                        · have d0 : decide (o.p < 0) = false := decide_eq_false p0
                          have d1 : decide (1099511627776 < o.p) = false := decide_eq_false p1
                          have gt1 : decide (o.p > 1099511627776) = false := d1
                          have d2 : decide (o.a < 0) = false := decide_eq_false p2
                          have d3 : decide (1099511627776 < o.a) = false := decide_eq_false p3
                          have gt3 : decide (o.a > 1099511627776) = false := d3
                          have d4 : decide (o.b < 0) = false := decide_eq_false p4
                          have d5 : decide (1099511627776 < o.b) = false := decide_eq_false p5
                          have gt5 : decide (o.b > 1099511627776) = false := d5
                          obtain ⟨hm0, hm1, hfb, _⟩ := most_bd (p := o.p) (q := ppb) (by omega) (by omega) (by have := (HS.out).fit.p0; rw [(HR.out).2.2] at this; exact this) (by have := (HS.out).fit.p1; rw [(HR.out).2.2] at this; exact this)
                          have HFB := Lib.hid hfb
                          obtain ⟨m, hm⟩ : ∃ m, mostN o.p ppb = m := ⟨_, rfl⟩
                          have HMO := Lib.hid hm
                          rw [hm] at hm0 hm1
                          clear hfb hm
                          have hwn : IntKind.i64.wrap (-m) = -m := by rw [IntKind.wrap_i64] <;> omega
                          go_wp2_with fail
                          refine (rfloor_any o.p ppb 1000000000 _).mono ?_
                          rintro e c1 ⟨rfl, hca⟩
                          replace M := Lib.hid ((M.out).keptB hca)
                          replace K11 := Lib.hid ((K11.out).keptB hca)
                          replace HB := Lib.hid (bstep HB.out hca)
                          clear hca
                          clear y0 y1 y2 y3 y4
                          rw [show told (floorB o.p ppb 1000000000) (o.p * ppb / 1000000000) = m by rw [HFB.out]; exact HMO.out]
                          have y0 := (K11.out).reads (i := 0) (x := .int .i64 o.p) rfl
                          have y1 := (K11.out).reads (i := 1) (x := .int .i64 o.c) rfl
                          have y2 := (K11.out).reads (i := 2) (x := .bool o.t) rfl
                          have y3 := (K11.out).reads (i := 3) (x := .int .i64 o.a) rfl
                          have y4 := (K11.out).reads (i := 4) (x := .int .i64 o.b) rfl
                          by_cases r0 : o.c < -m
                          · have w0 : decide (o.c < -m) = true := decide_eq_true r0
                            clear r0 hm0 hm1 p0 p1 p2 p3 p4 p5
                            go_wp2_with fail
                            try clear y0 y1 y2 y3 y4
                            refine (alive14_any _).mono ?_
                            rintro e c1 ⟨rfl, hca⟩
                            replace M := Lib.hid ((M.out).keptB hca)
                            replace HB := Lib.hid (bstep HB.out hca)
                            clear hca
                            go_wp2
                            try rw [Exit.noGoto_ret]
                            go_ret
                            exact ⟨rfl, HB.out⟩
                          · by_cases r1 : m < o.c
                            · have w0 : decide (o.c < -m) = false := decide_eq_false r0
                              have w2 : decide (m < o.c) = true := decide_eq_true r1
                              have w3 : decide (o.c > m) = true := w2
                              clear r0 r1 hm0 hm1 p0 p1 p2 p3 p4 p5
                              go_wp2_with fail
                              try clear y0 y1 y2 y3 y4
                              refine (alive14_any _).mono ?_
                              rintro e c1 ⟨rfl, hca⟩
                              replace M := Lib.hid ((M.out).keptB hca)
                              replace HB := Lib.hid (bstep HB.out hca)
                              clear hca
                              go_wp2
                              try rw [Exit.noGoto_ret]
                              go_ret
                              exact ⟨rfl, HB.out⟩
                            · have w0 : decide (o.c < -m) = false := decide_eq_false r0
                              have w2 : decide (m < o.c) = false := decide_eq_false r1
                              have w3 : decide (o.c > m) = false := w2
                              have HS2 : Hid (Snd s (off + o.c) (at_ + o.p) (j + 1)) := Lib.hid (snd_turn HS.out (p := o.p) (c := o.c) (by omega) (by omega) (by rw [(HR.out).2.2, HMO.out]; omega) (by rw [(HR.out).2.2, HMO.out]; omega))
                              obtain ⟨tt, ht⟩ : ∃ x, at_ + o.p = x := ⟨_, rfl⟩
                              obtain ⟨ff, hf⟩ : ∃ x, off + o.c = x := ⟨_, rfl⟩
                              rw [ht, hf] at HS2
                              have b0 := (HS2.out).a0; have b1 := (HS2.out).a1; have b2 := (HS2.out).o0; have b3 := (HS2.out).o1
                              have hv0 : IntKind.i64.wrap (at_ + o.p) = tt := by rw [IntKind.wrap_i64] <;> omega
                              have hv1 : IntKind.i64.wrap (off + o.c) = ff := by rw [IntKind.wrap_i64] <;> omega
                              have hv2 : IntKind.i64.wrap (ff - o.a) = ff - o.a := by rw [IntKind.wrap_i64] <;> omega
                              have hv3 : IntKind.i64.wrap (ff + o.b) = ff + o.b := by rw [IntKind.wrap_i64] <;> omega
                              have hv4 : IntKind.i64.wrap (tt + ff) = tt + ff := by rw [IntKind.wrap_i64] <;> omega
                              have HAB : Hid ((0 ≤ o.a ∧ o.a ≤ 1099511627776) ∧ 0 ≤ o.b ∧ o.b ≤ 1099511627776) := Lib.hid ⟨⟨by omega, by omega⟩, by omega, by omega⟩
                              clear r0 r1 hm0 hm1 p0 p1 p2 p3 p4 p5 ht hf b0 b1 b2 b3 HFB HMO HS
                              obtain ⟨bt, hbt⟩ : ∃ b, o.t = b := ⟨_, rfl⟩
                              rw [hbt] at y2
                              clear hbt
                              cases bt
                              · have HR3 : Hid (s.n ≤ (j + 1 : Nat) ∧ 0 ≤ s.n ∧ s.ppb = ppb) := by have := HR.out; exact ⟨by omega, by omega, this.2.2⟩
                                obtain ⟨kk, hk⟩ : ∃ b, s.o.k = b := ⟨_, rfl⟩
                                have HKK := Lib.hid hk
                                rw [hk]
                                clear hk
                                go_upto_region 19 with fail
                                clear y0 y1 y2 y3 y4 K11 LK11 OMK11
                                cases kk
                                · have ER : Hid (readS s tt = unS) := Lib.hid (read_none HKK.out tt)
                                  obtain ⟨p, Hp⟩ : ∃ x, Hid (masterS s tt = x) := ⟨_, Lib.hid rfl⟩
                                  go_wp2_with fail
                                  refine (pread14_any gM s tt _ M.out).mono ?_
                                  rintro e c1 ⟨rfl, hc1⟩
                                  replace M := Lib.hid ((M.out).keptB hc1)
                                  replace HB := Lib.hid (bstep HB.out hc1)
                                  clear hc1
                                  rw [ER.out]
                                  go_upto_region 20 with (first | (refine big_fill rfl 38 _ _ rfl gK15 (#[.int .i64 unS.lo, .int .i64 unS.hi, .bool unS.k]) rfl rfl K15.out (by kernel_rfl) (by kernel_rfl) (by kernel_rfl) ?_; intro vK151 nK15 htK15; replace K15 := Lib.hid nK15; replace M := Lib.hid ((M.out).touch htK15 OMK15.out); replace HB := Lib.hid (btouch HB.out htK15 LK15.out); clear nK15 htK15; try simp only [Act.put, List.setIfInBounds_toArray, List.set_cons_zero, List.set_cons_succ]) | (refine big_alloc rfl 38 rfl (#[.int .i64 0, .int .i64 0, .bool false]) (by kernel_rfl) ?_; intro gK15 wK15 hlK15 nK15 hbK15; have K15 := Lib.hid nK15; have LK15 := Lib.hid (Nat.le_trans (HB.out).size hlK15); have OMK15 := Lib.hid ((M.out).off hlK15); replace M := Lib.hid ((M.out).keptB hbK15); replace HB := Lib.hid (bstep HB.out hbK15); clear hlK15 nK15 hbK15; try simp only [Act.put, List.setIfInBounds_toArray, List.set_cons_zero, List.set_cons_succ]))
                                  go_wp2_with fail
                                  refine (pmaster14_any gM s tt _ M.out).mono ?_
                                  rintro e c2 ⟨rfl, hc2⟩
                                  replace M := Lib.hid ((M.out).keptB hc2)
                                  replace K15 := Lib.hid ((K15.out).keptB hc2)
                                  replace HB := Lib.hid (bstep HB.out hc2)
                                  clear hc2
                                  rw [Hp.out]
                                  go_upto_region 21 with (first | (refine big_fill rfl 38 _ _ rfl gK16 (#[.int .i64 p.lo, .int .i64 p.hi, .bool p.k]) rfl rfl K16.out (by kernel_rfl) (by kernel_rfl) (by kernel_rfl) ?_; intro vK161 nK16 htK16; replace K16 := Lib.hid nK16; replace M := Lib.hid ((M.out).touch htK16 OMK16.out); replace K15 := Lib.hid ((K15.out).touch htK16 OK15K16.out); replace HB := Lib.hid (btouch HB.out htK16 LK16.out); clear nK16 htK16; try simp only [Act.put, List.setIfInBounds_toArray, List.set_cons_zero, List.set_cons_succ]) | (refine big_alloc rfl 38 rfl (#[.int .i64 0, .int .i64 0, .bool false]) (by kernel_rfl) ?_; intro gK16 wK16 hlK16 nK16 hbK16; have K16 := Lib.hid nK16; have LK16 := Lib.hid (Nat.le_trans (HB.out).size hlK16); have OMK16 := Lib.hid ((M.out).off hlK16); have OK15K16 := Lib.hid ((K15.out).off hlK16); replace M := Lib.hid ((M.out).keptB hbK16); replace K15 := Lib.hid ((K15.out).keptB hbK16); replace HB := Lib.hid (bstep HB.out hbK16); clear hlK16 nK16 hbK16; try simp only [Act.put, List.setIfInBounds_toArray, List.set_cons_zero, List.set_cons_succ]))
                                  have u0 := (K15.out).reads (i := 2) (x := .bool false) rfl
                                  go_wp2
                                  go_roundg g1
                                  case measure => omega
                                  case rel => exact ⟨j + 1, s, ff, tt, by omega, rfl, rfl, by rw [HKK.out], by go_num, M, HS2, HR3, HB⟩
                                · obtain ⟨L, H, er, hbd, hlh, hl0, hl1⟩ := snd_read HS2.out HJ.out HKK.out
                                  obtain ⟨em, hmh, hrh⟩ := snd_master HS2.out HJ.out er hbd hlh hl0 hl1
                                  have ER := Lib.hid er
                                  have EM := Lib.hid em
                                  have EMH := Lib.hid hmh
                                  have ERH := Lib.hid hrh
                                  clear er em hmh hrh hbd hlh hl0 hl1
                                  go_wp2_with fail
                                  refine (pread14_any gM s tt _ M.out).mono ?_
                                  rintro e c1 ⟨rfl, hc1⟩
                                  replace M := Lib.hid ((M.out).keptB hc1)
                                  replace HB := Lib.hid (bstep HB.out hc1)
                                  clear hc1
                                  rw [ER.out]
                                  go_upto_region 20 with (first | (refine big_fill rfl 38 _ _ rfl gK15 (#[.int .i64 L, .int .i64 H, .bool true]) rfl rfl K15.out (by kernel_rfl) (by kernel_rfl) (by kernel_rfl) ?_; intro vK151 nK15 htK15; replace K15 := Lib.hid nK15; replace M := Lib.hid ((M.out).touch htK15 OMK15.out); replace HB := Lib.hid (btouch HB.out htK15 LK15.out); clear nK15 htK15; try simp only [Act.put, List.setIfInBounds_toArray, List.set_cons_zero, List.set_cons_succ]) | (refine big_alloc rfl 38 rfl (#[.int .i64 0, .int .i64 0, .bool false]) (by kernel_rfl) ?_; intro gK15 wK15 hlK15 nK15 hbK15; have K15 := Lib.hid nK15; have LK15 := Lib.hid (Nat.le_trans (HB.out).size hlK15); have OMK15 := Lib.hid ((M.out).off hlK15); replace M := Lib.hid ((M.out).keptB hbK15); replace HB := Lib.hid (bstep HB.out hbK15); clear hlK15 nK15 hbK15; try simp only [Act.put, List.setIfInBounds_toArray, List.set_cons_zero, List.set_cons_succ]))
                                  go_wp2_with fail
                                  refine (pmaster14_any gM s tt _ M.out).mono ?_
                                  rintro e c2 ⟨rfl, hc2⟩
                                  replace M := Lib.hid ((M.out).keptB hc2)
                                  replace K15 := Lib.hid ((K15.out).keptB hc2)
                                  replace HB := Lib.hid (bstep HB.out hc2)
                                  clear hc2
                                  rw [EM.out]
                                  go_upto_region 21 with (first | (refine big_fill rfl 38 _ _ rfl gK16 (#[.int .i64 (L + tt), .int .i64 (H + tt), .bool true]) rfl rfl K16.out (by kernel_rfl) (by kernel_rfl) (by kernel_rfl) ?_; intro vK161 nK16 htK16; replace K16 := Lib.hid nK16; replace M := Lib.hid ((M.out).touch htK16 OMK16.out); replace K15 := Lib.hid ((K15.out).touch htK16 OK15K16.out); replace HB := Lib.hid (btouch HB.out htK16 LK16.out); clear nK16 htK16; try simp only [Act.put, List.setIfInBounds_toArray, List.set_cons_zero, List.set_cons_succ]) | (refine big_alloc rfl 38 rfl (#[.int .i64 0, .int .i64 0, .bool false]) (by kernel_rfl) ?_; intro gK16 wK16 hlK16 nK16 hbK16; have K16 := Lib.hid nK16; have LK16 := Lib.hid (Nat.le_trans (HB.out).size hlK16); have OMK16 := Lib.hid ((M.out).off hlK16); have OK15K16 := Lib.hid ((K15.out).off hlK16); replace M := Lib.hid ((M.out).keptB hbK16); replace K15 := Lib.hid ((K15.out).keptB hbK16); replace HB := Lib.hid (bstep HB.out hbK16); clear hlK16 nK16 hbK16; try simp only [Act.put, List.setIfInBounds_toArray, List.set_cons_zero, List.set_cons_succ]))
                                  have u0 := (K15.out).reads (i := 2) (x := .bool true) rfl
                                  go_wp2_with ((refine big_whole rfl 38 _ rfl gK15 rfl K15.out Try.underlying38 rfl (by kernel_rfl) ?_; try simp only [Act.put, List.setIfInBounds_toArray, List.set_cons_zero, List.set_cons_succ]))
                                  clear u0
                                  refine (has3_any ⟨L, H, true⟩ ff _).mono ?_
                                  rintro e c3 ⟨rfl, hc3⟩
                                  replace M := Lib.hid ((M.out).keptB hc3)
                                  replace K15 := Lib.hid ((K15.out).keptB hc3)
                                  replace K16 := Lib.hid ((K16.out).keptB hc3)
                                  replace HB := Lib.hid (bstep HB.out hc3)
                                  clear hc3
                                  rw [ERH.out]
                                  have u1 := (K16.out).reads (i := 2) (x := .bool true) rfl
                                  go_wp2_with ((refine big_whole rfl 38 _ rfl gK16 rfl K16.out Try.underlying38 rfl (by kernel_rfl) ?_; try simp only [Act.put, List.setIfInBounds_toArray, List.set_cons_zero, List.set_cons_succ]))
                                  clear u1
                                  refine (has3_any ⟨L + tt, H + tt, true⟩ (tt + ff) _).mono ?_
                                  rintro e c4 ⟨rfl, hc4⟩
                                  replace M := Lib.hid ((M.out).keptB hc4)
                                  replace K15 := Lib.hid ((K15.out).keptB hc4)
                                  replace K16 := Lib.hid ((K16.out).keptB hc4)
                                  replace HB := Lib.hid (bstep HB.out hc4)
                                  clear hc4
                                  rw [EMH.out]
                                  have u0 := (K15.out).reads (i := 2) (x := .bool true) rfl
                                  go_wp2
                                  go_roundg g1
                                  case measure => omega
                                  case rel => exact ⟨j + 1, s, ff, tt, by omega, rfl, rfl, by rw [HKK.out], by go_num, M, HS2, HR3, HB⟩
                              · obtain ⟨eo, eb, hsn, hkk⟩ := snd_obs HS2.out HJ.out (HAB.out).1.1 (HAB.out).1.2 (HAB.out).2.1 (HAB.out).2.2
                                have EO := Lib.hid eo
                                have EB := Lib.hid eb
                                have HKN := Lib.hid hkk
                                have HN1 : Hid (s.n ≤ 1000000) := by have := HR.out; have := HJ.out; show s.n ≤ _; omega
                                have HR4 := obsS_n (s := s) (o := ⟨ff - o.a, ff + o.b, true⟩) (t := tt) (HR.out).2.1 (HR.out).1
                                obtain ⟨s2, hs2⟩ : ∃ x, obsS s ⟨ff - o.a, ff + o.b, true⟩ tt = x := ⟨_, rfl⟩
                                have hpp : s2.ppb = ppb := by rw [← hs2, obsS_ppb]; exact (HR.out).2.2
                                have HM2 := Lib.hid hs2
                                rw [hs2] at hsn HR4 HKN
                                have HR3 : Hid (s2.n ≤ (j + 1 : Nat) ∧ 0 ≤ s2.n ∧ s2.ppb = ppb) := ⟨HR4.2, HR4.1, hpp⟩
                                have HS3 := Lib.hid hsn
                                clear eo eb hsn hkk hs2 hpp HR4
                                go_upto_region 16 with fail
                                go_wp2_with fail
                                clear y0 y1 y2 y3 y4
                                refine (of3_any (ff - o.a) (ff + o.b) _).mono ?_
                                rintro e c1 ⟨rfl, hca⟩
                                replace M := Lib.hid ((M.out).keptB hca)
                                replace K11 := Lib.hid ((K11.out).keptB hca)
                                replace HB := Lib.hid (bstep HB.out hca)
                                clear hca
                                rw [EO.out]
                                go_wp2_with fail
                                have LZ := Lib.hid (HB.out).size
                                refine (pobs14_any gM s ⟨ff - o.a, ff + o.b, true⟩ tt _ M.out (HS2.out).fit.tm (HR.out).2.1 HN1.out).mono ?_
                                rintro e c1 ⟨rfl, hm, ho⟩
                                replace M := Lib.hid hm
                                replace HB := Lib.hid (bonly8 HB.out ho LZ.out (by have := LM.out; simp; omega))
                                clear hm ho LZ
                                rw [EB.out]
                                rw [HM2.out] at M
                                clear HM2 HS2 HR HN1 EO EB K11 LK11 OMK11
                                have HS2 := HS3
                                have HKK := HKN
                                clear HS3 HKN
                                go_upto_region 19 with fail
                                obtain ⟨L, H, er, hbd, hlh, hl0, hl1⟩ := snd_read HS2.out HJ.out HKK.out
                                obtain ⟨em, hmh, hrh⟩ := snd_master HS2.out HJ.out er hbd hlh hl0 hl1
                                have ER := Lib.hid er
                                have EM := Lib.hid em
                                have EMH := Lib.hid hmh
                                have ERH := Lib.hid hrh
                                clear er em hmh hrh hbd hlh hl0 hl1
                                go_wp2_with fail
                                refine (pread14_any gM s2 tt _ M.out).mono ?_
                                rintro e c1 ⟨rfl, hc1⟩
                                replace M := Lib.hid ((M.out).keptB hc1)
                                replace HB := Lib.hid (bstep HB.out hc1)
                                clear hc1
                                rw [ER.out]
                                go_upto_region 20 with (first | (refine big_fill rfl 38 _ _ rfl gK15 (#[.int .i64 L, .int .i64 H, .bool true]) rfl rfl K15.out (by kernel_rfl) (by kernel_rfl) (by kernel_rfl) ?_; intro vK151 nK15 htK15; replace K15 := Lib.hid nK15; replace M := Lib.hid ((M.out).touch htK15 OMK15.out); replace HB := Lib.hid (btouch HB.out htK15 LK15.out); clear nK15 htK15; try simp only [Act.put, List.setIfInBounds_toArray, List.set_cons_zero, List.set_cons_succ]) | (refine big_alloc rfl 38 rfl (#[.int .i64 0, .int .i64 0, .bool false]) (by kernel_rfl) ?_; intro gK15 wK15 hlK15 nK15 hbK15; have K15 := Lib.hid nK15; have LK15 := Lib.hid (Nat.le_trans (HB.out).size hlK15); have OMK15 := Lib.hid ((M.out).off hlK15); replace M := Lib.hid ((M.out).keptB hbK15); replace HB := Lib.hid (bstep HB.out hbK15); clear hlK15 nK15 hbK15; try simp only [Act.put, List.setIfInBounds_toArray, List.set_cons_zero, List.set_cons_succ]))
                                go_wp2_with fail
                                refine (pmaster14_any gM s2 tt _ M.out).mono ?_
                                rintro e c2 ⟨rfl, hc2⟩
                                replace M := Lib.hid ((M.out).keptB hc2)
                                replace K15 := Lib.hid ((K15.out).keptB hc2)
                                replace HB := Lib.hid (bstep HB.out hc2)
                                clear hc2
                                rw [EM.out]
                                go_upto_region 21 with (first | (refine big_fill rfl 38 _ _ rfl gK16 (#[.int .i64 (L + tt), .int .i64 (H + tt), .bool true]) rfl rfl K16.out (by kernel_rfl) (by kernel_rfl) (by kernel_rfl) ?_; intro vK161 nK16 htK16; replace K16 := Lib.hid nK16; replace M := Lib.hid ((M.out).touch htK16 OMK16.out); replace K15 := Lib.hid ((K15.out).touch htK16 OK15K16.out); replace HB := Lib.hid (btouch HB.out htK16 LK16.out); clear nK16 htK16; try simp only [Act.put, List.setIfInBounds_toArray, List.set_cons_zero, List.set_cons_succ]) | (refine big_alloc rfl 38 rfl (#[.int .i64 0, .int .i64 0, .bool false]) (by kernel_rfl) ?_; intro gK16 wK16 hlK16 nK16 hbK16; have K16 := Lib.hid nK16; have LK16 := Lib.hid (Nat.le_trans (HB.out).size hlK16); have OMK16 := Lib.hid ((M.out).off hlK16); have OK15K16 := Lib.hid ((K15.out).off hlK16); replace M := Lib.hid ((M.out).keptB hbK16); replace K15 := Lib.hid ((K15.out).keptB hbK16); replace HB := Lib.hid (bstep HB.out hbK16); clear hlK16 nK16 hbK16; try simp only [Act.put, List.setIfInBounds_toArray, List.set_cons_zero, List.set_cons_succ]))
                                have u0 := (K15.out).reads (i := 2) (x := .bool true) rfl
                                go_wp2_with ((refine big_whole rfl 38 _ rfl gK15 rfl K15.out Try.underlying38 rfl (by kernel_rfl) ?_; try simp only [Act.put, List.setIfInBounds_toArray, List.set_cons_zero, List.set_cons_succ]))
                                clear u0
                                refine (has3_any ⟨L, H, true⟩ ff _).mono ?_
                                rintro e c3 ⟨rfl, hc3⟩
                                replace M := Lib.hid ((M.out).keptB hc3)
                                replace K15 := Lib.hid ((K15.out).keptB hc3)
                                replace K16 := Lib.hid ((K16.out).keptB hc3)
                                replace HB := Lib.hid (bstep HB.out hc3)
                                clear hc3
                                rw [ERH.out]
                                have u1 := (K16.out).reads (i := 2) (x := .bool true) rfl
                                go_wp2_with ((refine big_whole rfl 38 _ rfl gK16 rfl K16.out Try.underlying38 rfl (by kernel_rfl) ?_; try simp only [Act.put, List.setIfInBounds_toArray, List.set_cons_zero, List.set_cons_succ]))
                                clear u1
                                refine (has3_any ⟨L + tt, H + tt, true⟩ (tt + ff) _).mono ?_
                                rintro e c4 ⟨rfl, hc4⟩
                                replace M := Lib.hid ((M.out).keptB hc4)
                                replace K15 := Lib.hid ((K15.out).keptB hc4)
                                replace K16 := Lib.hid ((K16.out).keptB hc4)
                                replace HB := Lib.hid (bstep HB.out hc4)
                                clear hc4
                                rw [EMH.out]
                                have u0 := (K15.out).reads (i := 2) (x := .bool true) rfl
                                go_wp2
                                go_roundg g1
                                case measure => omega
                                case rel => exact ⟨j + 1, s2, ff, tt, by omega, rfl, rfl, by rw [HKK.out], by go_num, M, HS2, HR3, HB⟩

end Go.Proofs.Ytblbjljfcoeeeaa
