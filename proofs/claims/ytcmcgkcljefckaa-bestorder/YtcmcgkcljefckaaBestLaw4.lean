/- The walk over BestOrder. -/
import Derived.Test.YtcmcgkcljefckaaBestLaw1
import Derived.Test.YtcmcgkcljefckaaBestOrderB
import Derived.Deep.DeepCutAuto
import Derived.Deep.LoopGhost
import Derived.WalkMore
namespace Go.Proofs.Ytcmcgkcljefckaa
set_option maxRecDepth 100000
open Go.RowKit
set_option linter.unusedVariables false
set_option linter.unusedSimpArgs false

set_option maxHeartbeats 4000000 in
theorem order9 (A : Option Addr) (n c : Nat) (l : List Rs) (r : Pt) (w : World) (hl : SetsOk w A n c l) (hr : r.c.ok) :
    Calls Try.prog 6 #[.slice A n c, .agg (ptA r)] w fun e w' => e = .returned (.bool true) ∧ Below w.heap.size w w' := by
  have SL := Lib.hid hl
  have HR := Lib.hid hr
  clear hl hr
  have HB := Lib.hid (Below.refl w.heap.size w)
  have SI := Lib.hid (sets_ok_in SL.out)
  have HO := Lib.hid (SL.out).ok
  have HLN := Lib.hid (SL.out).len
  go_enter Try.func6, Try.ntmps6
  go_upto_region 1 with ((refine big_box rfl 26 _ rfl (ptA r) rfl (by kernel_rfl) ?_; intro gK3 wK3 hlK3 nK3 hbK3; have K3 := Lib.hid nK3; have LK3 := Lib.hid (Nat.le_trans (HB.out).size hlK3); have OSIK3 := Lib.hid ((SI.out).off hlK3); replace SI := Lib.hid ((SI.out).keptB hbK3); replace HB := Lib.hid (bstep HB.out hbK3); clear hlK3 nK3 hbK3; try simp only [Act.put, List.setIfInBounds_toArray, List.set_cons_zero, List.set_cons_succ]))
  by_cases h1 : 40 < n
  · have d1 : decide ((40 : Int) < (n : Int)) = true := decide_eq_true (by omega)
    clear h1
    go_wp2_with fail
    refine (alive9_any _).mono ?_
    rintro e c1 ⟨rfl, hc1⟩
    replace K3 := Lib.hid ((K3.out).keptB hc1)
    replace HB := Lib.hid (bstep HB.out hc1)
    clear hc1
    go_wp2
    try rw [Exit.noGoto_ret]
    go_ret
    exact ⟨rfl, HB.out⟩
  · have d1 : decide ((40 : Int) < (n : Int)) = false := decide_eq_false (by omega)
    by_cases h2 : n < 1
    · have d2 : decide ((n : Int) < 1) = true := decide_eq_true (by omega)
      clear h2
      go_wp2_with fail
      refine (alive9_any _).mono ?_
      rintro e c1 ⟨rfl, hc1⟩
      replace K3 := Lib.hid ((K3.out).keptB hc1)
      replace HB := Lib.hid (bstep HB.out hc1)
      clear hc1
      go_wp2
      try rw [Exit.noGoto_ret]
      go_ret
      exact ⟨rfl, HB.out⟩
    · have d2 : decide ((n : Int) < 1) = false := decide_eq_false (by omega)
      have HN : Hid (1 ≤ n ∧ n ≤ 40) := by rw [Hid]; omega
      have hn40 : n ≤ 40 := (HN.out).2
      clear h1 h2
      obtain ⟨g, o, hA⟩ : ∃ g o, A = some ⟨g, o, none⟩ := by
        obtain ⟨_, _, _, h1, _, h3⟩ := SI.out
        cases h1
        obtain ⟨g, o, h4, _⟩ := h3 (by have := (HN.out).1; omega)
        exact ⟨g, o, h4⟩
      subst hA
      go_upto_region 3 with fail
      clear d1 d2
      obtain ⟨B, hB⟩ : ∃ B, wK3.heap.size = B := ⟨_, rfl⟩
      have LBK3 := Lib.hid (show gK3 < B by rw [← hB]; exact (K3.out).inside)
      have LBS : Hid (∀ g2 o2, some (⟨g, o, none⟩ : Addr) = some ⟨g2, o2, none⟩ → 0 < n → g2 < B) := by rw [Hid, ← hB]; exact (SI.out).low
      have HWB := Lib.hid (show w.heap.size ≤ B by rw [← hB]; exact (HB.out).size)
      have OW : Hid (RowB wK3 B 31 32 0 (.slice none 0 0) (setsL8 (l.reverse.take 0))) := RowB.nil (Nat.le_of_eq hB.symm)
      have OV : Hid (RowB wK3 B 34 33 0 (.slice none 0 0) (chsL (pairL (l.take 0)))) := RowB.nil (Nat.le_of_eq hB.symm)
      clear hB
      go_wp2
      go_loopg [5, 6, 25] n (fun gh x y i v => ∃ (j : Nat) (X Y : Value), j + gh = n ∧ X = x ∧ Y = y ∧ i = .int .i64 j ∧ Hid (RowB v B 31 32 j X (setsL8 (l.reverse.take j))) ∧ Hid (RowB v B 34 33 (2 * j) Y (chsL (pairL (l.take j)))) ∧ Hid (∀ b, X.ownBlock = some b → Y.ownBlock ≠ some b) ∧ Hid (unlikeL (l.take j)) ∧ Hid (SetsIn v (.slice (some ⟨g, o, none⟩) n c) l) ∧ Hid (Holds v gK3 26 (ptA r)) ∧ Hid (Below w.heap.size w v))
      case atStart => exact ⟨0, _, _, by omega, rfl, rfl, rfl, OW, OV, (fun b hb => by cases hb), (fun p q a b h1 h2 => by simp at h2), SI, K3, HB⟩
      case round =>
        clear SI K3 HB OW OV
        obtain ⟨j, X, Y, hj, hX0, hY0, rfl, OW, OV, XY, HU, SI, K3, HB⟩ := hrel
        subst hX0
        subst hY0
        cases gk with
        | zero =>
          have hd : decide ((j : Int) < (n : Int)) = false := decide_eq_false (by omega)
          obtain rfl : j = n := by omega
          rw [List.take_of_length_le (by rw [List.length_reverse]; have := HLN.out; omega)] at OW
          rw [List.take_of_length_le (by have := HLN.out; omega)] at OV HU
          obtain ⟨k, s, hk, hp, hq, hal, hmin⟩ := order_best (l := l) (by intro h0; have h1 := HLN.out; rw [h0] at h1; have := (HN.out).1; simp at h1; omega) HU.out r
          have HKS := Lib.hid hk
          have HP := Lib.hid hp
          have HQ := Lib.hid hq
          have HAL := Lib.hid hal
          have HMN := Lib.hid hmin
          clear hk hp hq hal hmin
          have TI := Lib.hid (own_sets8 (OW.out).row)
          have CI := Lib.hid (own_chs (OV.out).row)
          clear OW OV XY
          obtain ⟨A3, n3, c3, hX, hx3, _⟩ := TI.out
          subst hX
          have HN3 : Hid (n3 = j) := by rw [Hid, ← hx3, List.length_reverse]; exact HLN.out
          clear hx3
          obtain ⟨A4, n4, c4, hY, hy4, _⟩ := CI.out
          subst hY
          have HN4 : Hid (n4 = 2 * j) := by rw [Hid, ← hy4, pairL_len, HLN.out]
          clear hy4
          go_wp2
          go_cut [9, 10] (fun p q wx => ∃ g9 h9, p = .pointer (some ⟨g9, 0, none⟩) ∧ q = .pointer (some ⟨h9, 0, none⟩) ∧ Hid (Holds wx g9 34 (chA ⟨recv r s, true⟩)) ∧ Hid (Holds wx h9 34 (chA ⟨recv r s, true⟩)) ∧ Hid (SetsIn wx (.slice (some ⟨g, o, none⟩) j c) l) ∧ Hid (ChsIn wx (.slice A4 n4 c4) (pairL l)) ∧ Hid (Below w.heap.size w wx))
          case first =>
            refine wp_region_held_drew (S := fun v => Below w.heap.size w v ∧ SetsIn v (.slice (some ⟨g, o, none⟩) j c) l ∧ SetsIn v (.slice A3 n3 c3) l.reverse ∧ ChsIn v (.slice A4 n4 c4) (pairL l) ∧ Holds v gK3 26 (ptA r) ∧ True) (by kernel_rfl) ?_ (fun hHeld => ?_)
            · exact ⟨bdrew HB.out, (SI.out).drew, (TI.out).drew, (CI.out).drew, (K3.out).drew, trivial⟩
            clear HB SI TI CI K3
            refine wpAnyH_take (i := 0) (v := .slice (some ⟨g, o, none⟩) j c) (at_list rfl) (by kernel_rfl) (by kernel_rfl) (by kernel_rfl) (fun _ _ _ h => h) (Or.inl ⟨by rfl, ?_⟩) hHeld ?_
            · intro v hSv
              clear hHeld
              go_simp
            try simp only [Act.put, List.setIfInBounds_toArray, List.set_cons_zero, List.set_cons_succ]
            refine wpAnyH_take (i := 1) (v := .agg #[.int .u8 r.c.b0, .int .u8 r.c.b1, .int .u8 r.c.b2, .int .u8 r.c.b3, .int .u8 r.c.b4, .int .u8 r.c.b5, .int .u8 r.c.b6, .int .u8 r.c.b7, .int .i64 r.n]) (at_list rfl) (by kernel_rfl) (by kernel_rfl) (by kernel_rfl) (fun _ _ _ h => h) (yieldsIf_load_mid (by rfl) 26 _ rfl gK3 0 rfl [.int .u8 r.c.b0, .int .u8 r.c.b1, .int .u8 r.c.b2, .int .u8 r.c.b3, .int .u8 r.c.b4, .int .u8 r.c.b5, .int .u8 r.c.b6, .int .u8 r.c.b7, .int .i64 r.n] _ (fun v hv => Holds.range (hv.2.2.2.2.1) rfl) Try.underlying26 rfl (by kernel_rfl)) hHeld ?_
            try simp only [Act.put, List.setIfInBounds_toArray, List.set_cons_zero, List.set_cons_succ]
            refine wpAnyH_take (i := 3) (v := .slice A3 n3 c3) (at_list rfl) (by kernel_rfl) (by kernel_rfl) (by kernel_rfl) (fun _ _ _ h => h) (Or.inl ⟨by rfl, ?_⟩) hHeld ?_
            · intro v hSv
              clear hHeld
              go_simp
            try simp only [Act.put, List.setIfInBounds_toArray, List.set_cons_zero, List.set_cons_succ]
            refine wpAnyH_take (i := 4) (v := .agg #[.int .u8 r.c.b0, .int .u8 r.c.b1, .int .u8 r.c.b2, .int .u8 r.c.b3, .int .u8 r.c.b4, .int .u8 r.c.b5, .int .u8 r.c.b6, .int .u8 r.c.b7, .int .i64 r.n]) (at_list rfl) (by kernel_rfl) (by kernel_rfl) (by kernel_rfl) (fun _ _ _ h => h) (yieldsIf_load_mid (by rfl) 26 _ rfl gK3 0 rfl [.int .u8 r.c.b0, .int .u8 r.c.b1, .int .u8 r.c.b2, .int .u8 r.c.b3, .int .u8 r.c.b4, .int .u8 r.c.b5, .int .u8 r.c.b6, .int .u8 r.c.b7, .int .i64 r.n] _ (fun v hv => Holds.range (hv.2.2.2.2.1) rfl) Try.underlying26 rfl (by kernel_rfl)) hHeld ?_
            try simp only [Act.put, List.setIfInBounds_toArray, List.set_cons_zero, List.set_cons_succ]
            refine wpAnyH_ready (rs := [2, 6, 7]) (by kernel_rfl) (by simp) ?_
            refine AllReadyH.cons (at_list rfl) (fun K hK => ?_) ?_
            · go_simp
              refine (pport9_any (some ⟨g, o, none⟩) j c l r _ HO.out (by omega) HR.out (hHeld.2.1)).mono ?_
              rintro e v1 ⟨rfl, hv1⟩
              rw [HP.out]
              go_wp2_with fail
              refine hK.out _ _ ?_ (fun hHeld2 => ?_)
              · exact ⟨bstep hHeld.1 hv1, (hHeld.2.1).keptB hv1, (hHeld.2.2.1).keptB hv1, (hHeld.2.2.2.1).keptB hv1, (hHeld.2.2.2.2.1).keptB hv1, trivial⟩
              clear hK K hHeld
              have hHeld := hHeld2
              clear hHeld2 hv1
              try simp only [Act.put, List.setIfInBounds_toArray, List.set_cons_zero, List.set_cons_succ]
              refine wpAnyH_ready (rs := [5, 6, 7]) (by kernel_rfl) (by simp) ?_
              refine AllReadyH.cons (at_list rfl) (fun K hK => ?_) ?_
              · go_simp
                refine (pport9_any A3 n3 c3 l.reverse r _ (fun s hs => HO.out s (List.mem_reverse.1 hs)) (by have := HN3.out; omega) HR.out (hHeld.2.2.1)).mono ?_
                rintro e v2 ⟨rfl, hv2⟩
                rw [HQ.out]
                go_wp2_with fail
                refine hK.out _ _ ?_ (fun hHeld2 => ?_)
                · exact ⟨bstep hHeld.1 hv2, (hHeld.2.1).keptB hv2, (hHeld.2.2.1).keptB hv2, (hHeld.2.2.2.1).keptB hv2, (hHeld.2.2.2.2.1).keptB hv2, trivial⟩
                clear hK K hHeld
                have hHeld := hHeld2
                clear hHeld2 hv2
                try simp only [Act.put, List.setIfInBounds_toArray, List.set_cons_zero, List.set_cons_succ]
                refine wpAnyH_ready (rs := [6, 7]) (by kernel_rfl) (by simp) ?_
                refine AllReadyH.cons (at_list rfl) (fun K hK => ?_) ?_
                · refine step_alloc (by rfl) 34 rfl (chA zeroCh) (by kernel_rfl) ?_
                  intro gK9 wK9 hlK9 nK9 hbK9
                  have K9 := Lib.hid nK9
                  have LK9 := Lib.hid (Nat.le_trans (hHeld.1).size hlK9)
                  have OSIK9 := Lib.hid ((hHeld.2.1).off hlK9)
                  have OTIK9 := Lib.hid ((hHeld.2.2.1).off hlK9)
                  have OCIK9 := Lib.hid ((hHeld.2.2.2.1).off hlK9)
                  have OK3K9 := Lib.hid ((hHeld.2.2.2.2.1).off hlK9)
                  refine hK.out _ _ ?_ (fun hHeld2 => ?_)
                  · exact ⟨bstep hHeld.1 hbK9, (hHeld.2.1).keptB hbK9, (hHeld.2.2.1).keptB hbK9, (hHeld.2.2.2.1).keptB hbK9, (hHeld.2.2.2.2.1).keptB hbK9, trivial⟩
                  clear hK K hHeld
                  have hHeld := hHeld2
                  clear hHeld2
                  try simp only [Act.put]
                  clear hlK9 nK9 hbK9
                  try simp only [List.setIfInBounds_toArray, List.set_cons_zero, List.set_cons_succ]
                  refine wpAnyH_ready (rs := [7]) (by kernel_rfl) (by simp) ?_
                  refine AllReadyH.cons (at_list rfl) (fun K hK => ?_) ?_
                  · refine step_alloc (by rfl) 34 rfl (chA zeroCh) (by kernel_rfl) ?_
                    intro gK10 wK10 hlK10 nK10 hbK10
                    have K10 := Lib.hid nK10
                    have LK10 := Lib.hid (Nat.le_trans (hHeld.1).size hlK10)
                    have OSIK10 := Lib.hid ((hHeld.2.1).off hlK10)
                    have OTIK10 := Lib.hid ((hHeld.2.2.1).off hlK10)
                    have OCIK10 := Lib.hid ((hHeld.2.2.2.1).off hlK10)
                    have OK3K10 := Lib.hid ((hHeld.2.2.2.2.1).off hlK10)
                    have OK9K10 := Lib.hid ((K9.out).off hlK10)
                    replace K9 := Lib.hid ((K9.out).keptB hbK10)
                    refine hK.out _ _ ?_ (fun hHeld2 => ?_)
                    · exact ⟨bstep hHeld.1 hbK10, (hHeld.2.1).keptB hbK10, (hHeld.2.2.1).keptB hbK10, (hHeld.2.2.2.1).keptB hbK10, (hHeld.2.2.2.2.1).keptB hbK10, trivial⟩
                    clear hK K hHeld
                    have hHeld := hHeld2
                    clear hHeld2
                    try simp only [Act.put]
                    clear hlK10 nK10 hbK10
                    try simp only [List.setIfInBounds_toArray, List.set_cons_zero, List.set_cons_succ]
                    refine wpAnyH_ready (rs := [8]) (by kernel_rfl) (by simp) ?_
                    refine AllReadyH.cons (at_list rfl) (fun K hK => ?_) AllReadyH.nil
                    refine step_fill (by rfl) 34 _ _ rfl gK9 (chA ⟨recv r s, true⟩) rfl rfl K9.out (by kernel_rfl) (by kernel_rfl) (by kernel_rfl) ?_
                    intro vK90 nK9 htK9
                    replace K9 := Lib.hid nK9
                    replace K10 := Lib.hid ((K10.out).touch htK9 (Ne.symm OK9K10.out))
                    refine hK.out _ _ ?_ (fun hHeld2 => ?_)
                    · exact ⟨btouch hHeld.1 htK9 LK9.out, (hHeld.2.1).touch htK9 OSIK9.out, (hHeld.2.2.1).touch htK9 OTIK9.out, (hHeld.2.2.2.1).touch htK9 OCIK9.out, (hHeld.2.2.2.2.1).touch htK9 OK3K9.out, trivial⟩
                    clear hK K hHeld
                    have hHeld := hHeld2
                    clear hHeld2
                    try simp only [Act.put]
                    clear nK9 htK9
                    try simp only [List.setIfInBounds_toArray, List.set_cons_zero, List.set_cons_succ]
                    refine wpAnyH_ready (rs := [9]) (by kernel_rfl) (by simp) ?_
                    refine AllReadyH.cons (at_list rfl) (fun K hK => ?_) AllReadyH.nil
                    refine step_fill (by rfl) 34 _ _ rfl gK10 (chA ⟨recv r s, true⟩) rfl rfl K10.out (by kernel_rfl) (by kernel_rfl) (by kernel_rfl) ?_
                    intro vK100 nK10 htK10
                    replace K10 := Lib.hid nK10
                    replace K9 := Lib.hid ((K9.out).touch htK10 OK9K10.out)
                    refine hK.out _ _ ?_ (fun hHeld2 => ?_)
                    · exact ⟨btouch hHeld.1 htK10 LK10.out, (hHeld.2.1).touch htK10 OSIK10.out, (hHeld.2.2.1).touch htK10 OTIK10.out, (hHeld.2.2.2.1).touch htK10 OCIK10.out, (hHeld.2.2.2.2.1).touch htK10 OK3K10.out, trivial⟩
                    clear hK K hHeld
                    have hHeld := hHeld2
                    clear hHeld2
                    try simp only [Act.put]
                    clear nK10 htK10
                    try simp only [List.setIfInBounds_toArray, List.set_cons_zero, List.set_cons_succ]
                    refine wpAnyH_done (by kernel_rfl) ?_ _
                    have HB := Lib.hid hHeld.1
                    have SI := Lib.hid hHeld.2.1
                    have TI := Lib.hid hHeld.2.2.1
                    have CI := Lib.hid hHeld.2.2.2.1
                    have K3 := Lib.hid hHeld.2.2.2.2.1
                    clear hHeld
                    go_wp2_with fail
                    go_meet
                    exact ⟨_, _, rfl, rfl, K9, K10, SI, CI, HB⟩
                  exact AllReadyH.nil
                refine AllReadyH.cons (at_list rfl) (fun K hK => ?_) ?_
                · refine step_alloc (by rfl) 34 rfl (chA zeroCh) (by kernel_rfl) ?_
                  intro gK10 wK10 hlK10 nK10 hbK10
                  have K10 := Lib.hid nK10
                  have LK10 := Lib.hid (Nat.le_trans (hHeld.1).size hlK10)
                  have OSIK10 := Lib.hid ((hHeld.2.1).off hlK10)
                  have OTIK10 := Lib.hid ((hHeld.2.2.1).off hlK10)
                  have OCIK10 := Lib.hid ((hHeld.2.2.2.1).off hlK10)
                  have OK3K10 := Lib.hid ((hHeld.2.2.2.2.1).off hlK10)
                  refine hK.out _ _ ?_ (fun hHeld2 => ?_)
                  · exact ⟨bstep hHeld.1 hbK10, (hHeld.2.1).keptB hbK10, (hHeld.2.2.1).keptB hbK10, (hHeld.2.2.2.1).keptB hbK10, (hHeld.2.2.2.2.1).keptB hbK10, trivial⟩
                  clear hK K hHeld
                  have hHeld := hHeld2
                  clear hHeld2
                  try simp only [Act.put]
                  clear hlK10 nK10 hbK10
                  try simp only [List.setIfInBounds_toArray, List.set_cons_zero, List.set_cons_succ]
                  refine wpAnyH_ready (rs := [6]) (by kernel_rfl) (by simp) ?_
                  refine AllReadyH.cons (at_list rfl) (fun K hK => ?_) ?_
                  · refine step_alloc (by rfl) 34 rfl (chA zeroCh) (by kernel_rfl) ?_
                    intro gK9 wK9 hlK9 nK9 hbK9
                    have K9 := Lib.hid nK9
                    have LK9 := Lib.hid (Nat.le_trans (hHeld.1).size hlK9)
                    have OSIK9 := Lib.hid ((hHeld.2.1).off hlK9)
                    have OTIK9 := Lib.hid ((hHeld.2.2.1).off hlK9)
                    have OCIK9 := Lib.hid ((hHeld.2.2.2.1).off hlK9)
                    have OK3K9 := Lib.hid ((hHeld.2.2.2.2.1).off hlK9)
                    have OK10K9 := Lib.hid ((K10.out).off hlK9)
                    replace K10 := Lib.hid ((K10.out).keptB hbK9)
                    refine hK.out _ _ ?_ (fun hHeld2 => ?_)
                    · exact ⟨bstep hHeld.1 hbK9, (hHeld.2.1).keptB hbK9, (hHeld.2.2.1).keptB hbK9, (hHeld.2.2.2.1).keptB hbK9, (hHeld.2.2.2.2.1).keptB hbK9, trivial⟩
                    clear hK K hHeld
                    have hHeld := hHeld2
                    clear hHeld2
                    try simp only [Act.put]
                    clear hlK9 nK9 hbK9
                    try simp only [List.setIfInBounds_toArray, List.set_cons_zero, List.set_cons_succ]
                    refine wpAnyH_ready (rs := [8]) (by kernel_rfl) (by simp) ?_
                    refine AllReadyH.cons (at_list rfl) (fun K hK => ?_) AllReadyH.nil
                    refine step_fill (by rfl) 34 _ _ rfl gK9 (chA ⟨recv r s, true⟩) rfl rfl K9.out (by kernel_rfl) (by kernel_rfl) (by kernel_rfl) ?_
                    intro vK90 nK9 htK9
                    replace K9 := Lib.hid nK9
                    replace K10 := Lib.hid ((K10.out).touch htK9 OK10K9.out)
                    refine hK.out _ _ ?_ (fun hHeld2 => ?_)
                    · exact ⟨btouch hHeld.1 htK9 LK9.out, (hHeld.2.1).touch htK9 OSIK9.out, (hHeld.2.2.1).touch htK9 OTIK9.out, (hHeld.2.2.2.1).touch htK9 OCIK9.out, (hHeld.2.2.2.2.1).touch htK9 OK3K9.out, trivial⟩
                    clear hK K hHeld
                    have hHeld := hHeld2
                    clear hHeld2
                    try simp only [Act.put]
                    clear nK9 htK9
                    try simp only [List.setIfInBounds_toArray, List.set_cons_zero, List.set_cons_succ]
                    refine wpAnyH_ready (rs := [9]) (by kernel_rfl) (by simp) ?_
                    refine AllReadyH.cons (at_list rfl) (fun K hK => ?_) AllReadyH.nil
                    refine step_fill (by rfl) 34 _ _ rfl gK10 (chA ⟨recv r s, true⟩) rfl rfl K10.out (by kernel_rfl) (by kernel_rfl) (by kernel_rfl) ?_
                    intro vK100 nK10 htK10
                    replace K10 := Lib.hid nK10
                    replace K9 := Lib.hid ((K9.out).touch htK10 (Ne.symm OK10K9.out))
                    refine hK.out _ _ ?_ (fun hHeld2 => ?_)
                    · exact ⟨btouch hHeld.1 htK10 LK10.out, (hHeld.2.1).touch htK10 OSIK10.out, (hHeld.2.2.1).touch htK10 OTIK10.out, (hHeld.2.2.2.1).touch htK10 OCIK10.out, (hHeld.2.2.2.2.1).touch htK10 OK3K10.out, trivial⟩
                    clear hK K hHeld
                    have hHeld := hHeld2
                    clear hHeld2
                    try simp only [Act.put]
                    clear nK10 htK10
                    try simp only [List.setIfInBounds_toArray, List.set_cons_zero, List.set_cons_succ]
                    refine wpAnyH_done (by kernel_rfl) ?_ _
                    have HB := Lib.hid hHeld.1
                    have SI := Lib.hid hHeld.2.1
                    have TI := Lib.hid hHeld.2.2.1
                    have CI := Lib.hid hHeld.2.2.2.1
                    have K3 := Lib.hid hHeld.2.2.2.2.1
                    clear hHeld
                    go_wp2_with fail
                    go_meet
                    exact ⟨_, _, rfl, rfl, K9, K10, SI, CI, HB⟩
                  exact AllReadyH.nil
                exact AllReadyH.nil
              refine AllReadyH.cons (at_list rfl) (fun K hK => ?_) ?_
              · refine step_alloc (by rfl) 34 rfl (chA zeroCh) (by kernel_rfl) ?_
                intro gK9 wK9 hlK9 nK9 hbK9
                have K9 := Lib.hid nK9
                have LK9 := Lib.hid (Nat.le_trans (hHeld.1).size hlK9)
                have OSIK9 := Lib.hid ((hHeld.2.1).off hlK9)
                have OTIK9 := Lib.hid ((hHeld.2.2.1).off hlK9)
                have OCIK9 := Lib.hid ((hHeld.2.2.2.1).off hlK9)
                have OK3K9 := Lib.hid ((hHeld.2.2.2.2.1).off hlK9)
                refine hK.out _ _ ?_ (fun hHeld2 => ?_)
                · exact ⟨bstep hHeld.1 hbK9, (hHeld.2.1).keptB hbK9, (hHeld.2.2.1).keptB hbK9, (hHeld.2.2.2.1).keptB hbK9, (hHeld.2.2.2.2.1).keptB hbK9, trivial⟩
                clear hK K hHeld
                have hHeld := hHeld2
                clear hHeld2
                try simp only [Act.put]
                clear hlK9 nK9 hbK9
                try simp only [List.setIfInBounds_toArray, List.set_cons_zero, List.set_cons_succ]
                refine wpAnyH_ready (rs := [5, 7]) (by kernel_rfl) (by simp) ?_
                refine AllReadyH.cons (at_list rfl) (fun K hK => ?_) ?_
                · go_simp
                  refine (pport9_any A3 n3 c3 l.reverse r _ (fun s hs => HO.out s (List.mem_reverse.1 hs)) (by have := HN3.out; omega) HR.out (hHeld.2.2.1)).mono ?_
                  rintro e v2 ⟨rfl, hv2⟩
                  rw [HQ.out]
                  replace K9 := Lib.hid ((K9.out).keptB hv2)
                  go_wp2_with fail
                  refine hK.out _ _ ?_ (fun hHeld2 => ?_)
                  · exact ⟨bstep hHeld.1 hv2, (hHeld.2.1).keptB hv2, (hHeld.2.2.1).keptB hv2, (hHeld.2.2.2.1).keptB hv2, (hHeld.2.2.2.2.1).keptB hv2, trivial⟩
                  clear hK K hHeld
                  have hHeld := hHeld2
                  clear hHeld2 hv2
                  try simp only [Act.put, List.setIfInBounds_toArray, List.set_cons_zero, List.set_cons_succ]
                  refine wpAnyH_ready (rs := [7]) (by kernel_rfl) (by simp) ?_
                  refine AllReadyH.cons (at_list rfl) (fun K hK => ?_) ?_
                  · refine step_alloc (by rfl) 34 rfl (chA zeroCh) (by kernel_rfl) ?_
                    intro gK10 wK10 hlK10 nK10 hbK10
                    have K10 := Lib.hid nK10
                    have LK10 := Lib.hid (Nat.le_trans (hHeld.1).size hlK10)
                    have OSIK10 := Lib.hid ((hHeld.2.1).off hlK10)
                    have OTIK10 := Lib.hid ((hHeld.2.2.1).off hlK10)
                    have OCIK10 := Lib.hid ((hHeld.2.2.2.1).off hlK10)
                    have OK3K10 := Lib.hid ((hHeld.2.2.2.2.1).off hlK10)
                    have OK9K10 := Lib.hid ((K9.out).off hlK10)
                    replace K9 := Lib.hid ((K9.out).keptB hbK10)
                    refine hK.out _ _ ?_ (fun hHeld2 => ?_)
                    · exact ⟨bstep hHeld.1 hbK10, (hHeld.2.1).keptB hbK10, (hHeld.2.2.1).keptB hbK10, (hHeld.2.2.2.1).keptB hbK10, (hHeld.2.2.2.2.1).keptB hbK10, trivial⟩
                    clear hK K hHeld
                    have hHeld := hHeld2
                    clear hHeld2
                    try simp only [Act.put]
                    clear hlK10 nK10 hbK10
                    try simp only [List.setIfInBounds_toArray, List.set_cons_zero, List.set_cons_succ]
                    refine wpAnyH_ready (rs := [8]) (by kernel_rfl) (by simp) ?_
                    refine AllReadyH.cons (at_list rfl) (fun K hK => ?_) AllReadyH.nil
                    refine step_fill (by rfl) 34 _ _ rfl gK9 (chA ⟨recv r s, true⟩) rfl rfl K9.out (by kernel_rfl) (by kernel_rfl) (by kernel_rfl) ?_
                    intro vK90 nK9 htK9
                    replace K9 := Lib.hid nK9
                    replace K10 := Lib.hid ((K10.out).touch htK9 (Ne.symm OK9K10.out))
                    refine hK.out _ _ ?_ (fun hHeld2 => ?_)
                    · exact ⟨btouch hHeld.1 htK9 LK9.out, (hHeld.2.1).touch htK9 OSIK9.out, (hHeld.2.2.1).touch htK9 OTIK9.out, (hHeld.2.2.2.1).touch htK9 OCIK9.out, (hHeld.2.2.2.2.1).touch htK9 OK3K9.out, trivial⟩
                    clear hK K hHeld
                    have hHeld := hHeld2
                    clear hHeld2
                    try simp only [Act.put]
                    clear nK9 htK9
                    try simp only [List.setIfInBounds_toArray, List.set_cons_zero, List.set_cons_succ]
                    refine wpAnyH_ready (rs := [9]) (by kernel_rfl) (by simp) ?_
                    refine AllReadyH.cons (at_list rfl) (fun K hK => ?_) AllReadyH.nil
                    refine step_fill (by rfl) 34 _ _ rfl gK10 (chA ⟨recv r s, true⟩) rfl rfl K10.out (by kernel_rfl) (by kernel_rfl) (by kernel_rfl) ?_
                    intro vK100 nK10 htK10
                    replace K10 := Lib.hid nK10
                    replace K9 := Lib.hid ((K9.out).touch htK10 OK9K10.out)
                    refine hK.out _ _ ?_ (fun hHeld2 => ?_)
                    · exact ⟨btouch hHeld.1 htK10 LK10.out, (hHeld.2.1).touch htK10 OSIK10.out, (hHeld.2.2.1).touch htK10 OTIK10.out, (hHeld.2.2.2.1).touch htK10 OCIK10.out, (hHeld.2.2.2.2.1).touch htK10 OK3K10.out, trivial⟩
                    clear hK K hHeld
                    have hHeld := hHeld2
                    clear hHeld2
                    try simp only [Act.put]
                    clear nK10 htK10
                    try simp only [List.setIfInBounds_toArray, List.set_cons_zero, List.set_cons_succ]
                    refine wpAnyH_done (by kernel_rfl) ?_ _
                    have HB := Lib.hid hHeld.1
                    have SI := Lib.hid hHeld.2.1
                    have TI := Lib.hid hHeld.2.2.1
                    have CI := Lib.hid hHeld.2.2.2.1
                    have K3 := Lib.hid hHeld.2.2.2.2.1
                    clear hHeld
                    go_wp2_with fail
                    go_meet
                    exact ⟨_, _, rfl, rfl, K9, K10, SI, CI, HB⟩
                  exact AllReadyH.nil
                refine AllReadyH.cons (at_list rfl) (fun K hK => ?_) ?_
                · refine step_alloc (by rfl) 34 rfl (chA zeroCh) (by kernel_rfl) ?_
                  intro gK10 wK10 hlK10 nK10 hbK10
                  have K10 := Lib.hid nK10
                  have LK10 := Lib.hid (Nat.le_trans (hHeld.1).size hlK10)
                  have OSIK10 := Lib.hid ((hHeld.2.1).off hlK10)
                  have OTIK10 := Lib.hid ((hHeld.2.2.1).off hlK10)
                  have OCIK10 := Lib.hid ((hHeld.2.2.2.1).off hlK10)
                  have OK3K10 := Lib.hid ((hHeld.2.2.2.2.1).off hlK10)
                  have OK9K10 := Lib.hid ((K9.out).off hlK10)
                  replace K9 := Lib.hid ((K9.out).keptB hbK10)
                  refine hK.out _ _ ?_ (fun hHeld2 => ?_)
                  · exact ⟨bstep hHeld.1 hbK10, (hHeld.2.1).keptB hbK10, (hHeld.2.2.1).keptB hbK10, (hHeld.2.2.2.1).keptB hbK10, (hHeld.2.2.2.2.1).keptB hbK10, trivial⟩
                  clear hK K hHeld
                  have hHeld := hHeld2
                  clear hHeld2
                  try simp only [Act.put]
                  clear hlK10 nK10 hbK10
                  try simp only [List.setIfInBounds_toArray, List.set_cons_zero, List.set_cons_succ]
                  refine wpAnyH_ready (rs := [5]) (by kernel_rfl) (by simp) ?_
                  refine AllReadyH.cons (at_list rfl) (fun K hK => ?_) ?_
                  · go_simp
                    refine (pport9_any A3 n3 c3 l.reverse r _ (fun s hs => HO.out s (List.mem_reverse.1 hs)) (by have := HN3.out; omega) HR.out (hHeld.2.2.1)).mono ?_
                    rintro e v2 ⟨rfl, hv2⟩
                    rw [HQ.out]
                    replace K9 := Lib.hid ((K9.out).keptB hv2)
                    replace K10 := Lib.hid ((K10.out).keptB hv2)
                    go_wp2_with fail
                    refine hK.out _ _ ?_ (fun hHeld2 => ?_)
                    · exact ⟨bstep hHeld.1 hv2, (hHeld.2.1).keptB hv2, (hHeld.2.2.1).keptB hv2, (hHeld.2.2.2.1).keptB hv2, (hHeld.2.2.2.2.1).keptB hv2, trivial⟩
                    clear hK K hHeld
                    have hHeld := hHeld2
                    clear hHeld2 hv2
                    try simp only [Act.put, List.setIfInBounds_toArray, List.set_cons_zero, List.set_cons_succ]
                    refine wpAnyH_ready (rs := [8]) (by kernel_rfl) (by simp) ?_
                    refine AllReadyH.cons (at_list rfl) (fun K hK => ?_) AllReadyH.nil
                    refine step_fill (by rfl) 34 _ _ rfl gK9 (chA ⟨recv r s, true⟩) rfl rfl K9.out (by kernel_rfl) (by kernel_rfl) (by kernel_rfl) ?_
                    intro vK90 nK9 htK9
                    replace K9 := Lib.hid nK9
                    replace K10 := Lib.hid ((K10.out).touch htK9 (Ne.symm OK9K10.out))
                    refine hK.out _ _ ?_ (fun hHeld2 => ?_)
                    · exact ⟨btouch hHeld.1 htK9 LK9.out, (hHeld.2.1).touch htK9 OSIK9.out, (hHeld.2.2.1).touch htK9 OTIK9.out, (hHeld.2.2.2.1).touch htK9 OCIK9.out, (hHeld.2.2.2.2.1).touch htK9 OK3K9.out, trivial⟩
                    clear hK K hHeld
                    have hHeld := hHeld2
                    clear hHeld2
                    try simp only [Act.put]
                    clear nK9 htK9
                    try simp only [List.setIfInBounds_toArray, List.set_cons_zero, List.set_cons_succ]
                    refine wpAnyH_ready (rs := [9]) (by kernel_rfl) (by simp) ?_
                    refine AllReadyH.cons (at_list rfl) (fun K hK => ?_) AllReadyH.nil
                    refine step_fill (by rfl) 34 _ _ rfl gK10 (chA ⟨recv r s, true⟩) rfl rfl K10.out (by kernel_rfl) (by kernel_rfl) (by kernel_rfl) ?_
                    intro vK100 nK10 htK10
                    replace K10 := Lib.hid nK10
                    replace K9 := Lib.hid ((K9.out).touch htK10 OK9K10.out)
                    refine hK.out _ _ ?_ (fun hHeld2 => ?_)
                    · exact ⟨btouch hHeld.1 htK10 LK10.out, (hHeld.2.1).touch htK10 OSIK10.out, (hHeld.2.2.1).touch htK10 OTIK10.out, (hHeld.2.2.2.1).touch htK10 OCIK10.out, (hHeld.2.2.2.2.1).touch htK10 OK3K10.out, trivial⟩
                    clear hK K hHeld
                    have hHeld := hHeld2
                    clear hHeld2
                    try simp only [Act.put]
                    clear nK10 htK10
                    try simp only [List.setIfInBounds_toArray, List.set_cons_zero, List.set_cons_succ]
                    refine wpAnyH_done (by kernel_rfl) ?_ _
                    have HB := Lib.hid hHeld.1
                    have SI := Lib.hid hHeld.2.1
                    have TI := Lib.hid hHeld.2.2.1
                    have CI := Lib.hid hHeld.2.2.2.1
                    have K3 := Lib.hid hHeld.2.2.2.2.1
                    clear hHeld
                    go_wp2_with fail
                    go_meet
                    exact ⟨_, _, rfl, rfl, K9, K10, SI, CI, HB⟩
                  exact AllReadyH.nil
                exact AllReadyH.nil
              refine AllReadyH.cons (at_list rfl) (fun K hK => ?_) ?_
              · refine step_alloc (by rfl) 34 rfl (chA zeroCh) (by kernel_rfl) ?_
                intro gK10 wK10 hlK10 nK10 hbK10
                have K10 := Lib.hid nK10
                have LK10 := Lib.hid (Nat.le_trans (hHeld.1).size hlK10)
                have OSIK10 := Lib.hid ((hHeld.2.1).off hlK10)
                have OTIK10 := Lib.hid ((hHeld.2.2.1).off hlK10)
                have OCIK10 := Lib.hid ((hHeld.2.2.2.1).off hlK10)
                have OK3K10 := Lib.hid ((hHeld.2.2.2.2.1).off hlK10)
                refine hK.out _ _ ?_ (fun hHeld2 => ?_)
                · exact ⟨bstep hHeld.1 hbK10, (hHeld.2.1).keptB hbK10, (hHeld.2.2.1).keptB hbK10, (hHeld.2.2.2.1).keptB hbK10, (hHeld.2.2.2.2.1).keptB hbK10, trivial⟩
                clear hK K hHeld
                have hHeld := hHeld2
                clear hHeld2
                try simp only [Act.put]
                clear hlK10 nK10 hbK10
                try simp only [List.setIfInBounds_toArray, List.set_cons_zero, List.set_cons_succ]
                refine wpAnyH_ready (rs := [5, 6]) (by kernel_rfl) (by simp) ?_
                refine AllReadyH.cons (at_list rfl) (fun K hK => ?_) ?_
                · go_simp
                  refine (pport9_any A3 n3 c3 l.reverse r _ (fun s hs => HO.out s (List.mem_reverse.1 hs)) (by have := HN3.out; omega) HR.out (hHeld.2.2.1)).mono ?_
                  rintro e v2 ⟨rfl, hv2⟩
                  rw [HQ.out]
                  replace K10 := Lib.hid ((K10.out).keptB hv2)
                  go_wp2_with fail
                  refine hK.out _ _ ?_ (fun hHeld2 => ?_)
                  · exact ⟨bstep hHeld.1 hv2, (hHeld.2.1).keptB hv2, (hHeld.2.2.1).keptB hv2, (hHeld.2.2.2.1).keptB hv2, (hHeld.2.2.2.2.1).keptB hv2, trivial⟩
                  clear hK K hHeld
                  have hHeld := hHeld2
                  clear hHeld2 hv2
                  try simp only [Act.put, List.setIfInBounds_toArray, List.set_cons_zero, List.set_cons_succ]
                  refine wpAnyH_ready (rs := [6]) (by kernel_rfl) (by simp) ?_
                  refine AllReadyH.cons (at_list rfl) (fun K hK => ?_) ?_
                  · refine step_alloc (by rfl) 34 rfl (chA zeroCh) (by kernel_rfl) ?_
                    intro gK9 wK9 hlK9 nK9 hbK9
                    have K9 := Lib.hid nK9
                    have LK9 := Lib.hid (Nat.le_trans (hHeld.1).size hlK9)
                    have OSIK9 := Lib.hid ((hHeld.2.1).off hlK9)
                    have OTIK9 := Lib.hid ((hHeld.2.2.1).off hlK9)
                    have OCIK9 := Lib.hid ((hHeld.2.2.2.1).off hlK9)
                    have OK3K9 := Lib.hid ((hHeld.2.2.2.2.1).off hlK9)
                    have OK10K9 := Lib.hid ((K10.out).off hlK9)
                    replace K10 := Lib.hid ((K10.out).keptB hbK9)
                    refine hK.out _ _ ?_ (fun hHeld2 => ?_)
                    · exact ⟨bstep hHeld.1 hbK9, (hHeld.2.1).keptB hbK9, (hHeld.2.2.1).keptB hbK9, (hHeld.2.2.2.1).keptB hbK9, (hHeld.2.2.2.2.1).keptB hbK9, trivial⟩
                    clear hK K hHeld
                    have hHeld := hHeld2
                    clear hHeld2
                    try simp only [Act.put]
                    clear hlK9 nK9 hbK9
                    try simp only [List.setIfInBounds_toArray, List.set_cons_zero, List.set_cons_succ]
                    refine wpAnyH_ready (rs := [8]) (by kernel_rfl) (by simp) ?_
                    refine AllReadyH.cons (at_list rfl) (fun K hK => ?_) AllReadyH.nil
                    refine step_fill (by rfl) 34 _ _ rfl gK9 (chA ⟨recv r s, true⟩) rfl rfl K9.out (by kernel_rfl) (by kernel_rfl) (by kernel_rfl) ?_
                    intro vK90 nK9 htK9
                    replace K9 := Lib.hid nK9
                    replace K10 := Lib.hid ((K10.out).touch htK9 OK10K9.out)
                    refine hK.out _ _ ?_ (fun hHeld2 => ?_)
                    · exact ⟨btouch hHeld.1 htK9 LK9.out, (hHeld.2.1).touch htK9 OSIK9.out, (hHeld.2.2.1).touch htK9 OTIK9.out, (hHeld.2.2.2.1).touch htK9 OCIK9.out, (hHeld.2.2.2.2.1).touch htK9 OK3K9.out, trivial⟩
                    clear hK K hHeld
                    have hHeld := hHeld2
                    clear hHeld2
                    try simp only [Act.put]
                    clear nK9 htK9
                    try simp only [List.setIfInBounds_toArray, List.set_cons_zero, List.set_cons_succ]
                    refine wpAnyH_ready (rs := [9]) (by kernel_rfl) (by simp) ?_
                    refine AllReadyH.cons (at_list rfl) (fun K hK => ?_) AllReadyH.nil
                    refine step_fill (by rfl) 34 _ _ rfl gK10 (chA ⟨recv r s, true⟩) rfl rfl K10.out (by kernel_rfl) (by kernel_rfl) (by kernel_rfl) ?_
                    intro vK100 nK10 htK10
                    replace K10 := Lib.hid nK10
                    replace K9 := Lib.hid ((K9.out).touch htK10 (Ne.symm OK10K9.out))
                    refine hK.out _ _ ?_ (fun hHeld2 => ?_)
                    · exact ⟨btouch hHeld.1 htK10 LK10.out, (hHeld.2.1).touch htK10 OSIK10.out, (hHeld.2.2.1).touch htK10 OTIK10.out, (hHeld.2.2.2.1).touch htK10 OCIK10.out, (hHeld.2.2.2.2.1).touch htK10 OK3K10.out, trivial⟩
                    clear hK K hHeld
                    have hHeld := hHeld2
                    clear hHeld2
                    try simp only [Act.put]
                    clear nK10 htK10
                    try simp only [List.setIfInBounds_toArray, List.set_cons_zero, List.set_cons_succ]
                    refine wpAnyH_done (by kernel_rfl) ?_ _
                    have HB := Lib.hid hHeld.1
                    have SI := Lib.hid hHeld.2.1
                    have TI := Lib.hid hHeld.2.2.1
                    have CI := Lib.hid hHeld.2.2.2.1
                    have K3 := Lib.hid hHeld.2.2.2.2.1
                    clear hHeld
                    go_wp2_with fail
                    go_meet
                    exact ⟨_, _, rfl, rfl, K9, K10, SI, CI, HB⟩
                  exact AllReadyH.nil
                refine AllReadyH.cons (at_list rfl) (fun K hK => ?_) ?_
                · refine step_alloc (by rfl) 34 rfl (chA zeroCh) (by kernel_rfl) ?_
                  intro gK9 wK9 hlK9 nK9 hbK9
                  have K9 := Lib.hid nK9
                  have LK9 := Lib.hid (Nat.le_trans (hHeld.1).size hlK9)
                  have OSIK9 := Lib.hid ((hHeld.2.1).off hlK9)
                  have OTIK9 := Lib.hid ((hHeld.2.2.1).off hlK9)
                  have OCIK9 := Lib.hid ((hHeld.2.2.2.1).off hlK9)
                  have OK3K9 := Lib.hid ((hHeld.2.2.2.2.1).off hlK9)
                  have OK10K9 := Lib.hid ((K10.out).off hlK9)
                  replace K10 := Lib.hid ((K10.out).keptB hbK9)
                  refine hK.out _ _ ?_ (fun hHeld2 => ?_)
                  · exact ⟨bstep hHeld.1 hbK9, (hHeld.2.1).keptB hbK9, (hHeld.2.2.1).keptB hbK9, (hHeld.2.2.2.1).keptB hbK9, (hHeld.2.2.2.2.1).keptB hbK9, trivial⟩
                  clear hK K hHeld
                  have hHeld := hHeld2
                  clear hHeld2
                  try simp only [Act.put]
                  clear hlK9 nK9 hbK9
                  try simp only [List.setIfInBounds_toArray, List.set_cons_zero, List.set_cons_succ]
                  refine wpAnyH_ready (rs := [5]) (by kernel_rfl) (by simp) ?_
                  refine AllReadyH.cons (at_list rfl) (fun K hK => ?_) ?_
                  · go_simp
                    refine (pport9_any A3 n3 c3 l.reverse r _ (fun s hs => HO.out s (List.mem_reverse.1 hs)) (by have := HN3.out; omega) HR.out (hHeld.2.2.1)).mono ?_
                    rintro e v2 ⟨rfl, hv2⟩
                    rw [HQ.out]
                    replace K10 := Lib.hid ((K10.out).keptB hv2)
                    replace K9 := Lib.hid ((K9.out).keptB hv2)
                    go_wp2_with fail
                    refine hK.out _ _ ?_ (fun hHeld2 => ?_)
                    · exact ⟨bstep hHeld.1 hv2, (hHeld.2.1).keptB hv2, (hHeld.2.2.1).keptB hv2, (hHeld.2.2.2.1).keptB hv2, (hHeld.2.2.2.2.1).keptB hv2, trivial⟩
                    clear hK K hHeld
                    have hHeld := hHeld2
                    clear hHeld2 hv2
                    try simp only [Act.put, List.setIfInBounds_toArray, List.set_cons_zero, List.set_cons_succ]
                    refine wpAnyH_ready (rs := [8]) (by kernel_rfl) (by simp) ?_
                    refine AllReadyH.cons (at_list rfl) (fun K hK => ?_) AllReadyH.nil
                    refine step_fill (by rfl) 34 _ _ rfl gK9 (chA ⟨recv r s, true⟩) rfl rfl K9.out (by kernel_rfl) (by kernel_rfl) (by kernel_rfl) ?_
                    intro vK90 nK9 htK9
                    replace K9 := Lib.hid nK9
                    replace K10 := Lib.hid ((K10.out).touch htK9 OK10K9.out)
                    refine hK.out _ _ ?_ (fun hHeld2 => ?_)
                    · exact ⟨btouch hHeld.1 htK9 LK9.out, (hHeld.2.1).touch htK9 OSIK9.out, (hHeld.2.2.1).touch htK9 OTIK9.out, (hHeld.2.2.2.1).touch htK9 OCIK9.out, (hHeld.2.2.2.2.1).touch htK9 OK3K9.out, trivial⟩
                    clear hK K hHeld
                    have hHeld := hHeld2
                    clear hHeld2
                    try simp only [Act.put]
                    clear nK9 htK9
                    try simp only [List.setIfInBounds_toArray, List.set_cons_zero, List.set_cons_succ]
                    refine wpAnyH_ready (rs := [9]) (by kernel_rfl) (by simp) ?_
                    refine AllReadyH.cons (at_list rfl) (fun K hK => ?_) AllReadyH.nil
                    refine step_fill (by rfl) 34 _ _ rfl gK10 (chA ⟨recv r s, true⟩) rfl rfl K10.out (by kernel_rfl) (by kernel_rfl) (by kernel_rfl) ?_
                    intro vK100 nK10 htK10
                    replace K10 := Lib.hid nK10
                    replace K9 := Lib.hid ((K9.out).touch htK10 (Ne.symm OK10K9.out))
                    refine hK.out _ _ ?_ (fun hHeld2 => ?_)
                    · exact ⟨btouch hHeld.1 htK10 LK10.out, (hHeld.2.1).touch htK10 OSIK10.out, (hHeld.2.2.1).touch htK10 OTIK10.out, (hHeld.2.2.2.1).touch htK10 OCIK10.out, (hHeld.2.2.2.2.1).touch htK10 OK3K10.out, trivial⟩
                    clear hK K hHeld
                    have hHeld := hHeld2
                    clear hHeld2
                    try simp only [Act.put]
                    clear nK10 htK10
                    try simp only [List.setIfInBounds_toArray, List.set_cons_zero, List.set_cons_succ]
                    refine wpAnyH_done (by kernel_rfl) ?_ _
                    have HB := Lib.hid hHeld.1
                    have SI := Lib.hid hHeld.2.1
                    have TI := Lib.hid hHeld.2.2.1
                    have CI := Lib.hid hHeld.2.2.2.1
                    have K3 := Lib.hid hHeld.2.2.2.2.1
                    clear hHeld
                    go_wp2_with fail
                    go_meet
                    exact ⟨_, _, rfl, rfl, K9, K10, SI, CI, HB⟩
                  exact AllReadyH.nil
                exact AllReadyH.nil
              exact AllReadyH.nil
            refine AllReadyH.cons (at_list rfl) (fun K hK => ?_) ?_
            · refine step_alloc (by rfl) 34 rfl (chA zeroCh) (by kernel_rfl) ?_
              intro gK9 wK9 hlK9 nK9 hbK9
              have K9 := Lib.hid nK9
              have LK9 := Lib.hid (Nat.le_trans (hHeld.1).size hlK9)
              have OSIK9 := Lib.hid ((hHeld.2.1).off hlK9)
              have OTIK9 := Lib.hid ((hHeld.2.2.1).off hlK9)
              have OCIK9 := Lib.hid ((hHeld.2.2.2.1).off hlK9)
              have OK3K9 := Lib.hid ((hHeld.2.2.2.2.1).off hlK9)
              refine hK.out _ _ ?_ (fun hHeld2 => ?_)
              · exact ⟨bstep hHeld.1 hbK9, (hHeld.2.1).keptB hbK9, (hHeld.2.2.1).keptB hbK9, (hHeld.2.2.2.1).keptB hbK9, (hHeld.2.2.2.2.1).keptB hbK9, trivial⟩
              clear hK K hHeld
              have hHeld := hHeld2
              clear hHeld2
              try simp only [Act.put]
              clear hlK9 nK9 hbK9
              try simp only [List.setIfInBounds_toArray, List.set_cons_zero, List.set_cons_succ]
              refine wpAnyH_ready (rs := [2, 7]) (by kernel_rfl) (by simp) ?_
              refine AllReadyH.cons (at_list rfl) (fun K hK => ?_) ?_
              · go_simp
                refine (pport9_any (some ⟨g, o, none⟩) j c l r _ HO.out (by omega) HR.out (hHeld.2.1)).mono ?_
                rintro e v1 ⟨rfl, hv1⟩
                rw [HP.out]
                replace K9 := Lib.hid ((K9.out).keptB hv1)
                go_wp2_with fail
                refine hK.out _ _ ?_ (fun hHeld2 => ?_)
                · exact ⟨bstep hHeld.1 hv1, (hHeld.2.1).keptB hv1, (hHeld.2.2.1).keptB hv1, (hHeld.2.2.2.1).keptB hv1, (hHeld.2.2.2.2.1).keptB hv1, trivial⟩
                clear hK K hHeld
                have hHeld := hHeld2
                clear hHeld2 hv1
                try simp only [Act.put, List.setIfInBounds_toArray, List.set_cons_zero, List.set_cons_succ]
                refine wpAnyH_ready (rs := [5, 7]) (by kernel_rfl) (by simp) ?_
                refine AllReadyH.cons (at_list rfl) (fun K hK => ?_) ?_
                · go_simp
                  refine (pport9_any A3 n3 c3 l.reverse r _ (fun s hs => HO.out s (List.mem_reverse.1 hs)) (by have := HN3.out; omega) HR.out (hHeld.2.2.1)).mono ?_
                  rintro e v2 ⟨rfl, hv2⟩
                  rw [HQ.out]
                  replace K9 := Lib.hid ((K9.out).keptB hv2)
                  go_wp2_with fail
                  refine hK.out _ _ ?_ (fun hHeld2 => ?_)
                  · exact ⟨bstep hHeld.1 hv2, (hHeld.2.1).keptB hv2, (hHeld.2.2.1).keptB hv2, (hHeld.2.2.2.1).keptB hv2, (hHeld.2.2.2.2.1).keptB hv2, trivial⟩
                  clear hK K hHeld
                  have hHeld := hHeld2
                  clear hHeld2 hv2
                  try simp only [Act.put, List.setIfInBounds_toArray, List.set_cons_zero, List.set_cons_succ]
                  refine wpAnyH_ready (rs := [7]) (by kernel_rfl) (by simp) ?_
                  refine AllReadyH.cons (at_list rfl) (fun K hK => ?_) ?_
                  · refine step_alloc (by rfl) 34 rfl (chA zeroCh) (by kernel_rfl) ?_
                    intro gK10 wK10 hlK10 nK10 hbK10
                    have K10 := Lib.hid nK10
                    have LK10 := Lib.hid (Nat.le_trans (hHeld.1).size hlK10)
                    have OSIK10 := Lib.hid ((hHeld.2.1).off hlK10)
                    have OTIK10 := Lib.hid ((hHeld.2.2.1).off hlK10)
                    have OCIK10 := Lib.hid ((hHeld.2.2.2.1).off hlK10)
                    have OK3K10 := Lib.hid ((hHeld.2.2.2.2.1).off hlK10)
                    have OK9K10 := Lib.hid ((K9.out).off hlK10)
                    replace K9 := Lib.hid ((K9.out).keptB hbK10)
                    refine hK.out _ _ ?_ (fun hHeld2 => ?_)
                    · exact ⟨bstep hHeld.1 hbK10, (hHeld.2.1).keptB hbK10, (hHeld.2.2.1).keptB hbK10, (hHeld.2.2.2.1).keptB hbK10, (hHeld.2.2.2.2.1).keptB hbK10, trivial⟩
                    clear hK K hHeld
                    have hHeld := hHeld2
                    clear hHeld2
                    try simp only [Act.put]
                    clear hlK10 nK10 hbK10
                    try simp only [List.setIfInBounds_toArray, List.set_cons_zero, List.set_cons_succ]
                    refine wpAnyH_ready (rs := [8]) (by kernel_rfl) (by simp) ?_
                    refine AllReadyH.cons (at_list rfl) (fun K hK => ?_) AllReadyH.nil
                    refine step_fill (by rfl) 34 _ _ rfl gK9 (chA ⟨recv r s, true⟩) rfl rfl K9.out (by kernel_rfl) (by kernel_rfl) (by kernel_rfl) ?_
                    intro vK90 nK9 htK9
                    replace K9 := Lib.hid nK9
                    replace K10 := Lib.hid ((K10.out).touch htK9 (Ne.symm OK9K10.out))
                    refine hK.out _ _ ?_ (fun hHeld2 => ?_)
                    · exact ⟨btouch hHeld.1 htK9 LK9.out, (hHeld.2.1).touch htK9 OSIK9.out, (hHeld.2.2.1).touch htK9 OTIK9.out, (hHeld.2.2.2.1).touch htK9 OCIK9.out, (hHeld.2.2.2.2.1).touch htK9 OK3K9.out, trivial⟩
                    clear hK K hHeld
                    have hHeld := hHeld2
                    clear hHeld2
                    try simp only [Act.put]
                    clear nK9 htK9
                    try simp only [List.setIfInBounds_toArray, List.set_cons_zero, List.set_cons_succ]
                    refine wpAnyH_ready (rs := [9]) (by kernel_rfl) (by simp) ?_
                    refine AllReadyH.cons (at_list rfl) (fun K hK => ?_) AllReadyH.nil
                    refine step_fill (by rfl) 34 _ _ rfl gK10 (chA ⟨recv r s, true⟩) rfl rfl K10.out (by kernel_rfl) (by kernel_rfl) (by kernel_rfl) ?_
                    intro vK100 nK10 htK10
                    replace K10 := Lib.hid nK10
                    replace K9 := Lib.hid ((K9.out).touch htK10 OK9K10.out)
                    refine hK.out _ _ ?_ (fun hHeld2 => ?_)
                    · exact ⟨btouch hHeld.1 htK10 LK10.out, (hHeld.2.1).touch htK10 OSIK10.out, (hHeld.2.2.1).touch htK10 OTIK10.out, (hHeld.2.2.2.1).touch htK10 OCIK10.out, (hHeld.2.2.2.2.1).touch htK10 OK3K10.out, trivial⟩
                    clear hK K hHeld
                    have hHeld := hHeld2
                    clear hHeld2
                    try simp only [Act.put]
                    clear nK10 htK10
                    try simp only [List.setIfInBounds_toArray, List.set_cons_zero, List.set_cons_succ]
                    refine wpAnyH_done (by kernel_rfl) ?_ _
                    have HB := Lib.hid hHeld.1
                    have SI := Lib.hid hHeld.2.1
                    have TI := Lib.hid hHeld.2.2.1
                    have CI := Lib.hid hHeld.2.2.2.1
                    have K3 := Lib.hid hHeld.2.2.2.2.1
                    clear hHeld
                    go_wp2_with fail
                    go_meet
                    exact ⟨_, _, rfl, rfl, K9, K10, SI, CI, HB⟩
                  exact AllReadyH.nil
                refine AllReadyH.cons (at_list rfl) (fun K hK => ?_) ?_
                · refine step_alloc (by rfl) 34 rfl (chA zeroCh) (by kernel_rfl) ?_
                  intro gK10 wK10 hlK10 nK10 hbK10
                  have K10 := Lib.hid nK10
                  have LK10 := Lib.hid (Nat.le_trans (hHeld.1).size hlK10)
                  have OSIK10 := Lib.hid ((hHeld.2.1).off hlK10)
                  have OTIK10 := Lib.hid ((hHeld.2.2.1).off hlK10)
                  have OCIK10 := Lib.hid ((hHeld.2.2.2.1).off hlK10)
                  have OK3K10 := Lib.hid ((hHeld.2.2.2.2.1).off hlK10)
                  have OK9K10 := Lib.hid ((K9.out).off hlK10)
                  replace K9 := Lib.hid ((K9.out).keptB hbK10)
                  refine hK.out _ _ ?_ (fun hHeld2 => ?_)
                  · exact ⟨bstep hHeld.1 hbK10, (hHeld.2.1).keptB hbK10, (hHeld.2.2.1).keptB hbK10, (hHeld.2.2.2.1).keptB hbK10, (hHeld.2.2.2.2.1).keptB hbK10, trivial⟩
                  clear hK K hHeld
                  have hHeld := hHeld2
                  clear hHeld2
                  try simp only [Act.put]
                  clear hlK10 nK10 hbK10
                  try simp only [List.setIfInBounds_toArray, List.set_cons_zero, List.set_cons_succ]
                  refine wpAnyH_ready (rs := [5]) (by kernel_rfl) (by simp) ?_
                  refine AllReadyH.cons (at_list rfl) (fun K hK => ?_) ?_
                  · go_simp
                    refine (pport9_any A3 n3 c3 l.reverse r _ (fun s hs => HO.out s (List.mem_reverse.1 hs)) (by have := HN3.out; omega) HR.out (hHeld.2.2.1)).mono ?_
                    rintro e v2 ⟨rfl, hv2⟩
                    rw [HQ.out]
                    replace K9 := Lib.hid ((K9.out).keptB hv2)
                    replace K10 := Lib.hid ((K10.out).keptB hv2)
                    go_wp2_with fail
                    refine hK.out _ _ ?_ (fun hHeld2 => ?_)
                    · exact ⟨bstep hHeld.1 hv2, (hHeld.2.1).keptB hv2, (hHeld.2.2.1).keptB hv2, (hHeld.2.2.2.1).keptB hv2, (hHeld.2.2.2.2.1).keptB hv2, trivial⟩
                    clear hK K hHeld
                    have hHeld := hHeld2
                    clear hHeld2 hv2
                    try simp only [Act.put, List.setIfInBounds_toArray, List.set_cons_zero, List.set_cons_succ]
                    refine wpAnyH_ready (rs := [8]) (by kernel_rfl) (by simp) ?_
                    refine AllReadyH.cons (at_list rfl) (fun K hK => ?_) AllReadyH.nil
                    refine step_fill (by rfl) 34 _ _ rfl gK9 (chA ⟨recv r s, true⟩) rfl rfl K9.out (by kernel_rfl) (by kernel_rfl) (by kernel_rfl) ?_
                    intro vK90 nK9 htK9
                    replace K9 := Lib.hid nK9
                    replace K10 := Lib.hid ((K10.out).touch htK9 (Ne.symm OK9K10.out))
                    refine hK.out _ _ ?_ (fun hHeld2 => ?_)
                    · exact ⟨btouch hHeld.1 htK9 LK9.out, (hHeld.2.1).touch htK9 OSIK9.out, (hHeld.2.2.1).touch htK9 OTIK9.out, (hHeld.2.2.2.1).touch htK9 OCIK9.out, (hHeld.2.2.2.2.1).touch htK9 OK3K9.out, trivial⟩
                    clear hK K hHeld
                    have hHeld := hHeld2
                    clear hHeld2
                    try simp only [Act.put]
                    clear nK9 htK9
                    try simp only [List.setIfInBounds_toArray, List.set_cons_zero, List.set_cons_succ]
                    refine wpAnyH_ready (rs := [9]) (by kernel_rfl) (by simp) ?_
                    refine AllReadyH.cons (at_list rfl) (fun K hK => ?_) AllReadyH.nil
                    refine step_fill (by rfl) 34 _ _ rfl gK10 (chA ⟨recv r s, true⟩) rfl rfl K10.out (by kernel_rfl) (by kernel_rfl) (by kernel_rfl) ?_
                    intro vK100 nK10 htK10
                    replace K10 := Lib.hid nK10
                    replace K9 := Lib.hid ((K9.out).touch htK10 OK9K10.out)
                    refine hK.out _ _ ?_ (fun hHeld2 => ?_)
                    · exact ⟨btouch hHeld.1 htK10 LK10.out, (hHeld.2.1).touch htK10 OSIK10.out, (hHeld.2.2.1).touch htK10 OTIK10.out, (hHeld.2.2.2.1).touch htK10 OCIK10.out, (hHeld.2.2.2.2.1).touch htK10 OK3K10.out, trivial⟩
                    clear hK K hHeld
                    have hHeld := hHeld2
                    clear hHeld2
                    try simp only [Act.put]
                    clear nK10 htK10
                    try simp only [List.setIfInBounds_toArray, List.set_cons_zero, List.set_cons_succ]
                    refine wpAnyH_done (by kernel_rfl) ?_ _
                    have HB := Lib.hid hHeld.1
                    have SI := Lib.hid hHeld.2.1
                    have TI := Lib.hid hHeld.2.2.1
                    have CI := Lib.hid hHeld.2.2.2.1
                    have K3 := Lib.hid hHeld.2.2.2.2.1
                    clear hHeld
                    go_wp2_with fail
                    go_meet
                    exact ⟨_, _, rfl, rfl, K9, K10, SI, CI, HB⟩
                  exact AllReadyH.nil
                exact AllReadyH.nil
              refine AllReadyH.cons (at_list rfl) (fun K hK => ?_) ?_
              · refine step_alloc (by rfl) 34 rfl (chA zeroCh) (by kernel_rfl) ?_
                intro gK10 wK10 hlK10 nK10 hbK10
                have K10 := Lib.hid nK10
                have LK10 := Lib.hid (Nat.le_trans (hHeld.1).size hlK10)
                have OSIK10 := Lib.hid ((hHeld.2.1).off hlK10)
                have OTIK10 := Lib.hid ((hHeld.2.2.1).off hlK10)
                have OCIK10 := Lib.hid ((hHeld.2.2.2.1).off hlK10)
                have OK3K10 := Lib.hid ((hHeld.2.2.2.2.1).off hlK10)
                have OK9K10 := Lib.hid ((K9.out).off hlK10)
                replace K9 := Lib.hid ((K9.out).keptB hbK10)
                refine hK.out _ _ ?_ (fun hHeld2 => ?_)
                · exact ⟨bstep hHeld.1 hbK10, (hHeld.2.1).keptB hbK10, (hHeld.2.2.1).keptB hbK10, (hHeld.2.2.2.1).keptB hbK10, (hHeld.2.2.2.2.1).keptB hbK10, trivial⟩
                clear hK K hHeld
                have hHeld := hHeld2
                clear hHeld2
                try simp only [Act.put]
                clear hlK10 nK10 hbK10
                try simp only [List.setIfInBounds_toArray, List.set_cons_zero, List.set_cons_succ]
                refine wpAnyH_ready (rs := [2]) (by kernel_rfl) (by simp) ?_
                refine AllReadyH.cons (at_list rfl) (fun K hK => ?_) ?_
                · go_simp
                  refine (pport9_any (some ⟨g, o, none⟩) j c l r _ HO.out (by omega) HR.out (hHeld.2.1)).mono ?_
                  rintro e v1 ⟨rfl, hv1⟩
                  rw [HP.out]
                  replace K9 := Lib.hid ((K9.out).keptB hv1)
                  replace K10 := Lib.hid ((K10.out).keptB hv1)
                  go_wp2_with fail
                  refine hK.out _ _ ?_ (fun hHeld2 => ?_)
                  · exact ⟨bstep hHeld.1 hv1, (hHeld.2.1).keptB hv1, (hHeld.2.2.1).keptB hv1, (hHeld.2.2.2.1).keptB hv1, (hHeld.2.2.2.2.1).keptB hv1, trivial⟩
                  clear hK K hHeld
                  have hHeld := hHeld2
                  clear hHeld2 hv1
                  try simp only [Act.put, List.setIfInBounds_toArray, List.set_cons_zero, List.set_cons_succ]
                  refine wpAnyH_ready (rs := [5]) (by kernel_rfl) (by simp) ?_
                  refine AllReadyH.cons (at_list rfl) (fun K hK => ?_) ?_
                  · go_simp
                    refine (pport9_any A3 n3 c3 l.reverse r _ (fun s hs => HO.out s (List.mem_reverse.1 hs)) (by have := HN3.out; omega) HR.out (hHeld.2.2.1)).mono ?_
                    rintro e v2 ⟨rfl, hv2⟩
                    rw [HQ.out]
                    replace K9 := Lib.hid ((K9.out).keptB hv2)
                    replace K10 := Lib.hid ((K10.out).keptB hv2)
                    go_wp2_with fail
                    refine hK.out _ _ ?_ (fun hHeld2 => ?_)
                    · exact ⟨bstep hHeld.1 hv2, (hHeld.2.1).keptB hv2, (hHeld.2.2.1).keptB hv2, (hHeld.2.2.2.1).keptB hv2, (hHeld.2.2.2.2.1).keptB hv2, trivial⟩
                    clear hK K hHeld
                    have hHeld := hHeld2
                    clear hHeld2 hv2
                    try simp only [Act.put, List.setIfInBounds_toArray, List.set_cons_zero, List.set_cons_succ]
                    refine wpAnyH_ready (rs := [8]) (by kernel_rfl) (by simp) ?_
                    refine AllReadyH.cons (at_list rfl) (fun K hK => ?_) AllReadyH.nil
                    refine step_fill (by rfl) 34 _ _ rfl gK9 (chA ⟨recv r s, true⟩) rfl rfl K9.out (by kernel_rfl) (by kernel_rfl) (by kernel_rfl) ?_
                    intro vK90 nK9 htK9
                    replace K9 := Lib.hid nK9
                    replace K10 := Lib.hid ((K10.out).touch htK9 (Ne.symm OK9K10.out))
                    refine hK.out _ _ ?_ (fun hHeld2 => ?_)
                    · exact ⟨btouch hHeld.1 htK9 LK9.out, (hHeld.2.1).touch htK9 OSIK9.out, (hHeld.2.2.1).touch htK9 OTIK9.out, (hHeld.2.2.2.1).touch htK9 OCIK9.out, (hHeld.2.2.2.2.1).touch htK9 OK3K9.out, trivial⟩
                    clear hK K hHeld
                    have hHeld := hHeld2
                    clear hHeld2
                    try simp only [Act.put]
                    clear nK9 htK9
                    try simp only [List.setIfInBounds_toArray, List.set_cons_zero, List.set_cons_succ]
                    refine wpAnyH_ready (rs := [9]) (by kernel_rfl) (by simp) ?_
                    refine AllReadyH.cons (at_list rfl) (fun K hK => ?_) AllReadyH.nil
                    refine step_fill (by rfl) 34 _ _ rfl gK10 (chA ⟨recv r s, true⟩) rfl rfl K10.out (by kernel_rfl) (by kernel_rfl) (by kernel_rfl) ?_
                    intro vK100 nK10 htK10
                    replace K10 := Lib.hid nK10
                    replace K9 := Lib.hid ((K9.out).touch htK10 OK9K10.out)
                    refine hK.out _ _ ?_ (fun hHeld2 => ?_)
                    · exact ⟨btouch hHeld.1 htK10 LK10.out, (hHeld.2.1).touch htK10 OSIK10.out, (hHeld.2.2.1).touch htK10 OTIK10.out, (hHeld.2.2.2.1).touch htK10 OCIK10.out, (hHeld.2.2.2.2.1).touch htK10 OK3K10.out, trivial⟩
                    clear hK K hHeld
                    have hHeld := hHeld2
                    clear hHeld2
                    try simp only [Act.put]
                    clear nK10 htK10
                    try simp only [List.setIfInBounds_toArray, List.set_cons_zero, List.set_cons_succ]
                    refine wpAnyH_done (by kernel_rfl) ?_ _
                    have HB := Lib.hid hHeld.1
                    have SI := Lib.hid hHeld.2.1
                    have TI := Lib.hid hHeld.2.2.1
                    have CI := Lib.hid hHeld.2.2.2.1
                    have K3 := Lib.hid hHeld.2.2.2.2.1
                    clear hHeld
                    go_wp2_with fail
                    go_meet
                    exact ⟨_, _, rfl, rfl, K9, K10, SI, CI, HB⟩
                  exact AllReadyH.nil
                exact AllReadyH.nil
              exact AllReadyH.nil
            refine AllReadyH.cons (at_list rfl) (fun K hK => ?_) ?_
            · refine step_alloc (by rfl) 34 rfl (chA zeroCh) (by kernel_rfl) ?_
              intro gK10 wK10 hlK10 nK10 hbK10
              have K10 := Lib.hid nK10
              have LK10 := Lib.hid (Nat.le_trans (hHeld.1).size hlK10)
              have OSIK10 := Lib.hid ((hHeld.2.1).off hlK10)
              have OTIK10 := Lib.hid ((hHeld.2.2.1).off hlK10)
              have OCIK10 := Lib.hid ((hHeld.2.2.2.1).off hlK10)
              have OK3K10 := Lib.hid ((hHeld.2.2.2.2.1).off hlK10)
              refine hK.out _ _ ?_ (fun hHeld2 => ?_)
              · exact ⟨bstep hHeld.1 hbK10, (hHeld.2.1).keptB hbK10, (hHeld.2.2.1).keptB hbK10, (hHeld.2.2.2.1).keptB hbK10, (hHeld.2.2.2.2.1).keptB hbK10, trivial⟩
              clear hK K hHeld
              have hHeld := hHeld2
              clear hHeld2
              try simp only [Act.put]
              clear hlK10 nK10 hbK10
              try simp only [List.setIfInBounds_toArray, List.set_cons_zero, List.set_cons_succ]
              refine wpAnyH_ready (rs := [2, 6]) (by kernel_rfl) (by simp) ?_
              refine AllReadyH.cons (at_list rfl) (fun K hK => ?_) ?_
              · go_simp
                refine (pport9_any (some ⟨g, o, none⟩) j c l r _ HO.out (by omega) HR.out (hHeld.2.1)).mono ?_
                rintro e v1 ⟨rfl, hv1⟩
                rw [HP.out]
                replace K10 := Lib.hid ((K10.out).keptB hv1)
                go_wp2_with fail
                refine hK.out _ _ ?_ (fun hHeld2 => ?_)
                · exact ⟨bstep hHeld.1 hv1, (hHeld.2.1).keptB hv1, (hHeld.2.2.1).keptB hv1, (hHeld.2.2.2.1).keptB hv1, (hHeld.2.2.2.2.1).keptB hv1, trivial⟩
                clear hK K hHeld
                have hHeld := hHeld2
                clear hHeld2 hv1
                try simp only [Act.put, List.setIfInBounds_toArray, List.set_cons_zero, List.set_cons_succ]
                refine wpAnyH_ready (rs := [5, 6]) (by kernel_rfl) (by simp) ?_
                refine AllReadyH.cons (at_list rfl) (fun K hK => ?_) ?_
                · go_simp
                  refine (pport9_any A3 n3 c3 l.reverse r _ (fun s hs => HO.out s (List.mem_reverse.1 hs)) (by have := HN3.out; omega) HR.out (hHeld.2.2.1)).mono ?_
                  rintro e v2 ⟨rfl, hv2⟩
                  rw [HQ.out]
                  replace K10 := Lib.hid ((K10.out).keptB hv2)
                  go_wp2_with fail
                  refine hK.out _ _ ?_ (fun hHeld2 => ?_)
                  · exact ⟨bstep hHeld.1 hv2, (hHeld.2.1).keptB hv2, (hHeld.2.2.1).keptB hv2, (hHeld.2.2.2.1).keptB hv2, (hHeld.2.2.2.2.1).keptB hv2, trivial⟩
                  clear hK K hHeld
                  have hHeld := hHeld2
                  clear hHeld2 hv2
                  try simp only [Act.put, List.setIfInBounds_toArray, List.set_cons_zero, List.set_cons_succ]
                  refine wpAnyH_ready (rs := [6]) (by kernel_rfl) (by simp) ?_
                  refine AllReadyH.cons (at_list rfl) (fun K hK => ?_) ?_
                  · refine step_alloc (by rfl) 34 rfl (chA zeroCh) (by kernel_rfl) ?_
                    intro gK9 wK9 hlK9 nK9 hbK9
                    have K9 := Lib.hid nK9
                    have LK9 := Lib.hid (Nat.le_trans (hHeld.1).size hlK9)
                    have OSIK9 := Lib.hid ((hHeld.2.1).off hlK9)
                    have OTIK9 := Lib.hid ((hHeld.2.2.1).off hlK9)
                    have OCIK9 := Lib.hid ((hHeld.2.2.2.1).off hlK9)
                    have OK3K9 := Lib.hid ((hHeld.2.2.2.2.1).off hlK9)
                    have OK10K9 := Lib.hid ((K10.out).off hlK9)
                    replace K10 := Lib.hid ((K10.out).keptB hbK9)
                    refine hK.out _ _ ?_ (fun hHeld2 => ?_)
                    · exact ⟨bstep hHeld.1 hbK9, (hHeld.2.1).keptB hbK9, (hHeld.2.2.1).keptB hbK9, (hHeld.2.2.2.1).keptB hbK9, (hHeld.2.2.2.2.1).keptB hbK9, trivial⟩
                    clear hK K hHeld
                    have hHeld := hHeld2
                    clear hHeld2
                    try simp only [Act.put]
                    clear hlK9 nK9 hbK9
                    try simp only [List.setIfInBounds_toArray, List.set_cons_zero, List.set_cons_succ]
                    refine wpAnyH_ready (rs := [8]) (by kernel_rfl) (by simp) ?_
                    refine AllReadyH.cons (at_list rfl) (fun K hK => ?_) AllReadyH.nil
                    refine step_fill (by rfl) 34 _ _ rfl gK9 (chA ⟨recv r s, true⟩) rfl rfl K9.out (by kernel_rfl) (by kernel_rfl) (by kernel_rfl) ?_
                    intro vK90 nK9 htK9
                    replace K9 := Lib.hid nK9
                    replace K10 := Lib.hid ((K10.out).touch htK9 OK10K9.out)
                    refine hK.out _ _ ?_ (fun hHeld2 => ?_)
                    · exact ⟨btouch hHeld.1 htK9 LK9.out, (hHeld.2.1).touch htK9 OSIK9.out, (hHeld.2.2.1).touch htK9 OTIK9.out, (hHeld.2.2.2.1).touch htK9 OCIK9.out, (hHeld.2.2.2.2.1).touch htK9 OK3K9.out, trivial⟩
                    clear hK K hHeld
                    have hHeld := hHeld2
                    clear hHeld2
                    try simp only [Act.put]
                    clear nK9 htK9
                    try simp only [List.setIfInBounds_toArray, List.set_cons_zero, List.set_cons_succ]
                    refine wpAnyH_ready (rs := [9]) (by kernel_rfl) (by simp) ?_
                    refine AllReadyH.cons (at_list rfl) (fun K hK => ?_) AllReadyH.nil
                    refine step_fill (by rfl) 34 _ _ rfl gK10 (chA ⟨recv r s, true⟩) rfl rfl K10.out (by kernel_rfl) (by kernel_rfl) (by kernel_rfl) ?_
                    intro vK100 nK10 htK10
                    replace K10 := Lib.hid nK10
                    replace K9 := Lib.hid ((K9.out).touch htK10 (Ne.symm OK10K9.out))
                    refine hK.out _ _ ?_ (fun hHeld2 => ?_)
                    · exact ⟨btouch hHeld.1 htK10 LK10.out, (hHeld.2.1).touch htK10 OSIK10.out, (hHeld.2.2.1).touch htK10 OTIK10.out, (hHeld.2.2.2.1).touch htK10 OCIK10.out, (hHeld.2.2.2.2.1).touch htK10 OK3K10.out, trivial⟩
                    clear hK K hHeld
                    have hHeld := hHeld2
                    clear hHeld2
                    try simp only [Act.put]
                    clear nK10 htK10
                    try simp only [List.setIfInBounds_toArray, List.set_cons_zero, List.set_cons_succ]
                    refine wpAnyH_done (by kernel_rfl) ?_ _
                    have HB := Lib.hid hHeld.1
                    have SI := Lib.hid hHeld.2.1
                    have TI := Lib.hid hHeld.2.2.1
                    have CI := Lib.hid hHeld.2.2.2.1
                    have K3 := Lib.hid hHeld.2.2.2.2.1
                    clear hHeld
                    go_wp2_with fail
                    go_meet
                    exact ⟨_, _, rfl, rfl, K9, K10, SI, CI, HB⟩
                  exact AllReadyH.nil
                refine AllReadyH.cons (at_list rfl) (fun K hK => ?_) ?_
                · refine step_alloc (by rfl) 34 rfl (chA zeroCh) (by kernel_rfl) ?_
                  intro gK9 wK9 hlK9 nK9 hbK9
                  have K9 := Lib.hid nK9
                  have LK9 := Lib.hid (Nat.le_trans (hHeld.1).size hlK9)
                  have OSIK9 := Lib.hid ((hHeld.2.1).off hlK9)
                  have OTIK9 := Lib.hid ((hHeld.2.2.1).off hlK9)
                  have OCIK9 := Lib.hid ((hHeld.2.2.2.1).off hlK9)
                  have OK3K9 := Lib.hid ((hHeld.2.2.2.2.1).off hlK9)
                  have OK10K9 := Lib.hid ((K10.out).off hlK9)
                  replace K10 := Lib.hid ((K10.out).keptB hbK9)
                  refine hK.out _ _ ?_ (fun hHeld2 => ?_)
                  · exact ⟨bstep hHeld.1 hbK9, (hHeld.2.1).keptB hbK9, (hHeld.2.2.1).keptB hbK9, (hHeld.2.2.2.1).keptB hbK9, (hHeld.2.2.2.2.1).keptB hbK9, trivial⟩
                  clear hK K hHeld
                  have hHeld := hHeld2
                  clear hHeld2
                  try simp only [Act.put]
                  clear hlK9 nK9 hbK9
                  try simp only [List.setIfInBounds_toArray, List.set_cons_zero, List.set_cons_succ]
                  refine wpAnyH_ready (rs := [5]) (by kernel_rfl) (by simp) ?_
                  refine AllReadyH.cons (at_list rfl) (fun K hK => ?_) ?_
                  · go_simp
                    refine (pport9_any A3 n3 c3 l.reverse r _ (fun s hs => HO.out s (List.mem_reverse.1 hs)) (by have := HN3.out; omega) HR.out (hHeld.2.2.1)).mono ?_
                    rintro e v2 ⟨rfl, hv2⟩
                    rw [HQ.out]
                    replace K10 := Lib.hid ((K10.out).keptB hv2)
                    replace K9 := Lib.hid ((K9.out).keptB hv2)
                    go_wp2_with fail
                    refine hK.out _ _ ?_ (fun hHeld2 => ?_)
                    · exact ⟨bstep hHeld.1 hv2, (hHeld.2.1).keptB hv2, (hHeld.2.2.1).keptB hv2, (hHeld.2.2.2.1).keptB hv2, (hHeld.2.2.2.2.1).keptB hv2, trivial⟩
                    clear hK K hHeld
                    have hHeld := hHeld2
                    clear hHeld2 hv2
                    try simp only [Act.put, List.setIfInBounds_toArray, List.set_cons_zero, List.set_cons_succ]
                    refine wpAnyH_ready (rs := [8]) (by kernel_rfl) (by simp) ?_
                    refine AllReadyH.cons (at_list rfl) (fun K hK => ?_) AllReadyH.nil
                    refine step_fill (by rfl) 34 _ _ rfl gK9 (chA ⟨recv r s, true⟩) rfl rfl K9.out (by kernel_rfl) (by kernel_rfl) (by kernel_rfl) ?_
                    intro vK90 nK9 htK9
                    replace K9 := Lib.hid nK9
                    replace K10 := Lib.hid ((K10.out).touch htK9 OK10K9.out)
                    refine hK.out _ _ ?_ (fun hHeld2 => ?_)
                    · exact ⟨btouch hHeld.1 htK9 LK9.out, (hHeld.2.1).touch htK9 OSIK9.out, (hHeld.2.2.1).touch htK9 OTIK9.out, (hHeld.2.2.2.1).touch htK9 OCIK9.out, (hHeld.2.2.2.2.1).touch htK9 OK3K9.out, trivial⟩
                    clear hK K hHeld
                    have hHeld := hHeld2
                    clear hHeld2
                    try simp only [Act.put]
                    clear nK9 htK9
                    try simp only [List.setIfInBounds_toArray, List.set_cons_zero, List.set_cons_succ]
                    refine wpAnyH_ready (rs := [9]) (by kernel_rfl) (by simp) ?_
                    refine AllReadyH.cons (at_list rfl) (fun K hK => ?_) AllReadyH.nil
                    refine step_fill (by rfl) 34 _ _ rfl gK10 (chA ⟨recv r s, true⟩) rfl rfl K10.out (by kernel_rfl) (by kernel_rfl) (by kernel_rfl) ?_
                    intro vK100 nK10 htK10
                    replace K10 := Lib.hid nK10
                    replace K9 := Lib.hid ((K9.out).touch htK10 (Ne.symm OK10K9.out))
                    refine hK.out _ _ ?_ (fun hHeld2 => ?_)
                    · exact ⟨btouch hHeld.1 htK10 LK10.out, (hHeld.2.1).touch htK10 OSIK10.out, (hHeld.2.2.1).touch htK10 OTIK10.out, (hHeld.2.2.2.1).touch htK10 OCIK10.out, (hHeld.2.2.2.2.1).touch htK10 OK3K10.out, trivial⟩
                    clear hK K hHeld
                    have hHeld := hHeld2
                    clear hHeld2
                    try simp only [Act.put]
                    clear nK10 htK10
                    try simp only [List.setIfInBounds_toArray, List.set_cons_zero, List.set_cons_succ]
                    refine wpAnyH_done (by kernel_rfl) ?_ _
                    have HB := Lib.hid hHeld.1
                    have SI := Lib.hid hHeld.2.1
                    have TI := Lib.hid hHeld.2.2.1
                    have CI := Lib.hid hHeld.2.2.2.1
                    have K3 := Lib.hid hHeld.2.2.2.2.1
                    clear hHeld
                    go_wp2_with fail
                    go_meet
                    exact ⟨_, _, rfl, rfl, K9, K10, SI, CI, HB⟩
                  exact AllReadyH.nil
                exact AllReadyH.nil
              refine AllReadyH.cons (at_list rfl) (fun K hK => ?_) ?_
              · refine step_alloc (by rfl) 34 rfl (chA zeroCh) (by kernel_rfl) ?_
                intro gK9 wK9 hlK9 nK9 hbK9
                have K9 := Lib.hid nK9
                have LK9 := Lib.hid (Nat.le_trans (hHeld.1).size hlK9)
                have OSIK9 := Lib.hid ((hHeld.2.1).off hlK9)
                have OTIK9 := Lib.hid ((hHeld.2.2.1).off hlK9)
                have OCIK9 := Lib.hid ((hHeld.2.2.2.1).off hlK9)
                have OK3K9 := Lib.hid ((hHeld.2.2.2.2.1).off hlK9)
                have OK10K9 := Lib.hid ((K10.out).off hlK9)
                replace K10 := Lib.hid ((K10.out).keptB hbK9)
                refine hK.out _ _ ?_ (fun hHeld2 => ?_)
                · exact ⟨bstep hHeld.1 hbK9, (hHeld.2.1).keptB hbK9, (hHeld.2.2.1).keptB hbK9, (hHeld.2.2.2.1).keptB hbK9, (hHeld.2.2.2.2.1).keptB hbK9, trivial⟩
                clear hK K hHeld
                have hHeld := hHeld2
                clear hHeld2
                try simp only [Act.put]
                clear hlK9 nK9 hbK9
                try simp only [List.setIfInBounds_toArray, List.set_cons_zero, List.set_cons_succ]
                refine wpAnyH_ready (rs := [2]) (by kernel_rfl) (by simp) ?_
                refine AllReadyH.cons (at_list rfl) (fun K hK => ?_) ?_
                · go_simp
                  refine (pport9_any (some ⟨g, o, none⟩) j c l r _ HO.out (by omega) HR.out (hHeld.2.1)).mono ?_
                  rintro e v1 ⟨rfl, hv1⟩
                  rw [HP.out]
                  replace K10 := Lib.hid ((K10.out).keptB hv1)
                  replace K9 := Lib.hid ((K9.out).keptB hv1)
                  go_wp2_with fail
                  refine hK.out _ _ ?_ (fun hHeld2 => ?_)
                  · exact ⟨bstep hHeld.1 hv1, (hHeld.2.1).keptB hv1, (hHeld.2.2.1).keptB hv1, (hHeld.2.2.2.1).keptB hv1, (hHeld.2.2.2.2.1).keptB hv1, trivial⟩
                  clear hK K hHeld
                  have hHeld := hHeld2
                  clear hHeld2 hv1
                  try simp only [Act.put, List.setIfInBounds_toArray, List.set_cons_zero, List.set_cons_succ]
                  refine wpAnyH_ready (rs := [5]) (by kernel_rfl) (by simp) ?_
                  refine AllReadyH.cons (at_list rfl) (fun K hK => ?_) ?_
                  · go_simp
                    refine (pport9_any A3 n3 c3 l.reverse r _ (fun s hs => HO.out s (List.mem_reverse.1 hs)) (by have := HN3.out; omega) HR.out (hHeld.2.2.1)).mono ?_
                    rintro e v2 ⟨rfl, hv2⟩
                    rw [HQ.out]
                    replace K10 := Lib.hid ((K10.out).keptB hv2)
                    replace K9 := Lib.hid ((K9.out).keptB hv2)
                    go_wp2_with fail
                    refine hK.out _ _ ?_ (fun hHeld2 => ?_)
                    · exact ⟨bstep hHeld.1 hv2, (hHeld.2.1).keptB hv2, (hHeld.2.2.1).keptB hv2, (hHeld.2.2.2.1).keptB hv2, (hHeld.2.2.2.2.1).keptB hv2, trivial⟩
                    clear hK K hHeld
                    have hHeld := hHeld2
                    clear hHeld2 hv2
                    try simp only [Act.put, List.setIfInBounds_toArray, List.set_cons_zero, List.set_cons_succ]
                    refine wpAnyH_ready (rs := [8]) (by kernel_rfl) (by simp) ?_
                    refine AllReadyH.cons (at_list rfl) (fun K hK => ?_) AllReadyH.nil
                    refine step_fill (by rfl) 34 _ _ rfl gK9 (chA ⟨recv r s, true⟩) rfl rfl K9.out (by kernel_rfl) (by kernel_rfl) (by kernel_rfl) ?_
                    intro vK90 nK9 htK9
                    replace K9 := Lib.hid nK9
                    replace K10 := Lib.hid ((K10.out).touch htK9 OK10K9.out)
                    refine hK.out _ _ ?_ (fun hHeld2 => ?_)
                    · exact ⟨btouch hHeld.1 htK9 LK9.out, (hHeld.2.1).touch htK9 OSIK9.out, (hHeld.2.2.1).touch htK9 OTIK9.out, (hHeld.2.2.2.1).touch htK9 OCIK9.out, (hHeld.2.2.2.2.1).touch htK9 OK3K9.out, trivial⟩
                    clear hK K hHeld
                    have hHeld := hHeld2
                    clear hHeld2
                    try simp only [Act.put]
                    clear nK9 htK9
                    try simp only [List.setIfInBounds_toArray, List.set_cons_zero, List.set_cons_succ]
                    refine wpAnyH_ready (rs := [9]) (by kernel_rfl) (by simp) ?_
                    refine AllReadyH.cons (at_list rfl) (fun K hK => ?_) AllReadyH.nil
                    refine step_fill (by rfl) 34 _ _ rfl gK10 (chA ⟨recv r s, true⟩) rfl rfl K10.out (by kernel_rfl) (by kernel_rfl) (by kernel_rfl) ?_
                    intro vK100 nK10 htK10
                    replace K10 := Lib.hid nK10
                    replace K9 := Lib.hid ((K9.out).touch htK10 (Ne.symm OK10K9.out))
                    refine hK.out _ _ ?_ (fun hHeld2 => ?_)
                    · exact ⟨btouch hHeld.1 htK10 LK10.out, (hHeld.2.1).touch htK10 OSIK10.out, (hHeld.2.2.1).touch htK10 OTIK10.out, (hHeld.2.2.2.1).touch htK10 OCIK10.out, (hHeld.2.2.2.2.1).touch htK10 OK3K10.out, trivial⟩
                    clear hK K hHeld
                    have hHeld := hHeld2
                    clear hHeld2
                    try simp only [Act.put]
                    clear nK10 htK10
                    try simp only [List.setIfInBounds_toArray, List.set_cons_zero, List.set_cons_succ]
                    refine wpAnyH_done (by kernel_rfl) ?_ _
                    have HB := Lib.hid hHeld.1
                    have SI := Lib.hid hHeld.2.1
                    have TI := Lib.hid hHeld.2.2.1
                    have CI := Lib.hid hHeld.2.2.2.1
                    have K3 := Lib.hid hHeld.2.2.2.2.1
                    clear hHeld
                    go_wp2_with fail
                    go_meet
                    exact ⟨_, _, rfl, rfl, K9, K10, SI, CI, HB⟩
                  exact AllReadyH.nil
                exact AllReadyH.nil
              exact AllReadyH.nil
            exact AllReadyH.nil
          case rest =>
            clear SI TI CI K3 HB
            obtain ⟨gK9, gK10, rfl, rfl, K9, K10, SI, CI, HB⟩ := hcut
            go_wp2_with fail
            refine (pall9_in _ (pairL l) _ (by intro x hx; rcases pairL_mem hx with rfl | ⟨s2, hs2, rfl⟩; exact zeroR9_ok; exact HO.out s2 hs2) (by rw [pairL_len, HLN.out]; omega) CI.out).mono ?_
            rintro e c1 ⟨rfl, hc1⟩
            replace K9 := Lib.hid ((K9.out).keptB hc1)
            replace K10 := Lib.hid ((K10.out).keptB hc1)
            replace SI := Lib.hid ((SI.out).keptB hc1)
            replace CI := Lib.hid ((CI.out).keptB hc1)
            replace HB := Lib.hid (bstep HB.out hc1)
            clear hc1
            rw [HAL.out]
            go_wp2
            have hkj : k < j := by have := (List.getElem?_eq_some_iff.1 HKS.out).1; rw [HLN.out] at this; exact this
            have HKK := Lib.hid hkj
            obtain ⟨g4, o4, hA4⟩ : ∃ g4 o4, A4 = some ⟨g4, o4, none⟩ := by
              obtain ⟨_, _, _, h1, _, h3⟩ := CI.out
              cases h1
              obtain ⟨g, o, h4, _⟩ := h3 (by have := HN4.out; omega)
              exact ⟨g, o, h4⟩
            subst hA4
            have HPA : Hid ((pairL l)[2 * k + 1]? = some ⟨s, true⟩) := by rw [Hid, (pairL_at l k).2, HKS.out]; rfl
            have HK4 : Hid (2 * k + 1 < n4) := by have := HN4.out; rw [Hid]; omega
            have hn4 := HN4.out
            refine wp_region_noPanic ?_
            refine wp_region_held_drew (S := fun v => Below w.heap.size w v ∧ Holds v gK9 34 (chA ⟨recv r s, true⟩) ∧ Holds v gK10 34 (chA ⟨recv r s, true⟩) ∧ SetsIn v (.slice (some ⟨g, o, none⟩) j c) l ∧ ChsIn v (.slice (some ⟨g4, o4, none⟩) n4 c4) (pairL l) ∧ True) (by kernel_rfl) ?_ (fun hHeld => ?_)
            · exact ⟨bdrew HB.out, (K9.out).drew, (K10.out).drew, (SI.out).drew, (CI.out).drew, trivial⟩
            clear HB K9 K10 SI CI
            refine wpAnyH_take (i := 0) (v := .agg (chA ⟨recv r s, true⟩)) (at_list rfl) (by kernel_rfl) (by kernel_rfl) (by kernel_rfl) (fun _ _ _ h => h) (yields_whole (by rfl) 34 _ rfl gK9 rfl (fun v hv => hv.2.1) Try.underlying34 rfl (by kernel_rfl)) hHeld ?_
            try simp only [Act.put, List.setIfInBounds_toArray, List.set_cons_zero, List.set_cons_succ]
            refine wpAnyH_take (i := 1) (v := .agg (chA ⟨recv r s, true⟩)) (at_list rfl) (by kernel_rfl) (by kernel_rfl) (by kernel_rfl) (fun _ _ _ h => h) (yields_whole (by rfl) 34 _ rfl gK10 rfl (fun v hv => hv.2.2.1) Try.underlying34 rfl (by kernel_rfl)) hHeld ?_
            try simp only [Act.put, List.setIfInBounds_toArray, List.set_cons_zero, List.set_cons_succ]
            refine wpAnyH_take (i := 2) (v := .bool false) (at_list rfl) (by kernel_rfl) (by kernel_rfl) (by kernel_rfl) (fun _ _ _ h => h) (yields_cmp (by rfl) .neq 34 _ _ _ rfl (chA ⟨recv r s, true⟩) (chA ⟨recv r s, true⟩) rfl rfl (by kernel_rfl) false (fun v => (neq_pch ⟨recv r s, true⟩ ⟨recv r s, true⟩ v).trans (by rw [eqH9_self]; rfl))) hHeld ?_
            try simp only [Act.put, List.setIfInBounds_toArray, List.set_cons_zero, List.set_cons_succ]
            refine wpAnyH_take (i := 3) (v := .bool false) (at_list rfl) (by kernel_rfl) (by kernel_rfl) (by kernel_rfl) (fun _ _ _ h => h) (Or.inl ⟨by rfl, ?_⟩) hHeld ?_
            · intro v hSv
              clear hHeld
              go_simp
            try simp only [Act.put, List.setIfInBounds_toArray, List.set_cons_zero, List.set_cons_succ]
            refine wpAnyH_take (i := 4) (v := .pointer (some ⟨gK9, 32, none⟩)) (at_list rfl) (by kernel_rfl) (by kernel_rfl) (by kernel_rfl) (fun _ _ _ h => h) (Or.inl ⟨by rfl, ?_⟩) hHeld ?_
            · intro v hSv
              clear hHeld
              go_simp
            try simp only [Act.put, List.setIfInBounds_toArray, List.set_cons_zero, List.set_cons_succ]
            refine wpAnyH_take (i := 5) (v := .bool true) (at_list rfl) (by kernel_rfl) (by kernel_rfl) (by kernel_rfl) (fun _ _ _ h => h) (Or.inl ⟨by rfl, ?_⟩) hHeld ?_
            · intro v hSv
              clear hHeld
              have q := Holds.reads (hSv.2.1) (i := 32) (x := .bool true) rfl
              clear hSv
              go_simp
            try simp only [Act.put, List.setIfInBounds_toArray, List.set_cons_zero, List.set_cons_succ]
            refine wpAnyH_take (i := 6) (v := .bool false) (at_list rfl) (by kernel_rfl) (by kernel_rfl) (by kernel_rfl) (fun _ _ _ h => h) (Or.inl ⟨by rfl, ?_⟩) hHeld ?_
            · intro v hSv
              clear hHeld
              go_simp
            try simp only [Act.put, List.setIfInBounds_toArray, List.set_cons_zero, List.set_cons_succ]
            refine wpAnyH_take (i := 7) (v := .bool false) (at_list rfl) (by kernel_rfl) (by kernel_rfl) (by kernel_rfl) (fun _ _ _ h => h) (Or.inl ⟨by rfl, ?_⟩) hHeld ?_
            · intro v hSv
              clear hHeld
              go_simp
            try simp only [Act.put, List.setIfInBounds_toArray, List.set_cons_zero, List.set_cons_succ]
            refine wpAnyH_take (i := 8) (v := .bool false) (at_list rfl) (by kernel_rfl) (by kernel_rfl) (by kernel_rfl) (fun _ _ _ h => h) (Or.inl ⟨by rfl, ?_⟩) hHeld ?_
            · intro v hSv
              clear hHeld
              go_simp
            try simp only [Act.put, List.setIfInBounds_toArray, List.set_cons_zero, List.set_cons_succ]
            refine wpAnyH_take (i := 9) (v := .int .i64 (2 * (k : Int) + 1)) (at_list rfl) (by kernel_rfl) (by kernel_rfl) (by kernel_rfl) (fun _ _ _ h => h) (Or.inl ⟨by rfl, ?_⟩) hHeld ?_
            · intro v hSv
              clear hHeld
              go_simp
            try simp only [Act.put, List.setIfInBounds_toArray, List.set_cons_zero, List.set_cons_succ]
            refine wpAnyH_take (i := 10) (v := .bool false) (at_list rfl) (by kernel_rfl) (by kernel_rfl) (by kernel_rfl) (fun _ _ _ h => h) (Or.inl ⟨by rfl, ?_⟩) hHeld ?_
            · intro v hSv
              clear hHeld
              go_simp
              all_goals omega
            try simp only [Act.put, List.setIfInBounds_toArray, List.set_cons_zero, List.set_cons_succ]
            refine wpAnyH_take (i := 11) (v := .bool false) (at_list rfl) (by kernel_rfl) (by kernel_rfl) (by kernel_rfl) (fun _ _ _ h => h) (Or.inl ⟨by rfl, ?_⟩) hHeld ?_
            · intro v hSv
              clear hHeld
              go_simp
            try simp only [Act.put, List.setIfInBounds_toArray, List.set_cons_zero, List.set_cons_succ]
            refine wpAnyH_take (i := 12) (v := .bool false) (at_list rfl) (by kernel_rfl) (by kernel_rfl) (by kernel_rfl) (fun _ _ _ h => h) (Or.inl ⟨by rfl, ?_⟩) hHeld ?_
            · intro v hSv
              clear hHeld
              go_simp
            try simp only [Act.put, List.setIfInBounds_toArray, List.set_cons_zero, List.set_cons_succ]
            refine wpAnyH_take (i := 13) (v := .int .i64 (2 * (k : Int) + 1)) (at_list rfl) (by kernel_rfl) (by kernel_rfl) (by kernel_rfl) (fun _ _ _ h => h) (Or.inl ⟨by rfl, ?_⟩) hHeld ?_
            · intro v hSv
              clear hHeld
              go_simp
            try simp only [Act.put, List.setIfInBounds_toArray, List.set_cons_zero, List.set_cons_succ]
            refine wpAnyH_take (i := 14) (v := .slice (some ⟨g4, o4, none⟩) n4 c4) (at_list rfl) (by kernel_rfl) (by kernel_rfl) (by kernel_rfl) (fun _ _ _ h => h) (Or.inl ⟨by rfl, ?_⟩) hHeld ?_
            · intro v hSv
              clear hHeld
              go_simp
            try simp only [Act.put, List.setIfInBounds_toArray, List.set_cons_zero, List.set_cons_succ]
            refine wpAnyH_take (i := 15) (v := .int .i64 n4) (at_list rfl) (by kernel_rfl) (by kernel_rfl) (by kernel_rfl) (fun _ _ _ h => h) (Or.inl ⟨by rfl, ?_⟩) hHeld ?_
            · intro v hSv
              clear hHeld
              go_simp
            try simp only [Act.put, List.setIfInBounds_toArray, List.set_cons_zero, List.set_cons_succ]
            refine wpAnyH_take (i := 16) (v := .bool false) (at_list rfl) (by kernel_rfl) (by kernel_rfl) (by kernel_rfl) (fun _ _ _ h => h) (Or.inl ⟨by rfl, ?_⟩) hHeld ?_
            · intro v hSv
              clear hHeld
              go_simp
              all_goals omega
            try simp only [Act.put, List.setIfInBounds_toArray, List.set_cons_zero, List.set_cons_succ]
            refine wpAnyH_take (i := 17) (v := .bool false) (at_list rfl) (by kernel_rfl) (by kernel_rfl) (by kernel_rfl) (fun _ _ _ h => h) (Or.inl ⟨by rfl, ?_⟩) hHeld ?_
            · intro v hSv
              clear hHeld
              go_simp
            try simp only [Act.put, List.setIfInBounds_toArray, List.set_cons_zero, List.set_cons_succ]
            refine wpAnyH_take (i := 18) (v := .bool false) (at_list rfl) (by kernel_rfl) (by kernel_rfl) (by kernel_rfl) (fun _ _ _ h => h) (Or.inl ⟨by rfl, ?_⟩) hHeld ?_
            · intro v hSv
              clear hHeld
              go_simp
            try simp only [Act.put, List.setIfInBounds_toArray, List.set_cons_zero, List.set_cons_succ]
            refine wpAnyH_take (i := 19) (v := .slice (some ⟨g4, o4, none⟩) n4 c4) (at_list rfl) (by kernel_rfl) (by kernel_rfl) (by kernel_rfl) (fun _ _ _ h => h) (Or.inl ⟨by rfl, ?_⟩) hHeld ?_
            · intro v hSv
              clear hHeld
              go_simp
            try simp only [Act.put, List.setIfInBounds_toArray, List.set_cons_zero, List.set_cons_succ]
            refine wpAnyH_take (i := 20) (v := .int .i64 ((2 * k + 1 : Nat) : Int)) (at_list rfl) (by kernel_rfl) (by kernel_rfl) (by kernel_rfl) (fun _ _ _ h => h) (Or.inl ⟨by rfl, ?_⟩) hHeld ?_
            · intro v hSv
              clear hHeld
              go_simp
              all_goals (push_cast; rfl)
            try simp only [Act.put, List.setIfInBounds_toArray, List.set_cons_zero, List.set_cons_succ]
            refine wpAnyH_take (i := 21) (v := .pointer (some ⟨g4, o4 + (2 * k + 1) * 33, none⟩)) (at_list rfl) (by kernel_rfl) (by kernel_rfl) (by kernel_rfl) (fun _ _ _ h => h) (yields_index (by rfl) 40 _ _ rfl g4 o4 n4 c4 (2 * k + 1) 33 rfl rfl HK4.out Try.underlying40 (by kernel_rfl)) hHeld ?_
            try simp only [Act.put, List.setIfInBounds_toArray, List.set_cons_zero, List.set_cons_succ]
            refine wpAnyH_take (i := 22) (v := .pointer (some ⟨g4, o4 + (2 * k + 1) * 33, none⟩)) (at_list rfl) (by kernel_rfl) (by kernel_rfl) (by kernel_rfl) (fun _ _ _ h => h) (Or.inl ⟨by rfl, ?_⟩) hHeld ?_
            · intro v hSv
              clear hHeld
              go_simp
            try simp only [Act.put, List.setIfInBounds_toArray, List.set_cons_zero, List.set_cons_succ]
            refine wpAnyH_take (i := 23) (v := .pointer (some ⟨g4, o4 + (2 * k + 1) * 33 + 5, none⟩)) (at_list rfl) (by kernel_rfl) (by kernel_rfl) (by kernel_rfl) (fun _ _ _ h => h) (Or.inl ⟨by rfl, ?_⟩) hHeld ?_
            · intro v hSv
              clear hHeld
              go_simp
            try simp only [Act.put, List.setIfInBounds_toArray, List.set_cons_zero, List.set_cons_succ]
            refine wpAnyH_take (i := 24) (v := .agg #[.int .u8 s.gr.b0, .int .u8 s.gr.b1, .int .u8 s.gr.b2, .int .u8 s.gr.b3, .int .u8 s.gr.b4, .int .u8 s.gr.b5, .int .u8 s.gr.b6, .int .u8 s.gr.b7]) (at_list rfl) (by kernel_rfl) (by kernel_rfl) (by kernel_rfl) (fun _ _ _ h => h) (yieldsIf_load_mid (by rfl) 24 _ rfl g4 (o4 + (2 * k + 1) * 33 + 5) rfl [.int .u8 s.gr.b0, .int .u8 s.gr.b1, .int .u8 s.gr.b2, .int .u8 s.gr.b3, .int .u8 s.gr.b4, .int .u8 s.gr.b5, .int .u8 s.gr.b6, .int .u8 s.gr.b7] _ (fun v hv => range_sub (ch_in (hv.2.2.2.2.1) HPA.out) rfl) Try.underlying24 rfl (by kernel_rfl)) hHeld ?_
            try simp only [Act.put, List.setIfInBounds_toArray, List.set_cons_zero, List.set_cons_succ]
            refine wpAnyH_take (i := 25) (v := .pointer (some ⟨gK9, 0, none⟩)) (at_list rfl) (by kernel_rfl) (by kernel_rfl) (by kernel_rfl) (fun _ _ _ h => h) (Or.inl ⟨by rfl, ?_⟩) hHeld ?_
            · intro v hSv
              clear hHeld
              go_simp
            try simp only [Act.put, List.setIfInBounds_toArray, List.set_cons_zero, List.set_cons_succ]
            refine wpAnyH_take (i := 26) (v := .pointer (some ⟨gK9, 5, none⟩)) (at_list rfl) (by kernel_rfl) (by kernel_rfl) (by kernel_rfl) (fun _ _ _ h => h) (Or.inl ⟨by rfl, ?_⟩) hHeld ?_
            · intro v hSv
              clear hHeld
              go_simp
            try simp only [Act.put, List.setIfInBounds_toArray, List.set_cons_zero, List.set_cons_succ]
            refine wpAnyH_take (i := 27) (v := .agg #[.int .u8 s.gr.b0, .int .u8 s.gr.b1, .int .u8 s.gr.b2, .int .u8 s.gr.b3, .int .u8 s.gr.b4, .int .u8 s.gr.b5, .int .u8 s.gr.b6, .int .u8 s.gr.b7]) (at_list rfl) (by kernel_rfl) (by kernel_rfl) (by kernel_rfl) (fun _ _ _ h => h) (yieldsIf_load_mid (by rfl) 24 _ rfl gK9 5 rfl [.int .u8 s.gr.b0, .int .u8 s.gr.b1, .int .u8 s.gr.b2, .int .u8 s.gr.b3, .int .u8 s.gr.b4, .int .u8 s.gr.b5, .int .u8 s.gr.b6, .int .u8 s.gr.b7] _ (fun v hv => Holds.range (hv.2.1) rfl) Try.underlying24 rfl (by kernel_rfl)) hHeld ?_
            try simp only [Act.put, List.setIfInBounds_toArray, List.set_cons_zero, List.set_cons_succ]
            refine wpAnyH_take (i := 28) (v := .bool false) (at_list rfl) (by kernel_rfl) (by kernel_rfl) (by kernel_rfl) (fun _ _ _ h => h) (yields_cmp (by rfl) .neq 24 _ _ _ rfl (#[.int .u8 s.gr.b0, .int .u8 s.gr.b1, .int .u8 s.gr.b2, .int .u8 s.gr.b3, .int .u8 s.gr.b4, .int .u8 s.gr.b5, .int .u8 s.gr.b6, .int .u8 s.gr.b7]) (#[.int .u8 s.gr.b0, .int .u8 s.gr.b1, .int .u8 s.gr.b2, .int .u8 s.gr.b3, .int .u8 s.gr.b4, .int .u8 s.gr.b5, .int .u8 s.gr.b6, .int .u8 s.gr.b7]) rfl rfl (by kernel_rfl) false (fun v => (neq_clock s.gr s.gr v).trans (by rw [eqC_self]; rfl))) hHeld ?_
            try simp only [Act.put, List.setIfInBounds_toArray, List.set_cons_zero, List.set_cons_succ]
            refine wpAnyH_take (i := 29) (v := .bool false) (at_list rfl) (by kernel_rfl) (by kernel_rfl) (by kernel_rfl) (fun _ _ _ h => h) (Or.inl ⟨by rfl, ?_⟩) hHeld ?_
            · intro v hSv
              clear hHeld
              go_simp
            try simp only [Act.put, List.setIfInBounds_toArray, List.set_cons_zero, List.set_cons_succ]
            refine wpAnyH_done (by kernel_rfl) ?_ _
            refine NoPanic.normal ?_
            have HB := Lib.hid hHeld.1
            have K9 := Lib.hid hHeld.2.1
            have K10 := Lib.hid hHeld.2.2.1
            have SI := Lib.hid hHeld.2.2.2.1
            have CI := Lib.hid hHeld.2.2.2.2.1
            clear hHeld
            clear K10 CI hn4
            go_wp2
            go_loopg [106] j (fun gh i v => ∃ m : Nat, m + gh = j ∧ i = .int .i64 m ∧ Hid (Holds v gK9 34 (chA ⟨recv r s, true⟩)) ∧ Hid (SetsIn v (.slice (some ⟨g, o, none⟩) j c) l) ∧ Hid (Below w.heap.size w v))
            case atStart => exact ⟨0, by omega, rfl, K9, SI, HB⟩
            case round =>
              clear K9 SI HB
              obtain ⟨m, hm, rfl, K9, SI, HB⟩ := hrel
              cases gk with
              | zero =>
                have hd2 : decide ((m : Int) < (j : Int)) = false := decide_eq_false (by omega)
                go_wp2_with fail
                refine (alive9_any _).mono ?_
                rintro e c1 ⟨rfl, hc1⟩
                replace K9 := Lib.hid ((K9.out).keptB hc1)
                replace HB := Lib.hid (bstep HB.out hc1)
                clear hc1
                go_wp2
                try rw [Exit.noGoto_ret]
                go_ret
                exact ⟨rfl, HB.out⟩
              | succ g3 =>
                have hlt2 : m < j := by omega
                have hd2 : decide ((m : Int) < (j : Int)) = true := decide_eq_true (by omega)
                obtain ⟨b, hb⟩ : ∃ b, l[m]? = some b := ⟨_, List.getElem?_eq_getElem (show m < l.length by have := HLN.out; omega)⟩
                have HBb := Lib.hid hb
                have HKb := Lib.hid hlt2
                clear hb
                go_upto_region 24 with (first | (refine big_fill rfl 31 _ _ rfl gK13 (rsA b) rfl rfl K13.out (by kernel_rfl) (by kernel_rfl) (by kernel_rfl) ?_; intro vK130 nK13 htK13; replace K13 := Lib.hid nK13; replace K9 := Lib.hid ((K9.out).touch htK13 OK9K13.out); replace SI := Lib.hid ((SI.out).touch htK13 OSIK13.out); replace HB := Lib.hid (btouch HB.out htK13 LK13.out); clear nK13 htK13; try simp only [Act.put, List.setIfInBounds_toArray, List.set_cons_zero, List.set_cons_succ]) | (refine big_alloc rfl 31 rfl (rsA zeroR) (by kernel_rfl) ?_; intro gK13 wK13 hlK13 nK13 hbK13; have K13 := Lib.hid nK13; have LK13 := Lib.hid (Nat.le_trans (HB.out).size hlK13); have OK9K13 := Lib.hid ((K9.out).off hlK13); have OSIK13 := Lib.hid ((SI.out).off hlK13); replace K9 := Lib.hid ((K9.out).keptB hbK13); replace SI := Lib.hid ((SI.out).keptB hbK13); replace HB := Lib.hid (bstep HB.out hbK13); clear hlK13 nK13 hbK13; try simp only [Act.put, List.setIfInBounds_toArray, List.set_cons_zero, List.set_cons_succ]) | (refine big_loadAt rfl 31 _ rfl g (o + m * 32) rfl (rsA b) (set_in SI.out HBb.out) Try.underlying31 rfl (by kernel_rfl) ?_; try simp only [Act.put, List.setIfInBounds_toArray, List.set_cons_zero, List.set_cons_succ]) | (refine big_index rfl 22 _ _ rfl g o j c m 32 rfl rfl HKb.out Try.underlying22 (by kernel_rfl) ?_; try simp only [Act.put, List.setIfInBounds_toArray, List.set_cons_zero, List.set_cons_succ]))
                cases he : eqC b.gr s.gr
                · have HE := Lib.hid he
                  have hmk : m ≠ k := by
                    rintro rfl
                    rw [HBb.out] at HKS
                    have h1 : b = s := Option.some.inj HKS
                    rw [h1, eqC_self] at he
                    cases he
                  have HG : Hid (grandN (recv r s) b < 0) := by rw [Hid, grandN_recv]; exact (HMN.out) m b hmk HBb.out
                  have hG : decide (0 ≤ grandN (recv r s) b) = false := decide_eq_false (by have := HG.out; omega)
                  clear he hmk
                  go_wp2_with (first | (refine big_cmp rfl .neq 24 _ _ _ rfl (#[.int .u8 b.gr.b0, .int .u8 b.gr.b1, .int .u8 b.gr.b2, .int .u8 b.gr.b3, .int .u8 b.gr.b4, .int .u8 b.gr.b5, .int .u8 b.gr.b6, .int .u8 b.gr.b7]) (#[.int .u8 s.gr.b0, .int .u8 s.gr.b1, .int .u8 s.gr.b2, .int .u8 s.gr.b3, .int .u8 s.gr.b4, .int .u8 s.gr.b5, .int .u8 s.gr.b6, .int .u8 s.gr.b7]) rfl rfl (by kernel_rfl) true (fun v => (neq_clock b.gr s.gr v).trans (by rw [HE.out]; rfl)) ?_; try simp only [Act.put, List.setIfInBounds_toArray, List.set_cons_zero, List.set_cons_succ]) | (refine big_load rfl 24 _ rfl gK13 5 rfl K13.out [.int .u8 b.gr.b0, .int .u8 b.gr.b1, .int .u8 b.gr.b2, .int .u8 b.gr.b3, .int .u8 b.gr.b4, .int .u8 b.gr.b5, .int .u8 b.gr.b6, .int .u8 b.gr.b7] rfl Try.underlying24 rfl (by kernel_rfl) ?_; try simp only [Act.put, List.setIfInBounds_toArray, List.set_cons_zero, List.set_cons_succ]) | (refine big_load rfl 24 _ rfl gK9 5 rfl K9.out [.int .u8 s.gr.b0, .int .u8 s.gr.b1, .int .u8 s.gr.b2, .int .u8 s.gr.b3, .int .u8 s.gr.b4, .int .u8 s.gr.b5, .int .u8 s.gr.b6, .int .u8 s.gr.b7] rfl Try.underlying24 rfl (by kernel_rfl) ?_; try simp only [Act.put, List.setIfInBounds_toArray, List.set_cons_zero, List.set_cons_succ]) | (refine big_load rfl 31 _ rfl gK9 0 rfl K9.out [.int .i64 (recv r s).p1, .int .i64 (recv r s).p2, .int .i64 (recv r s).q1, .int .i64 (recv r s).q2, .int .i64 (recv r s).q3, .int .u8 ((recv r s).gr).b0, .int .u8 ((recv r s).gr).b1, .int .u8 ((recv r s).gr).b2, .int .u8 ((recv r s).gr).b3, .int .u8 ((recv r s).gr).b4, .int .u8 ((recv r s).gr).b5, .int .u8 ((recv r s).gr).b6, .int .u8 ((recv r s).gr).b7, .int .i64 (recv r s).st, .int .u8 ((recv r s).sn.c).b0, .int .u8 ((recv r s).sn.c).b1, .int .u8 ((recv r s).sn.c).b2, .int .u8 ((recv r s).sn.c).b3, .int .u8 ((recv r s).sn.c).b4, .int .u8 ((recv r s).sn.c).b5, .int .u8 ((recv r s).sn.c).b6, .int .u8 ((recv r s).sn.c).b7, .int .i64 (recv r s).sn.n, .int .u8 ((recv r s).rc.c).b0, .int .u8 ((recv r s).rc.c).b1, .int .u8 ((recv r s).rc.c).b2, .int .u8 ((recv r s).rc.c).b3, .int .u8 ((recv r s).rc.c).b4, .int .u8 ((recv r s).rc.c).b5, .int .u8 ((recv r s).rc.c).b6, .int .u8 ((recv r s).rc.c).b7, .int .i64 (recv r s).rc.n] rfl Try.underlying31 rfl (by kernel_rfl) ?_; try simp only [Act.put, List.setIfInBounds_toArray, List.set_cons_zero, List.set_cons_succ]) | (refine big_whole rfl 31 _ rfl gK13 rfl K13.out Try.underlying31 rfl (by kernel_rfl) ?_; try simp only [Act.put, List.setIfInBounds_toArray, List.set_cons_zero, List.set_cons_succ]))
                  refine (rgrand_any (recv r s) b _).mono ?_
                  rintro e c1 ⟨rfl, hc1⟩
                  replace K9 := Lib.hid ((K9.out).keptB hc1)
                  replace SI := Lib.hid ((SI.out).keptB hc1)
                  replace K13 := Lib.hid ((K13.out).keptB hc1)
                  replace HB := Lib.hid (bstep HB.out hc1)
                  clear hc1
                  go_wp2
                  clear K13 LK13 OK9K13 OSIK13
                  go_roundg g3
                  case measure => omega
                  case rel => exact ⟨m + 1, by omega, by go_num, K9, SI, HB⟩
                · have HE := Lib.hid he
                  clear he
                  have GATE : Hid True := trivial
                  go_wp2_with (first | (have _ := GATE.out; refine big_cmp rfl .neq 24 _ _ _ rfl (#[.int .u8 b.gr.b0, .int .u8 b.gr.b1, .int .u8 b.gr.b2, .int .u8 b.gr.b3, .int .u8 b.gr.b4, .int .u8 b.gr.b5, .int .u8 b.gr.b6, .int .u8 b.gr.b7]) (#[.int .u8 s.gr.b0, .int .u8 s.gr.b1, .int .u8 s.gr.b2, .int .u8 s.gr.b3, .int .u8 s.gr.b4, .int .u8 s.gr.b5, .int .u8 s.gr.b6, .int .u8 s.gr.b7]) rfl rfl (by kernel_rfl) false (fun v => (neq_clock b.gr s.gr v).trans (by rw [HE.out]; rfl)) ?_; clear GATE; try simp only [Act.put, List.setIfInBounds_toArray, List.set_cons_zero, List.set_cons_succ]) | (have _ := GATE.out; refine big_load rfl 24 _ rfl gK13 5 rfl K13.out [.int .u8 b.gr.b0, .int .u8 b.gr.b1, .int .u8 b.gr.b2, .int .u8 b.gr.b3, .int .u8 b.gr.b4, .int .u8 b.gr.b5, .int .u8 b.gr.b6, .int .u8 b.gr.b7] rfl Try.underlying24 rfl (by kernel_rfl) ?_; try simp only [Act.put, List.setIfInBounds_toArray, List.set_cons_zero, List.set_cons_succ]) | (have _ := GATE.out; refine big_load rfl 24 _ rfl gK9 5 rfl K9.out [.int .u8 s.gr.b0, .int .u8 s.gr.b1, .int .u8 s.gr.b2, .int .u8 s.gr.b3, .int .u8 s.gr.b4, .int .u8 s.gr.b5, .int .u8 s.gr.b6, .int .u8 s.gr.b7] rfl Try.underlying24 rfl (by kernel_rfl) ?_; try simp only [Act.put, List.setIfInBounds_toArray, List.set_cons_zero, List.set_cons_succ]))
                  clear K13 LK13 OK9K13 OSIK13
                  go_roundg g3
                  case measure => omega
                  case rel => exact ⟨m + 1, by omega, by go_num, K9, SI, HB⟩
        | succ g1 =>
          have hlt : j < n := by omega
          have hd : decide ((j : Int) < (n : Int)) = true := decide_eq_true (by omega)
          obtain ⟨a, ha⟩ : ∃ a, l[j]? = some a := ⟨_, List.getElem?_eq_getElem (show j < l.length by have := HLN.out; omega)⟩
          have HA := Lib.hid ha
          have HK := Lib.hid hlt
          clear ha
          go_wp2
          go_loopg [29] j (fun gh i v => ∃ m : Nat, m + gh = j ∧ i = .int .i64 m ∧ Hid (∀ (q : Nat) (b : Rs), q < m → l[q]? = some b → eqC a.gr b.gr = false) ∧ Hid (RowB v B 31 32 j X (setsL8 (l.reverse.take j))) ∧ Hid (RowB v B 34 33 (2 * j) Y (chsL (pairL (l.take j)))) ∧ Hid (SetsIn v (.slice (some ⟨g, o, none⟩) n c) l) ∧ Hid (Holds v gK3 26 (ptA r)) ∧ Hid (Below w.heap.size w v))
          case atStart => exact ⟨0, by omega, rfl, (fun q b h => absurd h (by omega)), OW, OV, SI, K3, HB⟩
          case round =>
            clear OW OV SI K3 HB
            obtain ⟨m, hm, rfl, HM, OW, OV, SI, K3, HB⟩ := hrel
            cases gk with
            | zero =>
              obtain rfl : m = j := by omega
              have hd2 : decide ((m : Int) < (m : Int)) = false := decide_eq_false (by omega)
              obtain ⟨b, hb⟩ : ∃ b, l[g1]? = some b := ⟨_, List.getElem?_eq_getElem (show g1 < l.length by have := HLN.out; omega)⟩
              have HBb := Lib.hid hb
              have HTK := Lib.hid (take_reverse_step (m := m) (r := g1) (by have := HLN.out; omega) hb)
              have HPK := Lib.hid (pairL_step HA.out)
              have HKb := Lib.hid (show g1 < n by omega)
              clear hb
              have hix : (n : Int) - 1 - (m : Int) = (g1 : Int) := by omega
              have HU2 : Hid (unlikeL (l.take (m + 1))) := by
                intro p q x y hpq hx hy
                have hp : p < m + 1 := by
                  by_cases hp : p < m + 1
                  · exact hp
                  · rw [List.getElem?_eq_none (by simp; omega)] at hx; cases hx
                rw [List.getElem?_take, if_pos hp] at hx
                rw [List.getElem?_take, if_pos (by omega)] at hy
                by_cases hpm : p = m
                · subst hpm
                  rw [HA.out] at hx
                  rw [← Option.some.inj hx]
                  exact (HM.out) q y hpq hy
                · exact (HU.out) p q x y hpq (by rw [List.getElem?_take, if_pos (by omega)]; exact hx) (by rw [List.getElem?_take, if_pos (by omega)]; exact hy)
              go_upto_region 15 with (first | (refine big_append rfl _ _ 22 31 rfl (.agg (rsA zeroR)) 32 88 Try.underlying22 info_set8 rfl (by omega) (by omega) B rfl OW.out gK9 1 (setsL8 [b]) rfl rfl ((K9.out).range (by kernel_rfl)) (by kernel_rfl) (by omega) (by omega) ?_; intro X2 w9 ow9 hg9 hn9; have NE : Hid (∀ b, Y.ownBlock = some b → X.ownBlock ≠ some b) := (fun b h1 h2 => (XY.out) b h2 h1); have XY2 : Hid (∀ b, X2.ownBlock = some b → Y.ownBlock ≠ some b) := (fun b h1 h2 => by rcases hn9 b h1 with h3 | h3; exact (XY.out) b h3 h2; have h4 := ((OV.out).blocks b h2).2; omega); replace OV := Lib.hid ((OV.out).grown hg9 (NE.out)); replace SI := Lib.hid ((SI.out).grown hg9 (fun g2 o2 h2 h3 => (OW.out).ne ((LBS.out) g2 o2 h2 h3))); replace K3 := Lib.hid ((K3.out).grown hg9 ((OW.out).ne LBK3.out)); replace HB := Lib.hid ((OW.out).hb HWB.out HB.out hg9); replace OW := Lib.hid ow9; clear ow9 hg9 hn9 K9 NE; try simp only [Act.put, List.setIfInBounds_toArray, List.set_cons_zero, List.set_cons_succ]) | (refine big_slices rfl 22 31 1 _ rfl (setsA [b]) 32 Try.underlying22 rfl rfl rfl (of_decide_eq_true (by kernel_rfl)) (of_decide_eq_true (by kernel_rfl)) (by kernel_rfl) ?_; intro gK9 wK9 hlK9 nK9 hbK9; have K9 := Lib.hid nK9; replace OW := Lib.hid ((OW.out).keptB hbK9); replace OV := Lib.hid ((OV.out).keptB hbK9); replace SI := Lib.hid ((SI.out).keptB hbK9); replace K3 := Lib.hid ((K3.out).keptB hbK9); replace HB := Lib.hid (bstep HB.out hbK9); clear hlK9 nK9 hbK9; try simp only [Act.put, List.setIfInBounds_toArray, List.set_cons_zero, List.set_cons_succ]) | (refine big_loadAt rfl 31 _ rfl g (o + g1 * 32) rfl (rsA b) (set_in SI.out HBb.out) Try.underlying31 rfl (by kernel_rfl) ?_; try simp only [Act.put, List.setIfInBounds_toArray, List.set_cons_zero, List.set_cons_succ]) | (refine big_index rfl 22 _ _ rfl g o n c g1 32 rfl rfl HKb.out Try.underlying22 (by kernel_rfl) ?_; try simp only [Act.put, List.setIfInBounds_toArray, List.set_cons_zero, List.set_cons_succ]))
              clear hix XY
              have GATE : Hid True := trivial
              go_upto_region 16 with (first | (refine big_append rfl _ _ 40 34 rfl (.agg (chA zeroCh)) 33 96 Try.underlying40 info_pch rfl (by omega) (by omega) B rfl OV.out gK9 2 (chsL [zeroCh, ⟨a, true⟩]) rfl rfl ((K9.out).range (by kernel_rfl)) (by kernel_rfl) (by omega) (by omega) ?_; intro Y2 w9 ow9 hg9 hn9; have NE : Hid (∀ b, X2.ownBlock = some b → Y.ownBlock ≠ some b) := XY2.out; have XY3 : Hid (∀ b, X2.ownBlock = some b → Y2.ownBlock ≠ some b) := (fun b h1 h2 => by rcases hn9 b h2 with h3 | h3; exact (XY2.out) b h1 h3; have h4 := ((OW.out).blocks b h1).2; omega); replace OW := Lib.hid ((OW.out).grown hg9 (NE.out)); replace SI := Lib.hid ((SI.out).grown hg9 (fun g2 o2 h2 h3 => (OV.out).ne ((LBS.out) g2 o2 h2 h3))); replace K3 := Lib.hid ((K3.out).grown hg9 ((OV.out).ne LBK3.out)); replace HB := Lib.hid ((OV.out).hb HWB.out HB.out hg9); replace OV := Lib.hid ow9; clear ow9 hg9 hn9 K9 NE XY2; try simp only [Act.put, List.setIfInBounds_toArray, List.set_cons_zero, List.set_cons_succ]) | (refine big_slices rfl 40 34 2 _ rfl (chsA [zeroCh, ⟨a, true⟩]) 33 Try.underlying40 rfl rfl rfl (of_decide_eq_true (by kernel_rfl)) (of_decide_eq_true (by kernel_rfl)) (by kernel_rfl) ?_; intro gK9 wK9 hlK9 nK9 hbK9; have K9 := Lib.hid nK9; replace OW := Lib.hid ((OW.out).keptB hbK9); replace OV := Lib.hid ((OV.out).keptB hbK9); replace SI := Lib.hid ((SI.out).keptB hbK9); replace K3 := Lib.hid ((K3.out).keptB hbK9); replace HB := Lib.hid (bstep HB.out hbK9); clear hlK9 nK9 hbK9; try simp only [Act.put, List.setIfInBounds_toArray, List.set_cons_zero, List.set_cons_succ]) | (have _ := GATE.out; refine big_build rfl 34 _ rfl (chA zeroCh) (by kernel_rfl) ?_; clear GATE; try simp only [Act.put, List.setIfInBounds_toArray, List.set_cons_zero, List.set_cons_succ]) | (refine big_build rfl 34 _ rfl (chA ⟨a, true⟩) (by kernel_rfl) ?_; try simp only [Act.put, List.setIfInBounds_toArray, List.set_cons_zero, List.set_cons_succ]) | (refine big_loadAt rfl 31 _ rfl g (o + m * 32) rfl (rsA a) (set_in SI.out HA.out) Try.underlying31 rfl (by kernel_rfl) ?_; try simp only [Act.put, List.setIfInBounds_toArray, List.set_cons_zero, List.set_cons_succ]) | (refine big_index rfl 22 _ _ rfl g o n c m 32 rfl rfl HK.out Try.underlying22 (by kernel_rfl) ?_; try simp only [Act.put, List.setIfInBounds_toArray, List.set_cons_zero, List.set_cons_succ]))
              have HOW2 : Hid (setsL8 (l.reverse.take (m + 1)) = setsL8 (l.reverse.take m) ++ setsL8 [b]) := by rw [Hid, HTK.out]; exact setsL8_append _ _
              have HOV2 : Hid (chsL (pairL (l.take (m + 1))) = chsL (pairL (l.take m)) ++ chsL [zeroCh, ⟨a, true⟩]) := by rw [Hid, HPK.out]; unfold chsL; rw [List.flatMap_append]
              go_wp2
              go_roundg g1
              case measure => omega
              case rel => exact ⟨m + 1, X2, Y2, by omega, rfl, rfl, by go_num, by rw [HOW2.out]; exact OW, by rw [HOV2.out, show 2 * (m + 1) = 2 * m + 2 by omega]; exact OV, XY3, HU2, SI, K3, HB⟩
            | succ g3 =>
              have hlt2 : m < j := by omega
              have hd2 : decide ((m : Int) < (j : Int)) = true := decide_eq_true (by omega)
              obtain ⟨b, hb⟩ : ∃ b, l[m]? = some b := ⟨_, List.getElem?_eq_getElem (show m < l.length by have := HLN.out; omega)⟩
              have HBb := Lib.hid hb
              have HKb := Lib.hid (show m < n by omega)
              clear hb
              cases he : eqC a.gr b.gr
              · have HE := Lib.hid he
                clear he
                go_wp2
                refine wp_region_noPanic ?_
                refine wp_region_held_drew (S := fun v => Below w.heap.size w v ∧ RowB v B 31 32 j X (setsL8 (l.reverse.take j)) ∧ RowB v B 34 33 (2 * j) Y (chsL (pairL (l.take j))) ∧ SetsIn v (.slice (some ⟨g, o, none⟩) n c) l ∧ Holds v gK3 26 (ptA r) ∧ True) (by kernel_rfl) ?_ (fun hHeld => ?_)
                · exact ⟨bdrew HB.out, (OW.out).drew, (OV.out).drew, (SI.out).drew, (K3.out).drew, trivial⟩
                clear HB OW OV SI K3
                refine wpAnyH_take (i := 0) (v := .slice (some ⟨g, o, none⟩) n c) (at_list rfl) (by kernel_rfl) (by kernel_rfl) (by kernel_rfl) (fun _ _ _ h => h) (Or.inl ⟨by rfl, ?_⟩) hHeld ?_
                · intro v hSv
                  clear hHeld
                  go_simp
                try simp only [Act.put, List.setIfInBounds_toArray, List.set_cons_zero, List.set_cons_succ]
                refine wpAnyH_take (i := 1) (v := .int .i64 j) (at_list rfl) (by kernel_rfl) (by kernel_rfl) (by kernel_rfl) (fun _ _ _ h => h) (Or.inl ⟨by rfl, ?_⟩) hHeld ?_
                · intro v hSv
                  clear hHeld
                  go_simp
                try simp only [Act.put, List.setIfInBounds_toArray, List.set_cons_zero, List.set_cons_succ]
                refine wpAnyH_take (i := 2) (v := .pointer (some ⟨g, o + j * 32, none⟩)) (at_list rfl) (by kernel_rfl) (by kernel_rfl) (by kernel_rfl) (fun _ _ _ h => h) (yields_index (by rfl) 22 _ _ rfl g o n c j 32 rfl rfl HK.out Try.underlying22 (by kernel_rfl)) hHeld ?_
                try simp only [Act.put, List.setIfInBounds_toArray, List.set_cons_zero, List.set_cons_succ]
                refine wpAnyH_take (i := 3) (v := .pointer (some ⟨g, o + j * 32 + 5, none⟩)) (at_list rfl) (by kernel_rfl) (by kernel_rfl) (by kernel_rfl) (fun _ _ _ h => h) (Or.inl ⟨by rfl, ?_⟩) hHeld ?_
                · intro v hSv
                  clear hHeld
                  go_simp
                try simp only [Act.put, List.setIfInBounds_toArray, List.set_cons_zero, List.set_cons_succ]
                refine wpAnyH_take (i := 4) (v := .agg #[.int .u8 a.gr.b0, .int .u8 a.gr.b1, .int .u8 a.gr.b2, .int .u8 a.gr.b3, .int .u8 a.gr.b4, .int .u8 a.gr.b5, .int .u8 a.gr.b6, .int .u8 a.gr.b7]) (at_list rfl) (by kernel_rfl) (by kernel_rfl) (by kernel_rfl) (fun _ _ _ h => h) (yieldsIf_load_mid (by rfl) 24 _ rfl g (o + j * 32 + 5) rfl [.int .u8 a.gr.b0, .int .u8 a.gr.b1, .int .u8 a.gr.b2, .int .u8 a.gr.b3, .int .u8 a.gr.b4, .int .u8 a.gr.b5, .int .u8 a.gr.b6, .int .u8 a.gr.b7] _ (fun v hv => range_sub (set_in (hv.2.2.2.1) HA.out) rfl) Try.underlying24 rfl (by kernel_rfl)) hHeld ?_
                try simp only [Act.put, List.setIfInBounds_toArray, List.set_cons_zero, List.set_cons_succ]
                refine wpAnyH_take (i := 5) (v := .slice (some ⟨g, o, none⟩) n c) (at_list rfl) (by kernel_rfl) (by kernel_rfl) (by kernel_rfl) (fun _ _ _ h => h) (Or.inl ⟨by rfl, ?_⟩) hHeld ?_
                · intro v hSv
                  clear hHeld
                  go_simp
                try simp only [Act.put, List.setIfInBounds_toArray, List.set_cons_zero, List.set_cons_succ]
                refine wpAnyH_take (i := 6) (v := .int .i64 m) (at_list rfl) (by kernel_rfl) (by kernel_rfl) (by kernel_rfl) (fun _ _ _ h => h) (Or.inl ⟨by rfl, ?_⟩) hHeld ?_
                · intro v hSv
                  clear hHeld
                  go_simp
                try simp only [Act.put, List.setIfInBounds_toArray, List.set_cons_zero, List.set_cons_succ]
                refine wpAnyH_take (i := 7) (v := .pointer (some ⟨g, o + m * 32, none⟩)) (at_list rfl) (by kernel_rfl) (by kernel_rfl) (by kernel_rfl) (fun _ _ _ h => h) (yields_index (by rfl) 22 _ _ rfl g o n c m 32 rfl rfl HKb.out Try.underlying22 (by kernel_rfl)) hHeld ?_
                try simp only [Act.put, List.setIfInBounds_toArray, List.set_cons_zero, List.set_cons_succ]
                refine wpAnyH_take (i := 8) (v := .pointer (some ⟨g, o + m * 32 + 5, none⟩)) (at_list rfl) (by kernel_rfl) (by kernel_rfl) (by kernel_rfl) (fun _ _ _ h => h) (Or.inl ⟨by rfl, ?_⟩) hHeld ?_
                · intro v hSv
                  clear hHeld
                  go_simp
                try simp only [Act.put, List.setIfInBounds_toArray, List.set_cons_zero, List.set_cons_succ]
                refine wpAnyH_take (i := 9) (v := .agg #[.int .u8 b.gr.b0, .int .u8 b.gr.b1, .int .u8 b.gr.b2, .int .u8 b.gr.b3, .int .u8 b.gr.b4, .int .u8 b.gr.b5, .int .u8 b.gr.b6, .int .u8 b.gr.b7]) (at_list rfl) (by kernel_rfl) (by kernel_rfl) (by kernel_rfl) (fun _ _ _ h => h) (yieldsIf_load_mid (by rfl) 24 _ rfl g (o + m * 32 + 5) rfl [.int .u8 b.gr.b0, .int .u8 b.gr.b1, .int .u8 b.gr.b2, .int .u8 b.gr.b3, .int .u8 b.gr.b4, .int .u8 b.gr.b5, .int .u8 b.gr.b6, .int .u8 b.gr.b7] _ (fun v hv => range_sub (set_in (hv.2.2.2.1) HBb.out) rfl) Try.underlying24 rfl (by kernel_rfl)) hHeld ?_
                try simp only [Act.put, List.setIfInBounds_toArray, List.set_cons_zero, List.set_cons_succ]
                refine wpAnyH_take (i := 10) (v := .bool false) (at_list rfl) (by kernel_rfl) (by kernel_rfl) (by kernel_rfl) (fun _ _ _ h => h) (yields_cmp (by rfl) .eql 24 _ _ _ rfl (#[.int .u8 a.gr.b0, .int .u8 a.gr.b1, .int .u8 a.gr.b2, .int .u8 a.gr.b3, .int .u8 a.gr.b4, .int .u8 a.gr.b5, .int .u8 a.gr.b6, .int .u8 a.gr.b7]) (#[.int .u8 b.gr.b0, .int .u8 b.gr.b1, .int .u8 b.gr.b2, .int .u8 b.gr.b3, .int .u8 b.gr.b4, .int .u8 b.gr.b5, .int .u8 b.gr.b6, .int .u8 b.gr.b7]) rfl rfl (by kernel_rfl) false (fun v => (eql_clock a.gr b.gr v).trans (by rw [HE.out]))) hHeld ?_
                try simp only [Act.put, List.setIfInBounds_toArray, List.set_cons_zero, List.set_cons_succ]
                refine wpAnyH_done (by kernel_rfl) ?_ _
                refine NoPanic.normal ?_
                have HB := Lib.hid hHeld.1
                have OW := Lib.hid hHeld.2.1
                have OV := Lib.hid hHeld.2.2.1
                have SI := Lib.hid hHeld.2.2.2.1
                have K3 := Lib.hid hHeld.2.2.2.2.1
                clear hHeld
                go_wp2
                go_roundg g3
                case measure => omega
                case rel => exact ⟨m + 1, by omega, by go_num, (fun q b2 hq h2 => by
                  by_cases hqm : q = m
                  · subst hqm
                    rw [HBb.out] at h2
                    rw [← Option.some.inj h2]
                    exact HE.out
                  · exact (HM.out) q b2 (by omega) h2), OW, OV, SI, K3, HB⟩
              · have HE := Lib.hid he
                clear he
                go_wp2
                refine wp_region_noPanic ?_
                refine wp_region_held_drew (S := fun v => Below w.heap.size w v ∧ RowB v B 31 32 j X (setsL8 (l.reverse.take j)) ∧ RowB v B 34 33 (2 * j) Y (chsL (pairL (l.take j))) ∧ SetsIn v (.slice (some ⟨g, o, none⟩) n c) l ∧ Holds v gK3 26 (ptA r) ∧ True) (by kernel_rfl) ?_ (fun hHeld => ?_)
                · exact ⟨bdrew HB.out, (OW.out).drew, (OV.out).drew, (SI.out).drew, (K3.out).drew, trivial⟩
                clear HB OW OV SI K3
                refine wpAnyH_take (i := 0) (v := .slice (some ⟨g, o, none⟩) n c) (at_list rfl) (by kernel_rfl) (by kernel_rfl) (by kernel_rfl) (fun _ _ _ h => h) (Or.inl ⟨by rfl, ?_⟩) hHeld ?_
                · intro v hSv
                  clear hHeld
                  go_simp
                try simp only [Act.put, List.setIfInBounds_toArray, List.set_cons_zero, List.set_cons_succ]
                refine wpAnyH_take (i := 1) (v := .int .i64 j) (at_list rfl) (by kernel_rfl) (by kernel_rfl) (by kernel_rfl) (fun _ _ _ h => h) (Or.inl ⟨by rfl, ?_⟩) hHeld ?_
                · intro v hSv
                  clear hHeld
                  go_simp
                try simp only [Act.put, List.setIfInBounds_toArray, List.set_cons_zero, List.set_cons_succ]
                refine wpAnyH_take (i := 2) (v := .pointer (some ⟨g, o + j * 32, none⟩)) (at_list rfl) (by kernel_rfl) (by kernel_rfl) (by kernel_rfl) (fun _ _ _ h => h) (yields_index (by rfl) 22 _ _ rfl g o n c j 32 rfl rfl HK.out Try.underlying22 (by kernel_rfl)) hHeld ?_
                try simp only [Act.put, List.setIfInBounds_toArray, List.set_cons_zero, List.set_cons_succ]
                refine wpAnyH_take (i := 3) (v := .pointer (some ⟨g, o + j * 32 + 5, none⟩)) (at_list rfl) (by kernel_rfl) (by kernel_rfl) (by kernel_rfl) (fun _ _ _ h => h) (Or.inl ⟨by rfl, ?_⟩) hHeld ?_
                · intro v hSv
                  clear hHeld
                  go_simp
                try simp only [Act.put, List.setIfInBounds_toArray, List.set_cons_zero, List.set_cons_succ]
                refine wpAnyH_take (i := 4) (v := .agg #[.int .u8 a.gr.b0, .int .u8 a.gr.b1, .int .u8 a.gr.b2, .int .u8 a.gr.b3, .int .u8 a.gr.b4, .int .u8 a.gr.b5, .int .u8 a.gr.b6, .int .u8 a.gr.b7]) (at_list rfl) (by kernel_rfl) (by kernel_rfl) (by kernel_rfl) (fun _ _ _ h => h) (yieldsIf_load_mid (by rfl) 24 _ rfl g (o + j * 32 + 5) rfl [.int .u8 a.gr.b0, .int .u8 a.gr.b1, .int .u8 a.gr.b2, .int .u8 a.gr.b3, .int .u8 a.gr.b4, .int .u8 a.gr.b5, .int .u8 a.gr.b6, .int .u8 a.gr.b7] _ (fun v hv => range_sub (set_in (hv.2.2.2.1) HA.out) rfl) Try.underlying24 rfl (by kernel_rfl)) hHeld ?_
                try simp only [Act.put, List.setIfInBounds_toArray, List.set_cons_zero, List.set_cons_succ]
                refine wpAnyH_take (i := 5) (v := .slice (some ⟨g, o, none⟩) n c) (at_list rfl) (by kernel_rfl) (by kernel_rfl) (by kernel_rfl) (fun _ _ _ h => h) (Or.inl ⟨by rfl, ?_⟩) hHeld ?_
                · intro v hSv
                  clear hHeld
                  go_simp
                try simp only [Act.put, List.setIfInBounds_toArray, List.set_cons_zero, List.set_cons_succ]
                refine wpAnyH_take (i := 6) (v := .int .i64 m) (at_list rfl) (by kernel_rfl) (by kernel_rfl) (by kernel_rfl) (fun _ _ _ h => h) (Or.inl ⟨by rfl, ?_⟩) hHeld ?_
                · intro v hSv
                  clear hHeld
                  go_simp
                try simp only [Act.put, List.setIfInBounds_toArray, List.set_cons_zero, List.set_cons_succ]
                refine wpAnyH_take (i := 7) (v := .pointer (some ⟨g, o + m * 32, none⟩)) (at_list rfl) (by kernel_rfl) (by kernel_rfl) (by kernel_rfl) (fun _ _ _ h => h) (yields_index (by rfl) 22 _ _ rfl g o n c m 32 rfl rfl HKb.out Try.underlying22 (by kernel_rfl)) hHeld ?_
                try simp only [Act.put, List.setIfInBounds_toArray, List.set_cons_zero, List.set_cons_succ]
                refine wpAnyH_take (i := 8) (v := .pointer (some ⟨g, o + m * 32 + 5, none⟩)) (at_list rfl) (by kernel_rfl) (by kernel_rfl) (by kernel_rfl) (fun _ _ _ h => h) (Or.inl ⟨by rfl, ?_⟩) hHeld ?_
                · intro v hSv
                  clear hHeld
                  go_simp
                try simp only [Act.put, List.setIfInBounds_toArray, List.set_cons_zero, List.set_cons_succ]
                refine wpAnyH_take (i := 9) (v := .agg #[.int .u8 b.gr.b0, .int .u8 b.gr.b1, .int .u8 b.gr.b2, .int .u8 b.gr.b3, .int .u8 b.gr.b4, .int .u8 b.gr.b5, .int .u8 b.gr.b6, .int .u8 b.gr.b7]) (at_list rfl) (by kernel_rfl) (by kernel_rfl) (by kernel_rfl) (fun _ _ _ h => h) (yieldsIf_load_mid (by rfl) 24 _ rfl g (o + m * 32 + 5) rfl [.int .u8 b.gr.b0, .int .u8 b.gr.b1, .int .u8 b.gr.b2, .int .u8 b.gr.b3, .int .u8 b.gr.b4, .int .u8 b.gr.b5, .int .u8 b.gr.b6, .int .u8 b.gr.b7] _ (fun v hv => range_sub (set_in (hv.2.2.2.1) HBb.out) rfl) Try.underlying24 rfl (by kernel_rfl)) hHeld ?_
                try simp only [Act.put, List.setIfInBounds_toArray, List.set_cons_zero, List.set_cons_succ]
                refine wpAnyH_take (i := 10) (v := .bool true) (at_list rfl) (by kernel_rfl) (by kernel_rfl) (by kernel_rfl) (fun _ _ _ h => h) (yields_cmp (by rfl) .eql 24 _ _ _ rfl (#[.int .u8 a.gr.b0, .int .u8 a.gr.b1, .int .u8 a.gr.b2, .int .u8 a.gr.b3, .int .u8 a.gr.b4, .int .u8 a.gr.b5, .int .u8 a.gr.b6, .int .u8 a.gr.b7]) (#[.int .u8 b.gr.b0, .int .u8 b.gr.b1, .int .u8 b.gr.b2, .int .u8 b.gr.b3, .int .u8 b.gr.b4, .int .u8 b.gr.b5, .int .u8 b.gr.b6, .int .u8 b.gr.b7]) rfl rfl (by kernel_rfl) true (fun v => (eql_clock a.gr b.gr v).trans (by rw [HE.out]))) hHeld ?_
                try simp only [Act.put, List.setIfInBounds_toArray, List.set_cons_zero, List.set_cons_succ]
                refine wpAnyH_done (by kernel_rfl) ?_ _
                refine NoPanic.normal ?_
                have HB := Lib.hid hHeld.1
                have OW := Lib.hid hHeld.2.1
                have OV := Lib.hid hHeld.2.2.1
                have SI := Lib.hid hHeld.2.2.2.1
                have K3 := Lib.hid hHeld.2.2.2.2.1
                clear hHeld
                go_wp2_with fail
                refine (alive9_any _).mono ?_
                rintro e c1 ⟨rfl, hc1⟩
                replace K3 := Lib.hid ((K3.out).keptB hc1)
                replace HB := Lib.hid (bstep HB.out hc1)
                clear hc1
                go_wp2
                try rw [Exit.noGoto_ret]
                go_ret
                exact ⟨rfl, HB.out⟩

end Go.Proofs.Ytcmcgkcljefckaa
