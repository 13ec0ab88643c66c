/- The walk over best.Port. -/
import Derived.Test.YtcmcgkcljefckaaBestSeq
import Derived.Test.YtcmcgkcljefckaaRankFirst
import Derived.Deep.DeepCutAuto
import Derived.Deep.LoopGhost
import Derived.WalkMore
namespace Go.Proofs.Ytcmcgkcljefckaa
set_option maxRecDepth 100000
open Go.RowKit Go.Shelf
set_option linter.unusedVariables false
set_option linter.unusedSimpArgs false
attribute [local go_sem] Oper.semAt_some

theorem first7_in (v : Value) (l : List Rs) (w : World) (ho : ∀ s ∈ l, s.ok) (hn : l.length ≤ 1000000) (h : SetsIn w v l) :
    Calls Try.prog 25 #[v] w fun e w' => e = .returned (.int .i64 (firstN l)) ∧ Below w.heap.size w w' := by
  obtain ⟨A, n, c, rfl, h2, h3⟩ := h
  by_cases h0 : n = 0
  · subst h0
    rw [List.length_eq_zero_iff.1 h2]
    exact first7_nil A c w
  · obtain ⟨g, o, rfl, h4⟩ := h3 (by omega)
    exact first7_any l g o n c w ho h2 (by omega) h4
theorem info_set9 : (Try.prog.info? 31).map (fun i => (i.zero, i.size, i.bytes)) = some (some (.agg (rsA zeroR)), 32, 88) := by kernel_rfl
set_option maxHeartbeats 4000000 in
theorem pport9_any (A : Option Addr) (n c : Nat) (l : List Rs) (r : Pt) (w : World) (ho : ∀ s ∈ l, s.ok) (hn : n ≤ 900) (hr : r.c.ok) (h : SetsIn w (.slice A n c) l) :
    Calls Try.prog 10 #[.slice A n c, .agg (ptA r)] w fun e w' => e = .returned (.agg (chA (portN l r))) ∧ Below w.heap.size w w' := by
  refine (callsIn_wide (n := 3)).1 ?_
  refine callsIn_of_wp_marks Try.func10 rfl trivial ?_ rfl
  simp only [Try.ntmps10, List.size_toArray, List.length_cons, List.length_nil, Nat.reduceAdd, Nat.reduceSub, Array.replicate_succ, Array.replicate_zero, List.push_toArray, List.append_toArray, List.nil_append, List.cons_append]
  refine wpIn_wide.2 ?_
  have HB := Lib.hid (Below.refl w.heap.size w)
  have SI := Lib.hid h
  clear h
  have HO := Lib.hid ho
  have HR := Lib.hid hr
  have HLN : Hid (l.length = n) := by
    obtain ⟨_, _, _, h1, h2, _⟩ := SI.out
    cases h1
    exact h2
  clear ho hr
  go_upto_region 2 with (first | (refine big_alloc1 rfl 22 rfl (.slice none 0 0) (by kernel_rfl) rfl ?_; intro gK5 wK5 hlK5 nK5 hbK5; have K5 := Lib.hid nK5; have LK5 := Lib.hid (Nat.le_trans (HB.out).size hlK5); have OSIK5 := Lib.hid ((SI.out).off hlK5); have OK3K5 := Lib.hid ((K3.out).off hlK5); have OK4K5 := Lib.hid ((K4.out).off hlK5); replace SI := Lib.hid ((SI.out).keptB hbK5); replace K3 := Lib.hid ((K3.out).keptB hbK5); replace K4 := Lib.hid ((K4.out).keptB hbK5); replace HB := Lib.hid (bstep HB.out hbK5); clear hlK5 nK5 hbK5; try simp only [Act.put, List.setIfInBounds_toArray, List.set_cons_zero, List.set_cons_succ]) | (refine big_alloc rfl 34 rfl (chA zeroCh) (by kernel_rfl) ?_; intro gK4 wK4 hlK4 nK4 hbK4; have K4 := Lib.hid nK4; have LK4 := Lib.hid (Nat.le_trans (HB.out).size hlK4); have OSIK4 := Lib.hid ((SI.out).off hlK4); have OK3K4 := Lib.hid ((K3.out).off hlK4); replace SI := Lib.hid ((SI.out).keptB hbK4); replace K3 := Lib.hid ((K3.out).keptB hbK4); replace HB := Lib.hid (bstep HB.out hbK4); clear hlK4 nK4 hbK4; try simp only [Act.put, List.setIfInBounds_toArray, List.set_cons_zero, List.set_cons_succ]) | (refine big_box rfl 26 _ rfl (ptA r) rfl (by kernel_rfl) ?_; intro gK3 wK3 hlK3 nK3 hbK3; have K3 := Lib.hid nK3; have LK3 := Lib.hid (Nat.le_trans (HB.out).size hlK3); have OSIK3 := Lib.hid ((SI.out).off hlK3); replace SI := Lib.hid ((SI.out).keptB hbK3); replace HB := Lib.hid (bstep HB.out hbK3); clear hlK3 nK3 hbK3; try simp only [Act.put, List.setIfInBounds_toArray, List.set_cons_zero, List.set_cons_succ]))
  go_wp2_with ((refine big_whole rfl 26 _ rfl gK3 rfl K3.out Try.underlying26 rfl (by kernel_rfl) ?_; try simp only [Act.put, List.setIfInBounds_toArray, List.set_cons_zero, List.set_cons_succ]))
  have HI5 := Lib.hid (K5.out).inside
  have HSL := Lib.hid (SI.out).low
  refine (heardby9_any A n c r _).mono ?_
  rintro e c1 ⟨b2, b3, rfl, h2, h3, hl2, hl3, hb⟩
  have HA := Lib.hid (HeardAt.mk h2 h3 ((SI.out).keptB hb))
  obtain ⟨B, hBz⟩ : ∃ B, c1.heap.size = B := ⟨_, rfl⟩
  have HBZ := Lib.hid hBz
  have HOF : Hid (HeardOff [gK5] B b2 b3 A n) := by
    have i5 := HI5.out
    have i2 := h2.inside
    have i3 := h3.inside
    refine ⟨⟨by omega, by simp only [List.mem_singleton]; omega⟩, ⟨by omega, by simp only [List.mem_singleton]; omega⟩, fun g o ha hp => ⟨by have := (HSL.out) g o ha hp; have := hb.size; omega, by simp only [List.mem_singleton]; exact (OSIK5.out) g o ha hp⟩⟩
  replace K4 := Lib.hid ((K4.out).keptB hb)
  replace K5 := Lib.hid ((K5.out).keptB hb)
  replace HB := Lib.hid (bstep HB.out hb)
  have I5 : Hid (gK5 < B) := by have := HI5.out; have := hb.size; rw [Hid]; omega
  have HWB : Hid (w.heap.size ≤ B) := by rw [Hid, ← hBz]; exact (HB.out).size
  have I4 : Hid (gK4 < B) := by have := (K4.out).inside; rw [Hid]; omega
  clear hb h2 h3 hl2 hl3 HI5 HSL SI K3 hBz
  go_wp2_with fail
  refine (wpIn_wide (n := 3)).1 ?_
  refine wpIn_rangeFunc_ownH rfl (by omega) (gf := 32) (lb := #[.pointer (some ⟨b2, 0, none⟩), .pointer (some ⟨b3, 0, none⟩)]) rfl trivial (enters_of Try.func32 (by kernel_rfl) rfl)
    (heard_stops Fence.wide (3 - 1) trivial rfl (by omega) [gK5] B b2 b3 A n c l r c1 HA.out HOF.out (by omega)) onlyB_t (onlyB_b (Nat.le_of_eq (HBZ.out).symm)) (Below.refl _ _) (fun _ => rfl)
    (fun pre W => Coll w.heap.size B w 22 31 32 gK5 pre.length (setsL8 pre) W ∧ Holds W gK4 34 (chA zeroCh))
    (fun _ _ _ => False)
    (fun pre W V row hs hg hr => ⟨Coll.grown hs.1 hg HWB.out (fun q e => by have := hr q e; rw [HBZ.out] at this; exact this), Holds.grown hs.2 hg (ne_cells hr hs.2.is_cells)⟩)
    (fun _ _ _ _ _ hs _ _ => hs)
    ⟨⟨⟨_, K5.out, RowB.nil (Nat.le_of_eq (HBZ.out).symm)⟩, HB.out⟩, K4.out⟩
    (fun x a' W => ∃ Bx, B ≤ Bx ∧ Holds W Bx 31 (rsA x) ∧ a' = { tmps := #[.slice A n c, .agg (ptA r), undef, .pointer (some ⟨gK3, 0, none⟩), .pointer (some ⟨gK4, 0, none⟩), .pointer (some ⟨gK5, 0, none⟩), .pointer (some ⟨Bx, 0, none⟩), undef, undef, .slice A n c, .agg (ptA r), .func (.func 32) #[] #[.pointer (some ⟨b2, 0, none⟩), .pointer (some ⟨b3, 0, none⟩)], .agg (rsA x), undef, undef, undef, undef, undef, undef, undef, undef, undef, undef, undef, undef, undef, undef], defers := [] })
    (fun x a' _ X Y row hs hg hr => by obtain ⟨Bx, h1, h2, h3⟩ := hs; exact ⟨Bx, h1, Holds.grown h2 hg (ne_cells hr h2.is_cells), h3⟩)
    ?assign ?body ?done ?stop
  clear K4 K5 HA HB
  case assign =>
    rintro lq pre x W K ⟨hC, h4⟩ hK
    have HK := Lib.hid hK
    have HC := Lib.hid hC
    have K4 := Lib.hid h4
    have HWZ : Hid (B ≤ W.heap.size) := by obtain ⟨⟨_, _, h2⟩, _⟩ := hC; exact h2.low
    clear hK hC h4
    simp only [List.zip_toArray, List.zip_cons_cons, List.zip_nil_right, List.foldl_toArray, List.foldl_cons, List.foldl_nil, List.setIfInBounds_toArray, List.set_cons_succ, List.set_cons_zero]
    gi_wp2_with (first | (refine fe_fill rfl 31 _ _ rfl g6 (rsA x) rfl rfl K6.out (by kernel_rfl) (by kernel_rfl) (by kernel_rfl) ?_; intro w4 n4 t4; have HB4 := Lib.hid (btouch B3.out t4 (Nat.le_of_eq G6.out)); replace K6 := Lib.hid n4; clear n4 t4) | (refine fe_alloc rfl 31 rfl (rsA zeroR) (by kernel_rfl) ?_; intro g6 w3 hg6 n3 hb3; have K6 := Lib.hid n3; have B3 := Lib.hid hb3; have G6 := Lib.hid hg6; clear n3 hb3 hg6) | gi_in)
    have hb4 := HB4.out
    have hw := HWZ.out
    have hg6 := G6.out
    exact HK.out _ _ (KeepsFrom.of_grownBy (fe_grown hb4) (fun j e => by cases e)) (only_of_below hb4 hw) ⟨(HC.out).grown (fe_grown hb4) HWB.out (fun q e => by cases e), (K4.out).keptB hb4⟩ ⟨g6, by omega, K6.out, rfl⟩
  case body =>
    rintro lq pre x a' W hl ⟨rq, hr⟩ ⟨⟨⟨v, hv, hrow⟩, hB⟩, h4⟩ ⟨Bx, hBx, bX, rfl⟩ hlt
    clear hr hl
    have hc := hv.reads (i := 0) (x := v) rfl
    have OW := Lib.hid hrow
    have K5 := Lib.hid hv
    have K4 := Lib.hid h4
    have HB := Lib.hid hB
    have K6 := Lib.hid bX
    have HBX := Lib.hid hBx
    have HLT : Hid (pre.length + 1 ≤ 1000000) := by rw [Hid]; have := HLN.out; omega
    clear hv hrow hB h4 bX hlt hBx
    gi_wp2_with (first | (refine fe_set rfl 22 _ _ rfl gK5 0 v2 rfl rfl K5b.out (by kernel_rfl) ON2.out ON1.out (of_decide_eq_true (by kernel_rfl)) #[v2] rfl ?_; intro w8 n8 t8; have K5c := Lib.hid n8; have T8 := Lib.hid t8; clear n8 t8) | (refine fe_append rfl _ _ 22 31 rfl (.agg (rsA zeroR)) 32 88 Try.underlying22 info_set9 rfl (by omega) (by omega) B rfl OW5.out g9 1 (setsL8 [x]) rfl rfl ((K9.out).range (by kernel_rfl)) (by kernel_rfl) HLT.out ?_; intro v2 w7 ow7 hg7; obtain ⟨gq, cq, hq⟩ := ownsRow_succ ow7.row; have ON1 : Hid (v2.cells = #[v2]) := (by rw [hq]; rfl); have ON2 : Hid (v2.oneCell' = true) := (by rw [hq]; rfl); clear hq gq cq; have OW7 := Lib.hid ow7; have G7 := Lib.hid hg7; have K5b := Lib.hid (Holds.grown K5a.out hg7 ((OW5.out).ne I5.out)); clear ow7 hg7) | (refine fe_slices rfl 22 31 1 _ rfl (rsA x) 32 Try.underlying22 rfl rfl rfl (of_decide_eq_true (by kernel_rfl)) (of_decide_eq_true (by kernel_rfl)) (by kernel_rfl) ?_; intro g9 w5 hg9 n9 hb9; have K9 := Lib.hid n9; have B5 := Lib.hid hb9; have OW5 := Lib.hid ((OW.out).keptB hb9); have K5a := Lib.hid ((K5.out).keptB hb9); clear hg9 n9 hb9) | (refine fe_whole rfl 31 _ rfl Bx rfl K6.out Try.underlying31 rfl (by kernel_rfl) ?_) | gi_in)
    have k1 := fe_grown B5.out
    have k2 := G7.out
    have k3 := touch_grown T8.out
    have hw5 := (B5.out).size
    have hwb := (OW.out).low
    have hw7 := k2.size
    have i5 := I5.out
    refine ⟨(((keeps_below B5.out).trans (keeps_grown k2 (fun g e => (OW5.out).own_cells e))).trans (keeps_touch T8.out K5b.out)).from _, onlyB_t (onlyB_t (only_of_below B5.out hwb) (only_of_grown k2 (by omega) (fun b e => .inl ((OW5.out).blocks b e).1))) (only_of_touch T8.out (.inr (by simp))), ⟨⟨v2, K5c.out, ?_⟩, ?_⟩, ?_⟩
    · have := RowB.touch OW7.out T8.out ((OW7.out).ne I5.out)
      rw [setsL8_append, List.length_append]
      exact this
    · have h1 := ((HB.out).trans ((B5.out).mono (HB.out).size)).grown k2 (by have := HWB.out; omega) (fun k e => Nat.le_trans HWB.out ((OW5.out).blocks k e).1)
      exact btouch h1 T8.out LK5.out
    · exact (Holds.grown (Holds.keptB K4.out B5.out) k2 ((OW5.out).ne I4.out)).touch T8.out (OK4K5.out)
  case done =>
    rintro D ys W hD rfl ⟨⟨⟨v, hv, hrow⟩, hB⟩, h4⟩ hdf
    have SI0 := own_sets8 hrow.row
    obtain ⟨A2, n2, c2, rfl, hn2, _⟩ := id SI0
    have SI := Lib.hid SI0
    have K5 := Lib.hid hv
    have K4 := Lib.hid h4
    have HB := Lib.hid hB
    have KD := Lib.hid (show DefAt W D from hdf)
    have HD : Hid (w.heap.size ≤ D) := by rw [Hid]; have := HWB.out; have := HBZ.out; omega
    have HYL : Hid ((heardL r l).length ≤ 1000000) := by rw [Hid]; unfold heardL; rw [List.length_map, HLN.out]; omega
    have HYO := Lib.hid (heardL_ok HO.out HR.out)
    have OK4KD := Lib.hid (Ne.symm ((KD.out).ne K4.out))
    clear hv hrow hB h4 hdf SI0 hD
    rcases portN_yes l r with ⟨h1, h2⟩ | ⟨k, a, h1, h2, h3⟩
    · have HF := Lib.hid h1
      have HX := Lib.hid h2
      clear h1 h2
      go_wp2_with fail
      refine wp_region_noPanic ?_
      refine wp_region_held_drew (S := fun v => Below w.heap.size w v ∧ SetsIn v (.slice A2 n2 c2) (heardL r l) ∧ Holds v gK5 22 #[.slice A2 n2 c2] ∧ Holds v gK4 34 (chA zeroCh) ∧ DefAt v D ∧ True) (by kernel_rfl) ?_ (fun hHeld => ?_)
      · exact ⟨bdrew HB.out, (SI.out).drew, (K5.out).drew, (K4.out).drew, (KD.out).drew, trivial⟩
      clear HB SI K5 K4 KD
      refine wpAnyH_take (i := 0) (v := .slice A2 n2 c2) (at_list rfl) (by kernel_rfl) (by kernel_rfl) (by kernel_rfl) (fun _ _ _ h => h) (Or.inl ⟨by rfl, ?_⟩) hHeld ?_
      · intro v hSv
        clear hHeld
        have q := Holds.reads (hSv.2.2.1) (i := 0) (x := .slice A2 n2 c2) rfl
        clear hSv
        go_simp
      try simp only [Act.put, List.setIfInBounds_toArray, List.set_cons_zero, List.set_cons_succ]
      refine wpAnyH_take (i := 1) (v := .slice A2 n2 c2) (at_list rfl) (by kernel_rfl) (by kernel_rfl) (by kernel_rfl) (fun _ _ _ h => h) (Or.inl ⟨by rfl, ?_⟩) hHeld ?_
      · intro v hSv
        clear hHeld
        have q := Holds.reads (hSv.2.2.1) (i := 0) (x := .slice A2 n2 c2) rfl
        clear hSv
        go_simp
      try simp only [Act.put, List.setIfInBounds_toArray, List.set_cons_zero, List.set_cons_succ]
      refine wpAnyH_ready (rs := [2, 7]) (by kernel_rfl) (by simp) ?_
      refine AllReadyH.cons (at_list rfl) (fun K hK => ?_) ?_
      · go_simp
        refine (first7_in _ (heardL r l) _ HYO.out HYL.out (hHeld.2.1)).mono ?_
        rintro e v1 ⟨rfl, hv1⟩
        rw [HF.out]
        go_wp2_with fail
        refine hK.out _ _ ?_ (fun hHeld2 => ?_)
        · exact ⟨bstep hHeld.1 hv1, (hHeld.2.1).keptB hv1, (hHeld.2.2.1).keptB hv1, (hHeld.2.2.2.1).keptB hv1, (hHeld.2.2.2.2.1).keptB hv1, trivial⟩
        clear hK K hHeld
        have hHeld := hHeld2
        clear hHeld2 hv1
        try simp only [Act.put, List.setIfInBounds_toArray, List.set_cons_zero, List.set_cons_succ]
        refine wpAnyH_ready (rs := [3, 7]) (by kernel_rfl) (by simp) ?_
        refine AllReadyH.cons (at_list rfl) (fun K hK => ?_) ?_
        · go_simp
          refine (at9_no A2 n2 c2 (-1) _ (by decide)).mono ?_
          rintro e v2 ⟨rfl, hv2⟩
          go_wp2_with fail
          refine hK.out _ _ ?_ (fun hHeld2 => ?_)
          · exact ⟨bstep hHeld.1 hv2, (hHeld.2.1).keptB hv2, (hHeld.2.2.1).keptB hv2, (hHeld.2.2.2.1).keptB hv2, (hHeld.2.2.2.2.1).keptB hv2, trivial⟩
          clear hK K hHeld
          have hHeld := hHeld2
          clear hHeld2 hv2
          try simp only [Act.put, List.setIfInBounds_toArray, List.set_cons_zero, List.set_cons_succ]
          refine wpAnyH_take (i := 4) (v := .tuple #[.agg (rsA zeroR), .bool false]) (at_list rfl) (by kernel_rfl) (by kernel_rfl) (by kernel_rfl) (fun _ _ _ h => h) (Or.inl ⟨by rfl, ?_⟩) hHeld ?_
          · intro v hSv
            clear hHeld
            go_simp
          try simp only [Act.put, List.setIfInBounds_toArray, List.set_cons_zero, List.set_cons_succ]
          refine wpAnyH_take (i := 5) (v := .agg (rsA zeroR)) (at_list rfl) (by kernel_rfl) (by kernel_rfl) (by kernel_rfl) (fun _ _ _ h => h) (Or.inl ⟨by rfl, ?_⟩) hHeld ?_
          · intro v hSv
            clear hHeld
            go_simp
          try simp only [Act.put, List.setIfInBounds_toArray, List.set_cons_zero, List.set_cons_succ]
          refine wpAnyH_take (i := 6) (v := .bool false) (at_list rfl) (by kernel_rfl) (by kernel_rfl) (by kernel_rfl) (fun _ _ _ h => h) (Or.inl ⟨by rfl, ?_⟩) hHeld ?_
          · intro v hSv
            clear hHeld
            go_simp
          try simp only [Act.put, List.setIfInBounds_toArray, List.set_cons_zero, List.set_cons_succ]
          refine wpAnyH_ready (rs := [7]) (by kernel_rfl) (by simp) ?_
          refine AllReadyH.cons (at_list rfl) (fun K hK => ?_) ?_
          · refine step_alloc (by rfl) 31 rfl (rsA zeroR) (by kernel_rfl) ?_
            intro gK7 wK7 hlK7 nK7 hbK7
            have K7 := Lib.hid nK7
            have LK7 := Lib.hid (Nat.le_trans (hHeld.1).size hlK7)
            have OSIK7 := Lib.hid ((hHeld.2.1).off hlK7)
            have OK5K7 := Lib.hid ((hHeld.2.2.1).off hlK7)
            have OK4K7 := Lib.hid ((hHeld.2.2.2.1).off hlK7)
            have OKDK7 := Lib.hid ((hHeld.2.2.2.2.1).off hlK7)
            refine hK.out _ _ ?_ (fun hHeld2 => ?_)
            · exact ⟨bstep hHeld.1 hbK7, (hHeld.2.1).keptB hbK7, (hHeld.2.2.1).keptB hbK7, (hHeld.2.2.2.1).keptB hbK7, (hHeld.2.2.2.2.1).keptB hbK7, trivial⟩
            clear hK K hHeld
            have hHeld := hHeld2
            clear hHeld2
            try simp only [Act.put]
            clear hlK7 nK7 hbK7
            try simp only [List.setIfInBounds_toArray, List.set_cons_zero, List.set_cons_succ]
            refine wpAnyH_ready (rs := [8]) (by kernel_rfl) (by simp) ?_
            refine AllReadyH.cons (at_list rfl) (fun K hK => ?_) AllReadyH.nil
            refine step_fill (by rfl) 31 _ _ rfl gK7 (rsA zeroR) rfl rfl K7.out (by kernel_rfl) (by kernel_rfl) (by kernel_rfl) ?_
            intro vK70 nK7 htK7
            replace K7 := Lib.hid nK7
            refine hK.out _ _ ?_ (fun hHeld2 => ?_)
            · exact ⟨btouch hHeld.1 htK7 LK7.out, (hHeld.2.1).touch htK7 OSIK7.out, (hHeld.2.2.1).touch htK7 OK5K7.out, (hHeld.2.2.2.1).touch htK7 OK4K7.out, (hHeld.2.2.2.2.1).touch htK7 OKDK7.out, trivial⟩
            clear hK K hHeld
            have hHeld := hHeld2
            clear hHeld2
            try simp only [Act.put]
            clear nK7 htK7
            try simp only [List.setIfInBounds_toArray, List.set_cons_zero, List.set_cons_succ]
            refine wpAnyH_take (i := 9) (v := .bool false) (at_list rfl) (by kernel_rfl) (by kernel_rfl) (by kernel_rfl) (fun _ _ _ h => h) (Or.inl ⟨by rfl, ?_⟩) hHeld ?_
            · intro v hSv
              clear hHeld
              go_simp
            try simp only [Act.put, List.setIfInBounds_toArray, List.set_cons_zero, List.set_cons_succ]
            refine wpAnyH_done (by kernel_rfl) ?_ _
            refine NoPanic.normal ?_
            have HB := Lib.hid hHeld.1
            have SI := Lib.hid hHeld.2.1
            have K5 := Lib.hid hHeld.2.2.1
            have K4 := Lib.hid hHeld.2.2.2.1
            have KD := Lib.hid hHeld.2.2.2.2.1
            clear hHeld
            go_wp2_with (first | (refine big_fill rfl 34 _ _ rfl gK4 (chA zeroCh) rfl rfl K4.out (by kernel_rfl) (by kernel_rfl) (by kernel_rfl) ?_; intro vK49 nK4 htK4; replace K4 := Lib.hid nK4; replace KD := Lib.hid ((KD.out).touch htK4 (Ne.symm OK4KD.out)); replace K7 := Lib.hid ((K7.out).touch htK4 (Ne.symm OK4K7.out)); replace HB := Lib.hid (btouch HB.out htK4 LK4.out); clear nK4 htK4; try simp only [Act.put, List.setIfInBounds_toArray, List.set_cons_zero, List.set_cons_succ]) | (refine big_build rfl 34 _ rfl (chA zeroCh) (by kernel_rfl) ?_; try simp only [Act.put, List.setIfInBounds_toArray, List.set_cons_zero, List.set_cons_succ]) | (refine big_whole rfl 31 _ rfl gK7 rfl K7.out Try.underlying31 rfl (by kernel_rfl) ?_; try simp only [Act.put, List.setIfInBounds_toArray, List.set_cons_zero, List.set_cons_succ]))
            refine ⟨by simp, .inl ⟨_, _, rfl, run_takeDeferred KD.out, ?_⟩⟩
            have kq := (KD.out).shut K4.out (.deferred none)
            have kb := (KD.out).below HB.out HD.out (.deferred none)
            exact ⟨_, results_cell_row rfl _ _ gK4 _ _ (0, 0) _ rfl kq Try.underlying34 rfl (by kernel_rfl), by rw [HX.out], kb⟩
          exact AllReadyH.nil
        refine AllReadyH.cons (at_list rfl) (fun K hK => ?_) ?_
        · refine step_alloc (by rfl) 31 rfl (rsA zeroR) (by kernel_rfl) ?_
          intro gK7 wK7 hlK7 nK7 hbK7
          have K7 := Lib.hid nK7
          have LK7 := Lib.hid (Nat.le_trans (hHeld.1).size hlK7)
          have OSIK7 := Lib.hid ((hHeld.2.1).off hlK7)
          have OK5K7 := Lib.hid ((hHeld.2.2.1).off hlK7)
          have OK4K7 := Lib.hid ((hHeld.2.2.2.1).off hlK7)
          have OKDK7 := Lib.hid ((hHeld.2.2.2.2.1).off hlK7)
          refine hK.out _ _ ?_ (fun hHeld2 => ?_)
          · exact ⟨bstep hHeld.1 hbK7, (hHeld.2.1).keptB hbK7, (hHeld.2.2.1).keptB hbK7, (hHeld.2.2.2.1).keptB hbK7, (hHeld.2.2.2.2.1).keptB hbK7, trivial⟩
          clear hK K hHeld
          have hHeld := hHeld2
          clear hHeld2
          try simp only [Act.put]
          clear hlK7 nK7 hbK7
          try simp only [List.setIfInBounds_toArray, List.set_cons_zero, List.set_cons_succ]
          refine wpAnyH_ready (rs := [3]) (by kernel_rfl) (by simp) ?_
          refine AllReadyH.cons (at_list rfl) (fun K hK => ?_) ?_
          · go_simp
            refine (at9_no A2 n2 c2 (-1) _ (by decide)).mono ?_
            rintro e v2 ⟨rfl, hv2⟩
            replace K7 := Lib.hid ((K7.out).keptB hv2)
            go_wp2_with fail
            refine hK.out _ _ ?_ (fun hHeld2 => ?_)
            · exact ⟨bstep hHeld.1 hv2, (hHeld.2.1).keptB hv2, (hHeld.2.2.1).keptB hv2, (hHeld.2.2.2.1).keptB hv2, (hHeld.2.2.2.2.1).keptB hv2, trivial⟩
            clear hK K hHeld
            have hHeld := hHeld2
            clear hHeld2 hv2
            try simp only [Act.put, List.setIfInBounds_toArray, List.set_cons_zero, List.set_cons_succ]
            refine wpAnyH_take (i := 4) (v := .tuple #[.agg (rsA zeroR), .bool false]) (at_list rfl) (by kernel_rfl) (by kernel_rfl) (by kernel_rfl) (fun _ _ _ h => h) (Or.inl ⟨by rfl, ?_⟩) hHeld ?_
            · intro v hSv
              clear hHeld
              go_simp
            try simp only [Act.put, List.setIfInBounds_toArray, List.set_cons_zero, List.set_cons_succ]
            refine wpAnyH_take (i := 5) (v := .agg (rsA zeroR)) (at_list rfl) (by kernel_rfl) (by kernel_rfl) (by kernel_rfl) (fun _ _ _ h => h) (Or.inl ⟨by rfl, ?_⟩) hHeld ?_
            · intro v hSv
              clear hHeld
              go_simp
            try simp only [Act.put, List.setIfInBounds_toArray, List.set_cons_zero, List.set_cons_succ]
            refine wpAnyH_take (i := 6) (v := .bool false) (at_list rfl) (by kernel_rfl) (by kernel_rfl) (by kernel_rfl) (fun _ _ _ h => h) (Or.inl ⟨by rfl, ?_⟩) hHeld ?_
            · intro v hSv
              clear hHeld
              go_simp
            try simp only [Act.put, List.setIfInBounds_toArray, List.set_cons_zero, List.set_cons_succ]
            refine wpAnyH_ready (rs := [8]) (by kernel_rfl) (by simp) ?_
            refine AllReadyH.cons (at_list rfl) (fun K hK => ?_) AllReadyH.nil
            refine step_fill (by rfl) 31 _ _ rfl gK7 (rsA zeroR) rfl rfl K7.out (by kernel_rfl) (by kernel_rfl) (by kernel_rfl) ?_
            intro vK70 nK7 htK7
            replace K7 := Lib.hid nK7
            refine hK.out _ _ ?_ (fun hHeld2 => ?_)
            · exact ⟨btouch hHeld.1 htK7 LK7.out, (hHeld.2.1).touch htK7 OSIK7.out, (hHeld.2.2.1).touch htK7 OK5K7.out, (hHeld.2.2.2.1).touch htK7 OK4K7.out, (hHeld.2.2.2.2.1).touch htK7 OKDK7.out, trivial⟩
            clear hK K hHeld
            have hHeld := hHeld2
            clear hHeld2
            try simp only [Act.put]
            clear nK7 htK7
            try simp only [List.setIfInBounds_toArray, List.set_cons_zero, List.set_cons_succ]
            refine wpAnyH_take (i := 9) (v := .bool false) (at_list rfl) (by kernel_rfl) (by kernel_rfl) (by kernel_rfl) (fun _ _ _ h => h) (Or.inl ⟨by rfl, ?_⟩) hHeld ?_
            · intro v hSv
              clear hHeld
              go_simp
            try simp only [Act.put, List.setIfInBounds_toArray, List.set_cons_zero, List.set_cons_succ]
            refine wpAnyH_done (by kernel_rfl) ?_ _
            refine NoPanic.normal ?_
            have HB := Lib.hid hHeld.1
            have SI := Lib.hid hHeld.2.1
            have K5 := Lib.hid hHeld.2.2.1
            have K4 := Lib.hid hHeld.2.2.2.1
            have KD := Lib.hid hHeld.2.2.2.2.1
            clear hHeld
            go_wp2_with (first | (refine big_fill rfl 34 _ _ rfl gK4 (chA zeroCh) rfl rfl K4.out (by kernel_rfl) (by kernel_rfl) (by kernel_rfl) ?_; intro vK49 nK4 htK4; replace K4 := Lib.hid nK4; replace KD := Lib.hid ((KD.out).touch htK4 (Ne.symm OK4KD.out)); replace K7 := Lib.hid ((K7.out).touch htK4 (Ne.symm OK4K7.out)); replace HB := Lib.hid (btouch HB.out htK4 LK4.out); clear nK4 htK4; try simp only [Act.put, List.setIfInBounds_toArray, List.set_cons_zero, List.set_cons_succ]) | (refine big_build rfl 34 _ rfl (chA zeroCh) (by kernel_rfl) ?_; try simp only [Act.put, List.setIfInBounds_toArray, List.set_cons_zero, List.set_cons_succ]) | (refine big_whole rfl 31 _ rfl gK7 rfl K7.out Try.underlying31 rfl (by kernel_rfl) ?_; try simp only [Act.put, List.setIfInBounds_toArray, List.set_cons_zero, List.set_cons_succ]))
            refine ⟨by simp, .inl ⟨_, _, rfl, run_takeDeferred KD.out, ?_⟩⟩
            have kq := (KD.out).shut K4.out (.deferred none)
            have kb := (KD.out).below HB.out HD.out (.deferred none)
            exact ⟨_, results_cell_row rfl _ _ gK4 _ _ (0, 0) _ rfl kq Try.underlying34 rfl (by kernel_rfl), by rw [HX.out], kb⟩
          exact AllReadyH.nil
        exact AllReadyH.nil
      refine AllReadyH.cons (at_list rfl) (fun K hK => ?_) ?_
      · refine step_alloc (by rfl) 31 rfl (rsA zeroR) (by kernel_rfl) ?_
        intro gK7 wK7 hlK7 nK7 hbK7
        have K7 := Lib.hid nK7
        have LK7 := Lib.hid (Nat.le_trans (hHeld.1).size hlK7)
        have OSIK7 := Lib.hid ((hHeld.2.1).off hlK7)
        have OK5K7 := Lib.hid ((hHeld.2.2.1).off hlK7)
        have OK4K7 := Lib.hid ((hHeld.2.2.2.1).off hlK7)
        have OKDK7 := Lib.hid ((hHeld.2.2.2.2.1).off hlK7)
        refine hK.out _ _ ?_ (fun hHeld2 => ?_)
        · exact ⟨bstep hHeld.1 hbK7, (hHeld.2.1).keptB hbK7, (hHeld.2.2.1).keptB hbK7, (hHeld.2.2.2.1).keptB hbK7, (hHeld.2.2.2.2.1).keptB hbK7, trivial⟩
        clear hK K hHeld
        have hHeld := hHeld2
        clear hHeld2
        try simp only [Act.put]
        clear hlK7 nK7 hbK7
        try simp only [List.setIfInBounds_toArray, List.set_cons_zero, List.set_cons_succ]
        refine wpAnyH_ready (rs := [2]) (by kernel_rfl) (by simp) ?_
        refine AllReadyH.cons (at_list rfl) (fun K hK => ?_) ?_
        · go_simp
          refine (first7_in _ (heardL r l) _ HYO.out HYL.out (hHeld.2.1)).mono ?_
          rintro e v1 ⟨rfl, hv1⟩
          replace K7 := Lib.hid ((K7.out).keptB hv1)
          rw [HF.out]
          go_wp2_with fail
          refine hK.out _ _ ?_ (fun hHeld2 => ?_)
          · exact ⟨bstep hHeld.1 hv1, (hHeld.2.1).keptB hv1, (hHeld.2.2.1).keptB hv1, (hHeld.2.2.2.1).keptB hv1, (hHeld.2.2.2.2.1).keptB hv1, trivial⟩
          clear hK K hHeld
          have hHeld := hHeld2
          clear hHeld2 hv1
          try simp only [Act.put, List.setIfInBounds_toArray, List.set_cons_zero, List.set_cons_succ]
          refine wpAnyH_ready (rs := [3]) (by kernel_rfl) (by simp) ?_
          refine AllReadyH.cons (at_list rfl) (fun K hK => ?_) ?_
          · go_simp
            refine (at9_no A2 n2 c2 (-1) _ (by decide)).mono ?_
            rintro e v2 ⟨rfl, hv2⟩
            replace K7 := Lib.hid ((K7.out).keptB hv2)
            go_wp2_with fail
            refine hK.out _ _ ?_ (fun hHeld2 => ?_)
            · exact ⟨bstep hHeld.1 hv2, (hHeld.2.1).keptB hv2, (hHeld.2.2.1).keptB hv2, (hHeld.2.2.2.1).keptB hv2, (hHeld.2.2.2.2.1).keptB hv2, trivial⟩
            clear hK K hHeld
            have hHeld := hHeld2
            clear hHeld2 hv2
            try simp only [Act.put, List.setIfInBounds_toArray, List.set_cons_zero, List.set_cons_succ]
            refine wpAnyH_take (i := 4) (v := .tuple #[.agg (rsA zeroR), .bool false]) (at_list rfl) (by kernel_rfl) (by kernel_rfl) (by kernel_rfl) (fun _ _ _ h => h) (Or.inl ⟨by rfl, ?_⟩) hHeld ?_
            · intro v hSv
              clear hHeld
              go_simp
            try simp only [Act.put, List.setIfInBounds_toArray, List.set_cons_zero, List.set_cons_succ]
            refine wpAnyH_take (i := 5) (v := .agg (rsA zeroR)) (at_list rfl) (by kernel_rfl) (by kernel_rfl) (by kernel_rfl) (fun _ _ _ h => h) (Or.inl ⟨by rfl, ?_⟩) hHeld ?_
            · intro v hSv
              clear hHeld
              go_simp
            try simp only [Act.put, List.setIfInBounds_toArray, List.set_cons_zero, List.set_cons_succ]
            refine wpAnyH_take (i := 6) (v := .bool false) (at_list rfl) (by kernel_rfl) (by kernel_rfl) (by kernel_rfl) (fun _ _ _ h => h) (Or.inl ⟨by rfl, ?_⟩) hHeld ?_
            · intro v hSv
              clear hHeld
              go_simp
            try simp only [Act.put, List.setIfInBounds_toArray, List.set_cons_zero, List.set_cons_succ]
            refine wpAnyH_ready (rs := [8]) (by kernel_rfl) (by simp) ?_
            refine AllReadyH.cons (at_list rfl) (fun K hK => ?_) AllReadyH.nil
            refine step_fill (by rfl) 31 _ _ rfl gK7 (rsA zeroR) rfl rfl K7.out (by kernel_rfl) (by kernel_rfl) (by kernel_rfl) ?_
            intro vK70 nK7 htK7
            replace K7 := Lib.hid nK7
            refine hK.out _ _ ?_ (fun hHeld2 => ?_)
            · exact ⟨btouch hHeld.1 htK7 LK7.out, (hHeld.2.1).touch htK7 OSIK7.out, (hHeld.2.2.1).touch htK7 OK5K7.out, (hHeld.2.2.2.1).touch htK7 OK4K7.out, (hHeld.2.2.2.2.1).touch htK7 OKDK7.out, trivial⟩
            clear hK K hHeld
            have hHeld := hHeld2
            clear hHeld2
            try simp only [Act.put]
            clear nK7 htK7
            try simp only [List.setIfInBounds_toArray, List.set_cons_zero, List.set_cons_succ]
            refine wpAnyH_take (i := 9) (v := .bool false) (at_list rfl) (by kernel_rfl) (by kernel_rfl) (by kernel_rfl) (fun _ _ _ h => h) (Or.inl ⟨by rfl, ?_⟩) hHeld ?_
            · intro v hSv
              clear hHeld
              go_simp
            try simp only [Act.put, List.setIfInBounds_toArray, List.set_cons_zero, List.set_cons_succ]
            refine wpAnyH_done (by kernel_rfl) ?_ _
            refine NoPanic.normal ?_
            have HB := Lib.hid hHeld.1
            have SI := Lib.hid hHeld.2.1
            have K5 := Lib.hid hHeld.2.2.1
            have K4 := Lib.hid hHeld.2.2.2.1
            have KD := Lib.hid hHeld.2.2.2.2.1
            clear hHeld
            go_wp2_with (first | (refine big_fill rfl 34 _ _ rfl gK4 (chA zeroCh) rfl rfl K4.out (by kernel_rfl) (by kernel_rfl) (by kernel_rfl) ?_; intro vK49 nK4 htK4; replace K4 := Lib.hid nK4; replace KD := Lib.hid ((KD.out).touch htK4 (Ne.symm OK4KD.out)); replace K7 := Lib.hid ((K7.out).touch htK4 (Ne.symm OK4K7.out)); replace HB := Lib.hid (btouch HB.out htK4 LK4.out); clear nK4 htK4; try simp only [Act.put, List.setIfInBounds_toArray, List.set_cons_zero, List.set_cons_succ]) | (refine big_build rfl 34 _ rfl (chA zeroCh) (by kernel_rfl) ?_; try simp only [Act.put, List.setIfInBounds_toArray, List.set_cons_zero, List.set_cons_succ]) | (refine big_whole rfl 31 _ rfl gK7 rfl K7.out Try.underlying31 rfl (by kernel_rfl) ?_; try simp only [Act.put, List.setIfInBounds_toArray, List.set_cons_zero, List.set_cons_succ]))
            refine ⟨by simp, .inl ⟨_, _, rfl, run_takeDeferred KD.out, ?_⟩⟩
            have kq := (KD.out).shut K4.out (.deferred none)
            have kb := (KD.out).below HB.out HD.out (.deferred none)
            exact ⟨_, results_cell_row rfl _ _ gK4 _ _ (0, 0) _ rfl kq Try.underlying34 rfl (by kernel_rfl), by rw [HX.out], kb⟩
          exact AllReadyH.nil
        exact AllReadyH.nil
      exact AllReadyH.nil
    · have HF := Lib.hid h1
      have HX := Lib.hid h3
      have HAK := Lib.hid h2
      have hkl := (List.getElem?_eq_some_iff.1 h2).1
      clear h1 h2 h3
      obtain ⟨g2, o2, hA2⟩ : ∃ g o, A2 = some ⟨g, o, none⟩ := by
        obtain ⟨_, _, _, h1, _, h3⟩ := SI.out
        cases h1
        obtain ⟨g, o, h4, _⟩ := h3 (by omega)
        exact ⟨g, o, h4⟩
      subst hA2
      clear hkl
      go_wp2_with fail
      refine wp_region_noPanic ?_
      refine wp_region_held_drew (S := fun v => Below w.heap.size w v ∧ SetsIn v (.slice (some ⟨g2, o2, none⟩) n2 c2) (heardL r l) ∧ Holds v gK5 22 #[.slice (some ⟨g2, o2, none⟩) n2 c2] ∧ Holds v gK4 34 (chA zeroCh) ∧ DefAt v D ∧ True) (by kernel_rfl) ?_ (fun hHeld => ?_)
      · exact ⟨bdrew HB.out, (SI.out).drew, (K5.out).drew, (K4.out).drew, (KD.out).drew, trivial⟩
      clear HB SI K5 K4 KD
      refine wpAnyH_take (i := 0) (v := .slice (some ⟨g2, o2, none⟩) n2 c2) (at_list rfl) (by kernel_rfl) (by kernel_rfl) (by kernel_rfl) (fun _ _ _ h => h) (Or.inl ⟨by rfl, ?_⟩) hHeld ?_
      · intro v hSv
        clear hHeld
        have q := Holds.reads (hSv.2.2.1) (i := 0) (x := .slice (some ⟨g2, o2, none⟩) n2 c2) rfl
        clear hSv
        go_simp
      try simp only [Act.put, List.setIfInBounds_toArray, List.set_cons_zero, List.set_cons_succ]
      refine wpAnyH_take (i := 1) (v := .slice (some ⟨g2, o2, none⟩) n2 c2) (at_list rfl) (by kernel_rfl) (by kernel_rfl) (by kernel_rfl) (fun _ _ _ h => h) (Or.inl ⟨by rfl, ?_⟩) hHeld ?_
      · intro v hSv
        clear hHeld
        have q := Holds.reads (hSv.2.2.1) (i := 0) (x := .slice (some ⟨g2, o2, none⟩) n2 c2) rfl
        clear hSv
        go_simp
      try simp only [Act.put, List.setIfInBounds_toArray, List.set_cons_zero, List.set_cons_succ]
      refine wpAnyH_ready (rs := [2, 7]) (by kernel_rfl) (by simp) ?_
      refine AllReadyH.cons (at_list rfl) (fun K hK => ?_) ?_
      · go_simp
        refine (first7_in _ (heardL r l) _ HYO.out HYL.out (hHeld.2.1)).mono ?_
        rintro e v1 ⟨rfl, hv1⟩
        rw [HF.out]
        go_wp2_with fail
        refine hK.out _ _ ?_ (fun hHeld2 => ?_)
        · exact ⟨bstep hHeld.1 hv1, (hHeld.2.1).keptB hv1, (hHeld.2.2.1).keptB hv1, (hHeld.2.2.2.1).keptB hv1, (hHeld.2.2.2.2.1).keptB hv1, trivial⟩
        clear hK K hHeld
        have hHeld := hHeld2
        clear hHeld2 hv1
        try simp only [Act.put, List.setIfInBounds_toArray, List.set_cons_zero, List.set_cons_succ]
        refine wpAnyH_ready (rs := [3, 7]) (by kernel_rfl) (by simp) ?_
        refine AllReadyH.cons (at_list rfl) (fun K hK => ?_) ?_
        · go_simp
          refine (at9_yes g2 o2 n2 c2 k (heardL r l) a _ HAK.out hHeld.2.1).mono ?_
          rintro e v2 ⟨rfl, hv2⟩
          go_wp2_with fail
          refine hK.out _ _ ?_ (fun hHeld2 => ?_)
          · exact ⟨bstep hHeld.1 hv2, (hHeld.2.1).keptB hv2, (hHeld.2.2.1).keptB hv2, (hHeld.2.2.2.1).keptB hv2, (hHeld.2.2.2.2.1).keptB hv2, trivial⟩
          clear hK K hHeld
          have hHeld := hHeld2
          clear hHeld2 hv2
          try simp only [Act.put, List.setIfInBounds_toArray, List.set_cons_zero, List.set_cons_succ]
          refine wpAnyH_take (i := 4) (v := .tuple #[.agg (rsA a), .bool true]) (at_list rfl) (by kernel_rfl) (by kernel_rfl) (by kernel_rfl) (fun _ _ _ h => h) (Or.inl ⟨by rfl, ?_⟩) hHeld ?_
          · intro v hSv
            clear hHeld
            go_simp
          try simp only [Act.put, List.setIfInBounds_toArray, List.set_cons_zero, List.set_cons_succ]
          refine wpAnyH_take (i := 5) (v := .agg (rsA a)) (at_list rfl) (by kernel_rfl) (by kernel_rfl) (by kernel_rfl) (fun _ _ _ h => h) (Or.inl ⟨by rfl, ?_⟩) hHeld ?_
          · intro v hSv
            clear hHeld
            go_simp
          try simp only [Act.put, List.setIfInBounds_toArray, List.set_cons_zero, List.set_cons_succ]
          refine wpAnyH_take (i := 6) (v := .bool true) (at_list rfl) (by kernel_rfl) (by kernel_rfl) (by kernel_rfl) (fun _ _ _ h => h) (Or.inl ⟨by rfl, ?_⟩) hHeld ?_
          · intro v hSv
            clear hHeld
            go_simp
          try simp only [Act.put, List.setIfInBounds_toArray, List.set_cons_zero, List.set_cons_succ]
          refine wpAnyH_ready (rs := [7]) (by kernel_rfl) (by simp) ?_
          refine AllReadyH.cons (at_list rfl) (fun K hK => ?_) ?_
          · refine step_alloc (by rfl) 31 rfl (rsA zeroR) (by kernel_rfl) ?_
            intro gK7 wK7 hlK7 nK7 hbK7
            have K7 := Lib.hid nK7
            have LK7 := Lib.hid (Nat.le_trans (hHeld.1).size hlK7)
            have OSIK7 := Lib.hid ((hHeld.2.1).off hlK7)
            have OK5K7 := Lib.hid ((hHeld.2.2.1).off hlK7)
            have OK4K7 := Lib.hid ((hHeld.2.2.2.1).off hlK7)
            have OKDK7 := Lib.hid ((hHeld.2.2.2.2.1).off hlK7)
            refine hK.out _ _ ?_ (fun hHeld2 => ?_)
            · exact ⟨bstep hHeld.1 hbK7, (hHeld.2.1).keptB hbK7, (hHeld.2.2.1).keptB hbK7, (hHeld.2.2.2.1).keptB hbK7, (hHeld.2.2.2.2.1).keptB hbK7, trivial⟩
            clear hK K hHeld
            have hHeld := hHeld2
            clear hHeld2
            try simp only [Act.put]
            clear hlK7 nK7 hbK7
            try simp only [List.setIfInBounds_toArray, List.set_cons_zero, List.set_cons_succ]
            refine wpAnyH_ready (rs := [8]) (by kernel_rfl) (by simp) ?_
            refine AllReadyH.cons (at_list rfl) (fun K hK => ?_) AllReadyH.nil
            refine step_fill (by rfl) 31 _ _ rfl gK7 (rsA a) rfl rfl K7.out (by kernel_rfl) (by kernel_rfl) (by kernel_rfl) ?_
            intro vK70 nK7 htK7
            replace K7 := Lib.hid nK7
            refine hK.out _ _ ?_ (fun hHeld2 => ?_)
            · exact ⟨btouch hHeld.1 htK7 LK7.out, (hHeld.2.1).touch htK7 OSIK7.out, (hHeld.2.2.1).touch htK7 OK5K7.out, (hHeld.2.2.2.1).touch htK7 OK4K7.out, (hHeld.2.2.2.2.1).touch htK7 OKDK7.out, trivial⟩
            clear hK K hHeld
            have hHeld := hHeld2
            clear hHeld2
            try simp only [Act.put]
            clear nK7 htK7
            try simp only [List.setIfInBounds_toArray, List.set_cons_zero, List.set_cons_succ]
            refine wpAnyH_take (i := 9) (v := .bool true) (at_list rfl) (by kernel_rfl) (by kernel_rfl) (by kernel_rfl) (fun _ _ _ h => h) (Or.inl ⟨by rfl, ?_⟩) hHeld ?_
            · intro v hSv
              clear hHeld
              go_simp
            try simp only [Act.put, List.setIfInBounds_toArray, List.set_cons_zero, List.set_cons_succ]
            refine wpAnyH_done (by kernel_rfl) ?_ _
            refine NoPanic.normal ?_
            have HB := Lib.hid hHeld.1
            have SI := Lib.hid hHeld.2.1
            have K5 := Lib.hid hHeld.2.2.1
            have K4 := Lib.hid hHeld.2.2.2.1
            have KD := Lib.hid hHeld.2.2.2.2.1
            clear hHeld
            go_wp2_with (first | (refine big_fill rfl 34 _ _ rfl gK4 (chA ⟨a, true⟩) rfl rfl K4.out (by kernel_rfl) (by kernel_rfl) (by kernel_rfl) ?_; intro vK49 nK4 htK4; replace K4 := Lib.hid nK4; replace KD := Lib.hid ((KD.out).touch htK4 (Ne.symm OK4KD.out)); replace K7 := Lib.hid ((K7.out).touch htK4 (Ne.symm OK4K7.out)); replace HB := Lib.hid (btouch HB.out htK4 LK4.out); clear nK4 htK4; try simp only [Act.put, List.setIfInBounds_toArray, List.set_cons_zero, List.set_cons_succ]) | (refine big_build rfl 34 _ rfl (chA ⟨a, true⟩) (by kernel_rfl) ?_; try simp only [Act.put, List.setIfInBounds_toArray, List.set_cons_zero, List.set_cons_succ]) | (refine big_whole rfl 31 _ rfl gK7 rfl K7.out Try.underlying31 rfl (by kernel_rfl) ?_; try simp only [Act.put, List.setIfInBounds_toArray, List.set_cons_zero, List.set_cons_succ]))
            refine ⟨by simp, .inl ⟨_, _, rfl, run_takeDeferred KD.out, ?_⟩⟩
            have kq := (KD.out).shut K4.out (.deferred none)
            have kb := (KD.out).below HB.out HD.out (.deferred none)
            exact ⟨_, results_cell_row rfl _ _ gK4 _ _ (0, 0) _ rfl kq Try.underlying34 rfl (by kernel_rfl), by rw [HX.out], kb⟩
          exact AllReadyH.nil
        refine AllReadyH.cons (at_list rfl) (fun K hK => ?_) ?_
        · refine step_alloc (by rfl) 31 rfl (rsA zeroR) (by kernel_rfl) ?_
          intro gK7 wK7 hlK7 nK7 hbK7
          have K7 := Lib.hid nK7
          have LK7 := Lib.hid (Nat.le_trans (hHeld.1).size hlK7)
          have OSIK7 := Lib.hid ((hHeld.2.1).off hlK7)
          have OK5K7 := Lib.hid ((hHeld.2.2.1).off hlK7)
          have OK4K7 := Lib.hid ((hHeld.2.2.2.1).off hlK7)
          have OKDK7 := Lib.hid ((hHeld.2.2.2.2.1).off hlK7)
          refine hK.out _ _ ?_ (fun hHeld2 => ?_)
          · exact ⟨bstep hHeld.1 hbK7, (hHeld.2.1).keptB hbK7, (hHeld.2.2.1).keptB hbK7, (hHeld.2.2.2.1).keptB hbK7, (hHeld.2.2.2.2.1).keptB hbK7, trivial⟩
          clear hK K hHeld
          have hHeld := hHeld2
          clear hHeld2
          try simp only [Act.put]
          clear hlK7 nK7 hbK7
          try simp only [List.setIfInBounds_toArray, List.set_cons_zero, List.set_cons_succ]
          refine wpAnyH_ready (rs := [3]) (by kernel_rfl) (by simp) ?_
          refine AllReadyH.cons (at_list rfl) (fun K hK => ?_) ?_
          · go_simp
            refine (at9_yes g2 o2 n2 c2 k (heardL r l) a _ HAK.out hHeld.2.1).mono ?_
            rintro e v2 ⟨rfl, hv2⟩
            replace K7 := Lib.hid ((K7.out).keptB hv2)
            go_wp2_with fail
            refine hK.out _ _ ?_ (fun hHeld2 => ?_)
            · exact ⟨bstep hHeld.1 hv2, (hHeld.2.1).keptB hv2, (hHeld.2.2.1).keptB hv2, (hHeld.2.2.2.1).keptB hv2, (hHeld.2.2.2.2.1).keptB hv2, trivial⟩
            clear hK K hHeld
            have hHeld := hHeld2
            clear hHeld2 hv2
            try simp only [Act.put, List.setIfInBounds_toArray, List.set_cons_zero, List.set_cons_succ]
            refine wpAnyH_take (i := 4) (v := .tuple #[.agg (rsA a), .bool true]) (at_list rfl) (by kernel_rfl) (by kernel_rfl) (by kernel_rfl) (fun _ _ _ h => h) (Or.inl ⟨by rfl, ?_⟩) hHeld ?_
            · intro v hSv
              clear hHeld
              go_simp
            try simp only [Act.put, List.setIfInBounds_toArray, List.set_cons_zero, List.set_cons_succ]
            refine wpAnyH_take (i := 5) (v := .agg (rsA a)) (at_list rfl) (by kernel_rfl) (by kernel_rfl) (by kernel_rfl) (fun _ _ _ h => h) (Or.inl ⟨by rfl, ?_⟩) hHeld ?_
            · intro v hSv
              clear hHeld
              go_simp
            try simp only [Act.put, List.setIfInBounds_toArray, List.set_cons_zero, List.set_cons_succ]
            refine wpAnyH_take (i := 6) (v := .bool true) (at_list rfl) (by kernel_rfl) (by kernel_rfl) (by kernel_rfl) (fun _ _ _ h => h) (Or.inl ⟨by rfl, ?_⟩) hHeld ?_
            · intro v hSv
              clear hHeld
              go_simp
            try simp only [Act.put, List.setIfInBounds_toArray, List.set_cons_zero, List.set_cons_succ]
            refine wpAnyH_ready (rs := [8]) (by kernel_rfl) (by simp) ?_
            refine AllReadyH.cons (at_list rfl) (fun K hK => ?_) AllReadyH.nil
            refine step_fill (by rfl) 31 _ _ rfl gK7 (rsA a) rfl rfl K7.out (by kernel_rfl) (by kernel_rfl) (by kernel_rfl) ?_
            intro vK70 nK7 htK7
            replace K7 := Lib.hid nK7
            refine hK.out _ _ ?_ (fun hHeld2 => ?_)
            · exact ⟨btouch hHeld.1 htK7 LK7.out, (hHeld.2.1).touch htK7 OSIK7.out, (hHeld.2.2.1).touch htK7 OK5K7.out, (hHeld.2.2.2.1).touch htK7 OK4K7.out, (hHeld.2.2.2.2.1).touch htK7 OKDK7.out, trivial⟩
            clear hK K hHeld
            have hHeld := hHeld2
            clear hHeld2
            try simp only [Act.put]
            clear nK7 htK7
            try simp only [List.setIfInBounds_toArray, List.set_cons_zero, List.set_cons_succ]
            refine wpAnyH_take (i := 9) (v := .bool true) (at_list rfl) (by kernel_rfl) (by kernel_rfl) (by kernel_rfl) (fun _ _ _ h => h) (Or.inl ⟨by rfl, ?_⟩) hHeld ?_
            · intro v hSv
              clear hHeld
              go_simp
            try simp only [Act.put, List.setIfInBounds_toArray, List.set_cons_zero, List.set_cons_succ]
            refine wpAnyH_done (by kernel_rfl) ?_ _
            refine NoPanic.normal ?_
            have HB := Lib.hid hHeld.1
            have SI := Lib.hid hHeld.2.1
            have K5 := Lib.hid hHeld.2.2.1
            have K4 := Lib.hid hHeld.2.2.2.1
            have KD := Lib.hid hHeld.2.2.2.2.1
            clear hHeld
            go_wp2_with (first | (refine big_fill rfl 34 _ _ rfl gK4 (chA ⟨a, true⟩) rfl rfl K4.out (by kernel_rfl) (by kernel_rfl) (by kernel_rfl) ?_; intro vK49 nK4 htK4; replace K4 := Lib.hid nK4; replace KD := Lib.hid ((KD.out).touch htK4 (Ne.symm OK4KD.out)); replace K7 := Lib.hid ((K7.out).touch htK4 (Ne.symm OK4K7.out)); replace HB := Lib.hid (btouch HB.out htK4 LK4.out); clear nK4 htK4; try simp only [Act.put, List.setIfInBounds_toArray, List.set_cons_zero, List.set_cons_succ]) | (refine big_build rfl 34 _ rfl (chA ⟨a, true⟩) (by kernel_rfl) ?_; try simp only [Act.put, List.setIfInBounds_toArray, List.set_cons_zero, List.set_cons_succ]) | (refine big_whole rfl 31 _ rfl gK7 rfl K7.out Try.underlying31 rfl (by kernel_rfl) ?_; try simp only [Act.put, List.setIfInBounds_toArray, List.set_cons_zero, List.set_cons_succ]))
            refine ⟨by simp, .inl ⟨_, _, rfl, run_takeDeferred KD.out, ?_⟩⟩
            have kq := (KD.out).shut K4.out (.deferred none)
            have kb := (KD.out).below HB.out HD.out (.deferred none)
            exact ⟨_, results_cell_row rfl _ _ gK4 _ _ (0, 0) _ rfl kq Try.underlying34 rfl (by kernel_rfl), by rw [HX.out], kb⟩
          exact AllReadyH.nil
        exact AllReadyH.nil
      refine AllReadyH.cons (at_list rfl) (fun K hK => ?_) ?_
      · refine step_alloc (by rfl) 31 rfl (rsA zeroR) (by kernel_rfl) ?_
        intro gK7 wK7 hlK7 nK7 hbK7
        have K7 := Lib.hid nK7
        have LK7 := Lib.hid (Nat.le_trans (hHeld.1).size hlK7)
        have OSIK7 := Lib.hid ((hHeld.2.1).off hlK7)
        have OK5K7 := Lib.hid ((hHeld.2.2.1).off hlK7)
        have OK4K7 := Lib.hid ((hHeld.2.2.2.1).off hlK7)
        have OKDK7 := Lib.hid ((hHeld.2.2.2.2.1).off hlK7)
        refine hK.out _ _ ?_ (fun hHeld2 => ?_)
        · exact ⟨bstep hHeld.1 hbK7, (hHeld.2.1).keptB hbK7, (hHeld.2.2.1).keptB hbK7, (hHeld.2.2.2.1).keptB hbK7, (hHeld.2.2.2.2.1).keptB hbK7, trivial⟩
        clear hK K hHeld
        have hHeld := hHeld2
        clear hHeld2
        try simp only [Act.put]
        clear hlK7 nK7 hbK7
        try simp only [List.setIfInBounds_toArray, List.set_cons_zero, List.set_cons_succ]
        refine wpAnyH_ready (rs := [2]) (by kernel_rfl) (by simp) ?_
        refine AllReadyH.cons (at_list rfl) (fun K hK => ?_) ?_
        · go_simp
          refine (first7_in _ (heardL r l) _ HYO.out HYL.out (hHeld.2.1)).mono ?_
          rintro e v1 ⟨rfl, hv1⟩
          replace K7 := Lib.hid ((K7.out).keptB hv1)
          rw [HF.out]
          go_wp2_with fail
          refine hK.out _ _ ?_ (fun hHeld2 => ?_)
          · exact ⟨bstep hHeld.1 hv1, (hHeld.2.1).keptB hv1, (hHeld.2.2.1).keptB hv1, (hHeld.2.2.2.1).keptB hv1, (hHeld.2.2.2.2.1).keptB hv1, trivial⟩
          clear hK K hHeld
          have hHeld := hHeld2
          clear hHeld2 hv1
          try simp only [Act.put, List.setIfInBounds_toArray, List.set_cons_zero, List.set_cons_succ]
          refine wpAnyH_ready (rs := [3]) (by kernel_rfl) (by simp) ?_
          refine AllReadyH.cons (at_list rfl) (fun K hK => ?_) ?_
          · go_simp
            refine (at9_yes g2 o2 n2 c2 k (heardL r l) a _ HAK.out hHeld.2.1).mono ?_
            rintro e v2 ⟨rfl, hv2⟩
            replace K7 := Lib.hid ((K7.out).keptB hv2)
            go_wp2_with fail
            refine hK.out _ _ ?_ (fun hHeld2 => ?_)
            · exact ⟨bstep hHeld.1 hv2, (hHeld.2.1).keptB hv2, (hHeld.2.2.1).keptB hv2, (hHeld.2.2.2.1).keptB hv2, (hHeld.2.2.2.2.1).keptB hv2, trivial⟩
            clear hK K hHeld
            have hHeld := hHeld2
            clear hHeld2 hv2
            try simp only [Act.put, List.setIfInBounds_toArray, List.set_cons_zero, List.set_cons_succ]
            refine wpAnyH_take (i := 4) (v := .tuple #[.agg (rsA a), .bool true]) (at_list rfl) (by kernel_rfl) (by kernel_rfl) (by kernel_rfl) (fun _ _ _ h => h) (Or.inl ⟨by rfl, ?_⟩) hHeld ?_
            · intro v hSv
              clear hHeld
              go_simp
            try simp only [Act.put, List.setIfInBounds_toArray, List.set_cons_zero, List.set_cons_succ]
            refine wpAnyH_take (i := 5) (v := .agg (rsA a)) (at_list rfl) (by kernel_rfl) (by kernel_rfl) (by kernel_rfl) (fun _ _ _ h => h) (Or.inl ⟨by rfl, ?_⟩) hHeld ?_
            · intro v hSv
              clear hHeld
              go_simp
            try simp only [Act.put, List.setIfInBounds_toArray, List.set_cons_zero, List.set_cons_succ]
            refine wpAnyH_take (i := 6) (v := .bool true) (at_list rfl) (by kernel_rfl) (by kernel_rfl) (by kernel_rfl) (fun _ _ _ h => h) (Or.inl ⟨by rfl, ?_⟩) hHeld ?_
            · intro v hSv
              clear hHeld
              go_simp
            try simp only [Act.put, List.setIfInBounds_toArray, List.set_cons_zero, List.set_cons_succ]
            refine wpAnyH_ready (rs := [8]) (by kernel_rfl) (by simp) ?_
            refine AllReadyH.cons (at_list rfl) (fun K hK => ?_) AllReadyH.nil
            refine step_fill (by rfl) 31 _ _ rfl gK7 (rsA a) rfl rfl K7.out (by kernel_rfl) (by kernel_rfl) (by kernel_rfl) ?_
            intro vK70 nK7 htK7
            replace K7 := Lib.hid nK7
            refine hK.out _ _ ?_ (fun hHeld2 => ?_)
            · exact ⟨btouch hHeld.1 htK7 LK7.out, (hHeld.2.1).touch htK7 OSIK7.out, (hHeld.2.2.1).touch htK7 OK5K7.out, (hHeld.2.2.2.1).touch htK7 OK4K7.out, (hHeld.2.2.2.2.1).touch htK7 OKDK7.out, trivial⟩
            clear hK K hHeld
            have hHeld := hHeld2
            clear hHeld2
            try simp only [Act.put]
            clear nK7 htK7
            try simp only [List.setIfInBounds_toArray, List.set_cons_zero, List.set_cons_succ]
            refine wpAnyH_take (i := 9) (v := .bool true) (at_list rfl) (by kernel_rfl) (by kernel_rfl) (by kernel_rfl) (fun _ _ _ h => h) (Or.inl ⟨by rfl, ?_⟩) hHeld ?_
            · intro v hSv
              clear hHeld
              go_simp
            try simp only [Act.put, List.setIfInBounds_toArray, List.set_cons_zero, List.set_cons_succ]
            refine wpAnyH_done (by kernel_rfl) ?_ _
            refine NoPanic.normal ?_
            have HB := Lib.hid hHeld.1
            have SI := Lib.hid hHeld.2.1
            have K5 := Lib.hid hHeld.2.2.1
            have K4 := Lib.hid hHeld.2.2.2.1
            have KD := Lib.hid hHeld.2.2.2.2.1
            clear hHeld
            go_wp2_with (first | (refine big_fill rfl 34 _ _ rfl gK4 (chA ⟨a, true⟩) rfl rfl K4.out (by kernel_rfl) (by kernel_rfl) (by kernel_rfl) ?_; intro vK49 nK4 htK4; replace K4 := Lib.hid nK4; replace KD := Lib.hid ((KD.out).touch htK4 (Ne.symm OK4KD.out)); replace K7 := Lib.hid ((K7.out).touch htK4 (Ne.symm OK4K7.out)); replace HB := Lib.hid (btouch HB.out htK4 LK4.out); clear nK4 htK4; try simp only [Act.put, List.setIfInBounds_toArray, List.set_cons_zero, List.set_cons_succ]) | (refine big_build rfl 34 _ rfl (chA ⟨a, true⟩) (by kernel_rfl) ?_; try simp only [Act.put, List.setIfInBounds_toArray, List.set_cons_zero, List.set_cons_succ]) | (refine big_whole rfl 31 _ rfl gK7 rfl K7.out Try.underlying31 rfl (by kernel_rfl) ?_; try simp only [Act.put, List.setIfInBounds_toArray, List.set_cons_zero, List.set_cons_succ]))
            refine ⟨by simp, .inl ⟨_, _, rfl, run_takeDeferred KD.out, ?_⟩⟩
            have kq := (KD.out).shut K4.out (.deferred none)
            have kb := (KD.out).below HB.out HD.out (.deferred none)
            exact ⟨_, results_cell_row rfl _ _ gK4 _ _ (0, 0) _ rfl kq Try.underlying34 rfl (by kernel_rfl), by rw [HX.out], kb⟩
          exact AllReadyH.nil
        exact AllReadyH.nil
      exact AllReadyH.nil
  case stop =>
    rintro D c pre W _ _ h _
    exact h.elim

end Go.Proofs.Ytcmcgkcljefckaa
